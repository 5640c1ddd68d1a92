/- The reference of Distribute. -/
import Derived.Test.YtkiaiiepfphllaaDoorFpBad
namespace Go.Proofs.YtkiaiiepfphllaaDoor
set_option linter.unusedSimpArgs false
set_option linter.unusedVariables false
set_option maxRecDepth 100000
open Go.RowKit

def partOk (x : Int) : Bool := decide (0 ≤ x) && decide (x ≤ 1073741824)
/-- the parts of a total, for parts whose sum is all -/
def distL (total all : Int) : Int → List Int → List Int
  | _, [] => []
  | s, x :: l => (total * (s + x) / all - total * s / all) :: distL total all (s + x) l
def distR (total : Int) (l : List Int) : List Int × Int :=
  if 4096 < l.length then ([], 4) else if isLen total then
    (if l.all partOk then (if sumZ l ≤ 1073741824 then (if sumZ l = 0 then ([], 5) else (distL total (sumZ l) 0 l, 0)) else ([], 4)) else ([], 2))
  else ([], 2)
theorem foldl_add (l : List Int) : ∀ s : Int, l.foldl (· + ·) s = s + sumZ l := by
  induction l with
  | nil => intro s; simp [sumZ]
  | cons x l ih =>
    intro s
    have e : sumZ (x :: l) = x + sumZ l := by rw [sumZ, List.foldl_cons, ih]; omega
    rw [List.foldl_cons, ih, e]; omega
theorem sumZ_cons (x : Int) (l : List Int) : sumZ (x :: l) = x + sumZ l := by
  rw [sumZ, List.foldl_cons, foldl_add]; omega
theorem distL_snoc (total all x : Int) : ∀ (l : List Int) (s : Int), distL total all s (l ++ [x]) = distL total all s l ++ [total * (s + sumZ l + x) / all - total * (s + sumZ l) / all] := by
  intro l
  induction l with
  | nil => intro s; simp [distL, sumZ]
  | cons y l ih =>
    intro s
    rw [List.cons_append, distL, ih, distL, sumZ_cons, List.cons_append]
    rw [show s + y + sumZ l = s + (y + sumZ l) by omega]
theorem distL_len (total all : Int) : ∀ (l : List Int) (s : Int), (distL total all s l).length = l.length := by
  intro l
  induction l with
  | nil => intro s; rfl
  | cons y l ih => intro s; rw [distL, List.length_cons, ih, List.length_cons]
theorem sum_ok (l : List Int) (k : Nat) (hk : l.length ≤ k) (h : l.all partOk = true) : 0 ≤ sumZ l ∧ sumZ l ≤ 1073741824 * (k : Int) := by
  have h1 : l.all isLen = true := by
    rw [List.all_eq_true] at h ⊢
    intro x hx
    have := h x hx
    simp [partOk] at this
    exact isLen_of (by omega) (by omega)
  refine ⟨?_, (sumZ_bd l k hk h1).2⟩
  clear hk h1
  induction l with
  | nil => simp [sumZ]
  | cons x l ih =>
    rw [List.all_cons, Bool.and_eq_true] at h
    have h2 := ih h.2
    have h3 := h.1
    simp [partOk] at h3
    rw [sumZ_cons]; omega
theorem sum_take_le (l : List Int) (j : Nat) (h : l.all partOk = true) : sumZ (l.take j) ≤ sumZ l := by
  have e : sumZ l = sumZ (l.take j) + sumZ (l.drop j) := by
    conv => lhs; rw [← List.take_append_drop j l]
    rw [sumZ, List.foldl_append, foldl_add]; rfl
  have := sum_ok (l.drop j) _ (Nat.le_refl _) (by rw [List.all_eq_true] at h ⊢; exact fun x hx => h x (List.mem_of_mem_drop hx))
  omega

/-- a list and an error -/
def ListPost (r : List Int × Int) (w : World) (e : Ending) (w' : World) : Prop := ∃ v', e = .returned (.tuple #[v', .int .i64 r.2]) ∧ IntsAt w' v' r.1 ∧ Below w.heap.size w w'
theorem IntsAt.none {w : World} : IntsAt w (.slice none 0 0) [] := ⟨Option.none, 0, rfl, fun h => absurd h (by simp)⟩
theorem ListPost.bad {r : List Int × Int} {w : World} {k : Int} (h : r = ([], k)) : ListPost r w (.returned (.tuple #[.slice none 0 0, .int .i64 k])) w := by
  subst h; exact ⟨_, rfl, IntsAt.none, Below.refl _ _⟩

theorem ListPost.own {r : List Int × Int} {w w1 : World} {ds : List Int} {e : TypeId} {n base : Nat} {v : Value} (h : r = (ds, 0)) (ho : w1.ownsRow base e 1 v n (ds.map intV)) (hB : Below w.heap.size w w1) : ListPost r w (.returned (.tuple #[v, .int .i64 0])) w1 := by
  subst h; exact ⟨v, rfl, IntsAt.of_own ho, hB⟩
theorem prod_bd (a s : Int) (h1 : -1073741824 ≤ a) (h2 : a ≤ 1073741824) (h3 : 0 ≤ s) (h4 : s ≤ 1073741824) : -1152921504606846976 ≤ a * s ∧ a * s ≤ 1152921504606846976 := by
  have e1 := Int.mul_le_mul_of_nonneg_right h2 h3
  have e2 := Int.mul_le_mul_of_nonneg_right h1 h3
  omega
theorem quot_bd (u m : Int) (h1 : -1152921504606846976 ≤ u) (h2 : u ≤ 1152921504606846976) (h3 : 1 ≤ m) : -1152921504606846976 ≤ u / m ∧ u / m ≤ 1152921504606846976 := by
  refine ⟨(Int.le_ediv_iff_mul_le (by omega)).2 (by omega), Int.ediv_le_of_le_mul (by omega) (by omega)⟩

set_option maxHeartbeats 2000000 in
theorem refDist_any (total : Int) (zs : List Int) (v : Value) (w : World) (hv : IntsAt w v zs) (hl : zs.length ≤ 9223372036854775807) :
    Calls Tryd.prog 23 #[.int .i64 total, v] w (ListPost (distR total zs) w) := by
  obtain ⟨i0, hi, hz0, hz1, hz2⟩ := info_parts info_int
  obtain ⟨res, hres⟩ : ∃ res, distR total zs = res := ⟨_, rfl⟩
  rw [hres]
  rw [distR] at hres
  obtain ⟨a, cap, rfl, hc⟩ := hv
  have HC := Lib.hid hc
  clear hc
  by_cases hbig : 4096 < zs.length
  · rw [if_pos hbig] at hres
    subst hres
    go_enter Tryd.func23, Tryd.ntmps23
    go_wp2
    go_ret2
    exact ListPost.bad rfl
  · rw [if_neg hbig] at hres
    by_cases hlen : isLen total = true
    · rw [if_pos hlen] at hres
      have HR := Lib.hid hres
      clear hres
      have htb := isLen_bd hlen
      have HK := Lib.hid (show chkN total = 0 by rw [chkN, hlen]; rfl)
      clear hlen
      go_enter Tryd.func23, Tryd.ntmps23
      go_wp2_with (go_at_call 16; refine (refChk_at total 0 HK.out _).mono ?_; rintro e w' ⟨rfl, rfl⟩)
      go_loop [6, 7] (fun s i => ∃ j : Nat, j ≤ zs.length ∧ i = .int .i64 j ∧ s = .int .i64 (sumZ (zs.take j)) ∧ (zs.take j).all partOk = true) (fun _ i => zs.length - (intOf i).toNat)
      case atStart => exact ⟨0, Nat.zero_le _, rfl, rfl, rfl⟩
      case round =>
        obtain ⟨j, hj, rfl, rfl, hall⟩ := hrel
        have hb := sum_ok (zs.take j) 4096 (by rw [List.length_take]; omega) hall
        have HA := Lib.hid hall
        clear hall
        obtain ⟨sm, hsm⟩ : ∃ sm, sumZ (zs.take j) = sm := ⟨_, rfl⟩
        rw [hsm] at hb ⊢
        have HS := Lib.hid hsm
        clear hsm
        by_cases hlt : j < zs.length
        · obtain ⟨b, off, rfl, hbb, hcs⟩ := HC.out (by omega)
          have hcell := hcs j hlt
          clear hcs
          obtain ⟨x, hx⟩ : ∃ x, zs[j] = x := ⟨_, rfl⟩
          rw [hx] at hcell
          have HX := Lib.hid hx
          clear hx
          by_cases hok : 0 ≤ x ∧ x ≤ 1073741824
          · obtain ⟨x0, x1⟩ := hok
            go_wp2
            go_round
            case rel =>
              refine ⟨j + 1, by omega, by go_num, ?_, ?_⟩
              · rw [take_succ_int zs j hlt, sumZ_snoc, HS.out, HX.out]
              · rw [take_succ_int zs j hlt, List.all_append, HA.out, HX.out]; simp [partOk, x0, x1]
            case measure => simp [intOf]; omega
          · have hres2 : res = ([], 2) := by
              rw [← HR.out, if_neg]
              intro hall
              rw [List.all_eq_true] at hall
              have := hall _ (List.getElem_mem hlt)
              rw [HX.out] at this
              simp [partOk] at this
              exact hok this
            have HRR := Lib.hid hres2
            clear hres2
            by_cases x0 : x < 0
            · clear hok
              go_wp2
              go_ret2
              exact ListPost.bad HRR.out
            · have x1 : 1073741824 < x := by omega
              clear hok
              go_wp2
              go_ret2
              exact ListPost.bad HRR.out
        · obtain rfl : j = zs.length := by omega
          have e1 := HS.out
          have e2 := HA.out
          rw [List.take_length] at e1 e2
          have HE : res = (if sm ≤ 1073741824 then if sm = 0 then ([], 5) else (distL total sm 0 zs, 0) else ([], 4)) := by rw [← HR.out, if_pos e2, e1]
          by_cases s1 : 1073741824 < sm
          · have HEE := Lib.hid (show res = ([], 4) by rw [HE, if_neg (by omega)])
            clear e1 e2 HE
            go_wp2
            go_ret2
            exact ListPost.bad HEE.out
          · by_cases s0 : sm = 0
            · have HEE := Lib.hid (show res = ([], 5) by rw [HE, if_pos (by omega), if_pos s0])
              clear e1 e2 HE
              subst s0
              go_wp2
              go_ret2
              exact ListPost.bad HEE.out
            · have HEE := Lib.hid (show res = (distL total sm 0 zs, 0) by rw [HE, if_pos (by omega), if_neg s0])
              have HALL := Lib.hid e2
              have HSM := Lib.hid e1
              clear e1 e2 HE HS HA
              have s2 : (sm == 0) = false := by simpa using s0
              have m0 : 1 ≤ sm := by omega
              have m1 : sm ≤ 1073741824 := by omega
              clear hb hj hlt s1
              go_wp2
              go_loopw [8, 9, 10] (fun o s i wr => ∃ j : Nat, j ≤ zs.length ∧ i = .int .i64 j ∧ s = .int .i64 (sumZ (zs.take j)) ∧ wr.ownsRow w.heap.size 3 1 o (distL total sm 0 (zs.take j)).length ((distL total sm 0 (zs.take j)).map intV) ∧ Below w.heap.size w wr)
                (fun _ _ i _ => zs.length - (intOf i).toNat)
              case atStart => exact ⟨0, Nat.zero_le _, rfl, rfl, World.ownsRow_lit _ #[] 0 (Nat.le_refl _) (by simp [maxLen]) rfl, (Below.refl _ _).alloc (Nat.le_refl _) _⟩
              case round =>
                obtain ⟨j, hj, rfl, rfl, hown, hB⟩ := hrel
                have hdl := distL_len total sm (zs.take j) 0
                rw [List.length_take, Nat.min_eq_left hj] at hdl
                obtain ⟨p0, _⟩ := sum_ok (zs.take j) _ (Nat.le_refl _) (by have := HALL.out; rw [List.all_eq_true] at this ⊢; exact fun x hx => this x (List.mem_of_mem_take hx))
                have p1 := sum_take_le zs j HALL.out
                rw [HSM.out] at p1
                obtain ⟨ds, hds⟩ : ∃ ds, distL total sm 0 (zs.take j) = ds := ⟨_, rfl⟩
                rw [hds] at hown hdl
                obtain ⟨s, hs⟩ : ∃ s, sumZ (zs.take j) = s := ⟨_, rfl⟩
                rw [hs] at p0 p1 ⊢
                have HDS := Lib.hid hds
                have HSS := Lib.hid hs
                have HO := Lib.hid hown
                clear hds hs hown
                by_cases hlt : j < zs.length
                · obtain ⟨b, off, rfl, hbb, hcs⟩ := HC.out (by omega)
                  have hcell := hcs j hlt
                  clear hcs
                  have hcell' : wr.cell? ⟨b, off + j, none⟩ = some (.int .i64 zs[j]) := (hB.cell (p := ⟨b, off + j, none⟩) hbb).trans hcell
                  clear hcell
                  have hpo := (List.all_eq_true.1 HALL.out) zs[j] (List.getElem_mem hlt)
                  have q1 := sum_take_le zs (j + 1) HALL.out
                  rw [HSM.out, take_succ_int zs j hlt, sumZ_snoc, HSS.out] at q1
                  obtain ⟨x, hx⟩ : ∃ x, zs[j] = x := ⟨_, rfl⟩
                  rw [hx] at hcell' hpo q1
                  have HX := Lib.hid hx
                  clear hx
                  simp [partOk] at hpo
                  obtain ⟨x0, x1⟩ := hpo
                  obtain ⟨a1, a2⟩ := prod_bd total s htb.1 htb.2 p0 (by omega)
                  obtain ⟨b1, b2⟩ := prod_bd total (s + x) htb.1 htb.2 (by omega) (by omega)
                  obtain ⟨u1, hu1⟩ : ∃ u, total * s = u := ⟨_, rfl⟩
                  obtain ⟨u2, hu2⟩ : ∃ u, total * (s + x) = u := ⟨_, rfl⟩
                  rw [hu1] at a1 a2
                  rw [hu2] at b1 b2
                  obtain ⟨f1, hf1⟩ : ∃ f, u1 / sm = f := ⟨_, rfl⟩
                  obtain ⟨f2, hf2⟩ : ∃ f, u2 / sm = f := ⟨_, rfl⟩
                  obtain ⟨c1, c2⟩ := quot_bd u1 sm a1 a2 m0
                  obtain ⟨d1, d2⟩ := quot_bd u2 sm b1 b2 m0
                  rw [hf1] at c1 c2
                  rw [hf2] at d1 d2
                  have HU1 := Lib.hid hu1
                  have HU2 := Lib.hid hu2
                  have HF1 := Lib.hid hf1
                  have HF2 := Lib.hid hf2
                  clear hu1 hu2 hf1 hf2
                  have ht : distL total sm 0 (zs.take (j + 1)) = ds ++ [f2 - f1] := by
                    rw [take_succ_int zs j hlt, distL_snoc, HDS.out, HSS.out, HX.out, Int.zero_add, HU1.out, HU2.out, HF1.out, HF2.out]
                  have HT := Lib.hid ht
                  clear ht
                  have HC1 := Lib.hid (refFloor_at u1 sm f1 HF1.out (by omega) (by omega) (by omega) (by omega))
                  have HC2 := Lib.hid (refFloor_at u2 sm f2 HF2.out (by omega) (by omega) (by omega) (by omega))
                  have hw1 : IntKind.i64.wrap (total * s) = u1 := by rw [HU1.out]; exact IntWalk.i64_in _ (by omega)
                  have HW2 := Lib.hid (show IntKind.i64.wrap (total * (s + x)) = u2 by rw [HU2.out]; exact IntWalk.i64_in _ (by clear hw1; omega))
                  go_wp2_with (first
                    | (go_at_call 43; have _g := hw1; clear _g; refine (HC1.out _).mono ?_; rintro e w' ⟨rfl, rfl⟩; clear hw1; have hw2 := HW2.out)
                    | (go_at_call 43; refine (HC2.out _).mono ?_; rintro e w' ⟨rfl, rfl⟩; clear hw2)
                    | (at_builtin; refine wpList_append_own _ rfl _ _ 30 rfl w.heap.size 3 i0 (.int .i64 0) 1 8 Tryd.underlying30 hi hz0 hz1 hz2 rfl (by decide) _ _ _ rfl (HO.out.alloc _) ⟨wr.heap.size, 0, none⟩ 1 1 [.int .i64 _] rfl rfl (int_news _ _ _ _ rfl) (by simp [Value.oneCell']) (by unfold maxLen; omega) (by omega) (by have := hB.size; simp; omega) ?_; intro v' w1 hown' hgrow hnn; clear hnn; have HO1 := Lib.hid hown'; have HB1 := Lib.hid (own_below hB hB.size HO.out hgrow); clear hown' hgrow))
                  have HN := Lib.hid (show wrap64 (f2 - f1) = f2 - f1 from IntWalk.wrap64_in _ (by omega))
                  go_roundw
                  case rel =>
                    refine ⟨j + 1, by omega, by go_num, ?_, ?_, HB1.out⟩
                    · rw [take_succ_int zs j hlt, sumZ_snoc, HSS.out, HX.out]
                    · have h1 := HO1.out
                      try rw [HN.out] at h1
                      rw [HT.out]
                      simpa using h1
                  case measure => simp [intOf]; omega
                · obtain rfl : j = zs.length := by omega
                  go_wp2
                  go_ret2
                  exact ListPost.own (HEE.out.trans (by rw [← HDS.out, List.take_length])) HO.out hB
    · rw [if_neg hlen] at hres
      subst hres
      have HK := Lib.hid (show chkN total = 2 by rw [chkN, if_neg hlen])
      clear hlen
      go_enter Tryd.func23, Tryd.ntmps23
      go_wp2_with (go_at_call 16; refine (refChk_at total 2 HK.out _).mono ?_; rintro e w' ⟨rfl, rfl⟩)
      go_ret2
      exact ListPost.bad rfl
end Go.Proofs.YtkiaiiepfphllaaDoor
