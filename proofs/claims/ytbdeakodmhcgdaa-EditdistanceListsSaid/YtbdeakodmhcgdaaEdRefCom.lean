/- The walk of the reference's Common. -/
import Derived.Test.YtbdeakodmhcgdaaEdRefComM
import Derived.Deep.QuietTactic
import Derived.BigQuiet
namespace Go.Proofs.Ytbdeakodmhcgdaa
set_option linter.unusedSimpArgs false
set_option linter.unusedVariables false
set_option maxRecDepth 100000
open Go.RowKit Go.Deep

theorem own_keepC {W W' : World} {base : Nat} {e : TypeId} {size n : Nat} {v : Value} {xs : List Value} (h : W.ownsRow base e size v n xs) (hB : Below W.heap.size W W') : W'.ownsRow base e size v n xs := by
  refine ⟨h.1, ?_⟩
  rcases h.2 with hn | ⟨g, cap, cur, rfl, hb, hg, rest⟩
  · exact .inl hn
  · refine .inr ⟨g, cap, cur, rfl, hb, ?_, rest⟩
    rw [hB.block g ((World.ownsRow.lt h) g rfl).2]; exact hg
theorem own_some {W : World} {base : Nat} {e : TypeId} {n : Nat} {v : Value} {l : List ByteArray} {s : ByteArray} (h : W.ownsRow base e 1 v n (l.map Value.string ++ [.string s])) :
    ∃ g cap, v = .slice (some ⟨g, 0, none⟩) n cap ∧ g < W.heap.size ∧ W.cell? ⟨g, l.length, none⟩ = some (.string s) := by
  have hl := h.1
  rcases h.2 with ⟨_, hn⟩ | ⟨g, cap, cur, rfl, _⟩
  · rw [hn, List.length_append] at hl; simp at hl
  · refine ⟨g, cap, rfl, (h.lt g rfl).2, ?_⟩
    have := h.cells (g := g) rfl l.length (.string s) (by rw [List.getElem?_append_right (by rw [List.length_map]; exact Nat.le_refl _), List.length_map, Nat.sub_self]; rfl)
    rwa [addr_add] at this
/-- the first place of an element -/
theorem first_at {l : List ByteArray} {s : ByteArray} : ∀ (d i p : Nat), p = i + d → ∀ hp : p < l.length, l[p] = s → ∃ x, ∃ hx : x < l.length, i ≤ x ∧ l[x] = s ∧ ∀ k (h : k < l.length), i ≤ k → k < x → l[k] ≠ s
  | 0, i, p, h, hp, e => by
    obtain rfl : p = i := by omega
    exact ⟨p, hp, Nat.le_refl _, e, fun k h h1 h2 => by omega⟩
  | d + 1, i, p, h, hp, e => by
    have hi : i < l.length := by omega
    by_cases e0 : l[i] = s
    · exact ⟨i, hi, Nat.le_refl _, e0, fun k h h1 h2 => by omega⟩
    · obtain ⟨x, hx, h1, h2, h3⟩ := first_at d (i + 1) p (by omega) hp e
      refine ⟨x, hx, by omega, h2, fun k hk hk1 hk2 => ?_⟩
      by_cases ek : k = i
      · subst ek; exact e0
      · exact h3 k hk (by omega) hk2
theorem ne_bytes {x y : ByteArray} (h : ¬ x = y) : (x.toList == y.toList) = false := by
  rw [Bool.eq_false_iff]; intro e; exact h (bytes_eq (by simpa using e))

set_option maxHeartbeats 1000000 in
theorem refCommon_long (xs ys : List ByteArray) (va vb : Value) (w : World) (hx : StrsAt w va xs) (hy : StrsAt w vb ys) (lx : xs.length ≤ 1000000) (ly : ys.length ≤ 1000000) (hlong : 256 < xs.length ∨ 256 < ys.length) :
    Calls Try.prog 29 #[va, vb] w fun e w' => e = .returned (.tuple #[.slice none 0 0, .int .i64 4]) ∧ Below w.heap.size w w' := by
  have hcs : (256 : Int) < xs.length ∨ ((xs.length : Int) ≤ 256 ∧ (256 : Int) < ys.length) := by omega
  obtain ⟨ax, cx, rfl, hcx⟩ := hx
  obtain ⟨ay, cy, rfl, hcy⟩ := hy
  clear hcx hcy hlong
  rcases hcs with h1 | ⟨h1, h2⟩
  all_goals
    go_enter Try.func29, Try.ntmps29
    go_wp2
    go_ret2
    exact ⟨rfl, Below.refl _ _⟩

set_option maxHeartbeats 16000000 in
theorem refCommon_any (xs ys : List ByteArray) (va vb : Value) (w : World) (hx : StrsAt w va xs) (hy : StrsAt w vb ys) (lx : xs.length ≤ 256) (ly : ys.length ≤ 256) :
    Calls Try.prog 29 #[va, vb] w (ComPost xs ys w) := by
  obtain ⟨i0, hi, hz0, hz1, hz2⟩ := info_parts info_str
  have hC := refLengths_any xs ys va vb w hx hy (by omega) (by omega)
  unfold LenPost at hC
  obtain ⟨ax, cx, rfl, hcx⟩ := hx
  obtain ⟨ay, cy, rfl, hcy⟩ := hy
  have HX := Lib.hid hcx
  have HY := Lib.hid hcy
  obtain ⟨n1, hn⟩ : ∃ z, xs.length + 1 = z := ⟨_, rfl⟩
  obtain ⟨m1, hm⟩ : ∃ z, ys.length + 1 = z := ⟨_, rfl⟩
  rw [hn, hm] at hC
  have C := Lib.hid hC
  have HN := Lib.hid (And.intro hn hm)
  have lxI : (xs.length : Int) ≤ 256 := by omega
  have lyI : (ys.length : Int) ≤ 256 := by omega
  clear hcx hcy hC hn hm
  go_enter Try.func29, Try.ntmps29
  go_wp2_with fail
  refine C.out.mono ?_
  rintro e w1 ⟨t, bs, rfl, hL⟩
  have HC := Lib.hid (show ∀ i, i < n1 → w1.cell? ⟨t, i, none⟩ = some (hdrV m1 (bs i)) ∧ bs i < w1.heap.size ∧ ∀ j, j < m1 → w1.cell? ⟨bs i, j, none⟩ = some (intV (LN xs ys i j)) from
    fun i hi => ⟨by have := hL.top.cell (i := i) hi; rwa [if_pos (Nat.zero_le _)] at this, (hL.done i (Nat.zero_le _) hi).2.lt, fun j hj => (hL.done i (Nat.zero_le _) hi).2.cell hj⟩)
  have htl : t < w1.heap.size := hL.top.lt
  have B1 := Lib.hid hL.below
  have hsz1 := hL.below.size
  clear hL
  go_wp2
  go_loopw [7, 8, 9] (fun vo vi vj wr => ∃ (i j : Nat) (out : List ByteArray), i ≤ xs.length ∧ j ≤ ys.length ∧ vi = .int .i64 i ∧ vj = .int .i64 j ∧ (∀ c, IsBest ltB (xs.drop i) (ys.drop j) c → IsBest ltB xs ys (out ++ c)) ∧ wr.ownsRow w1.heap.size 9 1 vo out.length (out.map Value.string) ∧ Below w1.heap.size w1 wr ∧ out.length ≤ i)
    (fun _ vi _ _ => xs.length - (intOf vi).toNat)
  case atStart => exact ⟨0, 0, [], Nat.zero_le _, Nat.zero_le _, rfl, rfl, fun c hc => hc, ⟨rfl, .inl ⟨rfl, rfl⟩⟩, Below.refl _ _, Nat.zero_le _⟩
  case round =>
    obtain ⟨i, j, out, hix, hjy, rfl, rfl, hinv, hown, hB1, hlen⟩ := hrel
    obtain ⟨wo, rfl⟩ : ∃ x, x = wr := ⟨_, rfl⟩
    have HI := Lib.hid hinv
    have HO := Lib.hid hown
    have HB1 := Lib.hid hB1
    have HB := Lib.hid (below_seq B1.out hB1 hsz1)
    have hszr := hB1.size
    clear hinv hown hB1
    have hin : i < n1 := by have := HN.out; omega
    have hjn : j < m1 := by have := HN.out; omega
    have c1 := (HB1.out.cell (p := ⟨t, i, none⟩) htl).trans (HC.out i hin).1
    have c2 := (HB1.out.cell (p := ⟨bs i, j, none⟩) (HC.out i hin).2.1).trans ((HC.out i hin).2.2 j hjn)
    obtain ⟨pb, hpb⟩ : ∃ z, bs i = z := ⟨_, rfl⟩
    obtain ⟨d, hd⟩ : ∃ z, LN xs ys i j = z := ⟨_, rfl⟩
    rw [hpb] at c1 c2
    rw [hd] at c2
    have HPB := Lib.hid hpb
    have HD := Lib.hid hd
    clear hpb hd
    by_cases hpos : 0 < d
    · have hij : i < xs.length ∧ j < ys.length := by
        obtain ⟨_, _, hk0, hm0, _⟩ := best_there (a := xs.drop i) (b := ys.drop j) (by have := HD.out; unfold LN at this; omega)
        rw [List.length_drop] at hk0 hm0
        omega
      obtain ⟨hi1, hj1⟩ := hij
      obtain ⟨bx, ox, rfl, hbx, hcx⟩ := HX.out (by omega)
      obtain ⟨bY, oY, rfl, hbY, hcY⟩ := HY.out (by omega)
      have HCX := Lib.hid hcx
      have HCY := Lib.hid hcY
      clear hcx hcY
      obtain ⟨L, hL0⟩ : ∃ z, out.length = z := ⟨_, rfl⟩
      obtain ⟨L1, hL1⟩ : ∃ z, L + 1 = z := ⟨_, rfl⟩
      have hL1i : (L1 : Int) - 1 = (L : Int) := by omega
      have hLlt : L < L1 := by omega
      have hLltI : (L : Int) < (L1 : Int) := by omega
      have hwL : IntKind.i64.wrap (L : Int) = (L : Int) := IntWalk.i64_in _ (by omega)
      have HLL := Lib.hid (And.intro hL0 hL1)
      go_wp2
      clear c1 c2
      go_loopw [10, 11, 12] (fun vx vy vk wk => ∃ k : Nat, i ≤ k ∧ k ≤ xs.length ∧ vk = .int .i64 k ∧ Fnd xs ys i j (V2 i j k) vx vy ∧ Below wo.heap.size wo wk) (fun _ _ vk _ => xs.length - (intOf vk).toNat)
      case atStart => exact ⟨i, Nat.le_refl _, hix, rfl, Fnd.start xs ys i j, by repeat (first | exact Below.refl _ _ | refine Below.drew ?_)⟩
      case round =>
        obtain ⟨k, hik, hkx, rfl, hF0, hBk⟩ := hrel
        obtain ⟨wk, rfl⟩ : ∃ x, x = wr := ⟨_, rfl⟩
        have HF0 := Lib.hid hF0
        have HBK := Lib.hid hBk
        clear hF0 hBk
        by_cases hklt : k < xs.length
        · have hkI : (k : Int) < (xs.length : Int) := by omega
          have hwk : IntKind.i64.wrap ((k : Int) + 1) = (k : Int) + 1 := IntWalk.i64_in _ (by omega)
          go_wp2
          go_loopw [10, 11, 13] (fun vx vy vm wm => ∃ m : Nat, j ≤ m ∧ m ≤ ys.length ∧ vm = .int .i64 m ∧ Fnd xs ys i j (V3 i j k m) vx vy ∧ Below wo.heap.size wo wm) (fun _ _ vm _ => ys.length - (intOf vm).toNat)
          case atStart => exact ⟨j, Nat.le_refl _, hjy, rfl, HF0.out.row, (by repeat (first | exact Below.refl _ _ | exact HBM.out | exact HBK.out | exact HBL.out | exact below_seq HBM.out (below_drewN _ _) HBM.out.size | exact below_seq HBL.out (below_drewN _ _) HBL.out.size | refine Below.drew ?_))⟩
          case round =>
            obtain ⟨m, hjm, hmy, rfl, hF, hBm⟩ := hrel
            obtain ⟨wm, rfl⟩ : ∃ x, x = wr := ⟨_, rfl⟩
            have HBM := Lib.hid hBm
            by_cases hmlt : m < ys.length
            · have hmI : (m : Int) < (ys.length : Int) := by omega
              have hwm : IntKind.i64.wrap ((m : Int) + 1) = (m : Int) + 1 := IntWalk.i64_in _ (by omega)
              have hBW := below_seq HB.out hBm HB.out.size
              have hBW1 := below_seq HB1.out hBm hszr
              have hk1n : k + 1 < n1 := by have := HN.out; omega
              have hm1n : m + 1 < m1 := by have := HN.out; omega
              have hk1nI : (k : Int) + 1 < (n1 : Int) := by omega
              have hm1nI : (m : Int) + 1 < (m1 : Int) := by omega
              have hinI : (i : Int) < (n1 : Int) := by omega
              have hjnI : (j : Int) < (m1 : Int) := by omega
              have e1 := (hBW.cell (p := ⟨bx, ox + k, none⟩) hbx).trans (HCX.out k hklt)
              have e2 := (hBW.cell (p := ⟨bY, oY + m, none⟩) hbY).trans (HCY.out m hmlt)
              have e3 := (hBW1.cell (p := ⟨t, k + 1, none⟩) htl).trans (HC.out (k + 1) hk1n).1
              have e4 := (hBW1.cell (p := ⟨bs (k + 1), m + 1, none⟩) (HC.out (k + 1) hk1n).2.1).trans ((HC.out (k + 1) hk1n).2.2 (m + 1) hm1n)
              have e5 := (hBW1.cell (p := ⟨t, i, none⟩) htl).trans (HC.out i hin).1
              have e6 := (hBW1.cell (p := ⟨bs i, j, none⟩) (HC.out i hin).2.1).trans ((HC.out i hin).2.2 j hjn)
              rw [HPB.out] at e5 e6
              rw [HD.out] at e6
              have hbd := LN_bd xs ys (k + 1) (m + 1)
              obtain ⟨pk, hpk⟩ : ∃ z, bs (k + 1) = z := ⟨_, rfl⟩
              obtain ⟨d2, hd2⟩ : ∃ z, LN xs ys (k + 1) (m + 1) = z := ⟨_, rfl⟩
              obtain ⟨sx, hsx⟩ : ∃ z, xs[k] = z := ⟨_, rfl⟩
              obtain ⟨sy, hsy⟩ : ∃ z, ys[m] = z := ⟨_, rfl⟩
              rw [hpk] at e3 e4
              rw [hd2] at e4 hbd
              rw [hsx] at e1
              rw [hsy] at e2
              have hwd : IntKind.i64.wrap (d2 + 1) = d2 + 1 := IntWalk.i64_in _ (by omega)
              clear hpk hbd hBm
              by_cases hxy : sx = sy
              · subst hxy
                by_cases hq : d2 + 1 = d
                · have hqb : (d2 + 1 == d) = true := by simpa using hq
                  have hok : OkS xs ys i j k m sx := ⟨hik, hjm, ⟨hklt, hsx⟩, ⟨hmlt, hsy⟩, by rw [hd2, HD.out]; exact hq⟩
                  rcases id hF with ⟨rfl, rfl, hmn⟩ | ⟨p, q, s0, rfl, rfl, hok0, hmn⟩
                  · have HF := Lib.hid (hF.take hok (fun p q s' e _ => by simp only [Value.int.injEq, true_and] at e; omega))
                    clear hF hok hd2 hsx hsy hq hBW hBW1 hmn
                    go_wp2_with fail
                    go_quiet (fail)
                    go_wp2
                    go_roundw
                    case rel => exact ⟨m + 1, by omega, by omega, by go_num, HF.out, (by repeat (first | exact Below.refl _ _ | exact HBM.out | exact HBK.out | exact HBL.out | exact below_seq HBM.out (below_drewN _ _) HBM.out.size | exact below_seq HBL.out (below_drewN _ _) HBL.out.size | refine Below.drew ?_))⟩
                    case measure => simp [intOf] <;> omega
                  · obtain ⟨hp, hs0⟩ := id hok0.2.2.1
                    have hpI : (p : Int) < (xs.length : Int) := by omega
                    have hp0 : decide ((p : Int) < 0) = false := by simp
                    have e7 := (hBW.cell (p := ⟨bx, ox + p, none⟩) hbx).trans (HCX.out p hp)
                    rw [hs0] at e7
                    by_cases hl : ltB sx s0 = true
                    · have hls : Op.bytesLess sx.toList s0.toList = true := by rw [ltB_bytes]; exact hl
                      have HF := Lib.hid (hF.take hok (fun p' q' s' e ho' => by
                        simp only [Value.int.injEq, true_and] at e
                        obtain rfl : p' = p := by omega
                        obtain ⟨_, es⟩ := ho'.2.2.1
                        rw [hs0] at es
                        rw [← es]; exact hl))
                      clear hF hok hd2 hsx hsy hq hBW hBW1 hok0 hs0 hl hmn hp
                      go_wp2_with fail
                      go_quiet (fail)
                      go_wp2
                      go_roundw
                      case rel => exact ⟨m + 1, by omega, by omega, by go_num, HF.out, (by repeat (first | exact Below.refl _ _ | exact HBM.out | exact HBK.out | exact HBL.out | exact below_seq HBM.out (below_drewN _ _) HBM.out.size | exact below_seq HBL.out (below_drewN _ _) HBL.out.size | refine Below.drew ?_))⟩
                      case measure => simp [intOf] <;> omega
                    · have hl : ltB sx s0 = false := by simpa using hl
                      have hls : Op.bytesLess sx.toList s0.toList = false := by rw [ltB_bytes]; exact hl
                      have HF := Lib.hid (hF.leave hok hok0 hl)
                      clear hF hok hd2 hsx hsy hq hBW hBW1 hok0 hs0 hl hmn hp
                      go_wp2_with fail
                      go_quiet (fail)
                      go_wp2
                      go_roundw
                      case rel => exact ⟨m + 1, by omega, by omega, by go_num, HF.out, (by repeat (first | exact Below.refl _ _ | exact HBM.out | exact HBK.out | exact HBL.out | exact below_seq HBM.out (below_drewN _ _) HBM.out.size | exact below_seq HBL.out (below_drewN _ _) HBL.out.size | refine Below.drew ?_))⟩
                      case measure => simp [intOf] <;> omega
                · have hqb : (d2 + 1 == d) = false := by simpa using hq
                  have HF := Lib.hid (hF.skip (fun s ho => hq (by have := ho.2.2.2.2; rw [hd2, HD.out] at this; exact this)))
                  clear hF hd2 hsx hsy hq hBW hBW1
                  go_wp2_with fail
                  go_quiet (fail)
                  go_wp2
                  go_roundw
                  case rel => exact ⟨m + 1, by omega, by omega, by go_num, HF.out, (by repeat (first | exact Below.refl _ _ | exact HBM.out | exact HBK.out | exact HBL.out | exact below_seq HBM.out (below_drewN _ _) HBM.out.size | exact below_seq HBL.out (below_drewN _ _) HBL.out.size | refine Below.drew ?_))⟩
                  case measure => simp [intOf] <;> omega
              · have hne := ne_bytes hxy
                have HF := Lib.hid (hF.skip (fun s ho => hxy (by obtain ⟨_, ea⟩ := ho.2.2.1; obtain ⟨_, eb⟩ := ho.2.2.2.1; rw [← hsx, ← hsy, ea, eb])))
                clear hF hd2 hsx hsy hxy hBW hBW1
                go_wp2_with fail
                go_quiet (fail)
                go_wp2
                go_roundw
                case rel => exact ⟨m + 1, by omega, by omega, by go_num, HF.out, (by repeat (first | exact Below.refl _ _ | exact HBM.out | exact HBK.out | exact HBL.out | exact below_seq HBM.out (below_drewN _ _) HBM.out.size | exact below_seq HBL.out (below_drewN _ _) HBL.out.size | refine Below.drew ?_))⟩
                case measure => simp [intOf] <;> omega
            · obtain rfl : m = ys.length := by omega
              have HF := Lib.hid hF.rowEnd
              clear hF hBm
              go_wp2
              go_roundw
              case rel => exact ⟨k + 1, by omega, by omega, by go_num, HF.out, (by repeat (first | exact Below.refl _ _ | exact HBM.out | exact HBK.out | exact HBL.out | exact below_seq HBM.out (below_drewN _ _) HBM.out.size | exact below_seq HBL.out (below_drewN _ _) HBL.out.size | refine Below.drew ?_))⟩
              case measure => simp [intOf] <;> omega
        · obtain rfl : k = xs.length := by omega
          obtain ⟨p, q, s, rfl, rfl, hok, hmin⟩ := HF0.out.done (by rw [HD.out]; exact hpos)
          obtain ⟨hp, es⟩ := id hok.2.2.1
          obtain ⟨hq, eq⟩ := id hok.2.2.2.1
          obtain ⟨x, hx, hix2, ex, fx⟩ := first_at (p - i) i p (by have := hok.1; omega) hp es
          obtain ⟨y, hy, hjy2, ey, fy⟩ := first_at (q - j) j q (by have := hok.2.1; omega) hq eq
          have HINV := Lib.hid (com_step HI.out hok hmin hix2 hx ex fx hjy2 hy ey fy)
          have HFX := Lib.hid (And.intro ex fx)
          have HFY := Lib.hid (And.intro ey fy)
          have e1 := ((below_seq HB.out HBK.out HB.out.size).cell (p := ⟨bx, ox + p, none⟩) hbx).trans (HCX.out p hp)
          rw [es] at e1
          have HOK := Lib.hid (own_keepC HO.out HBK.out)
          have HBK1 := Lib.hid (below_seq HB1.out HBK.out hszr)
          have hszk := HBK.out.size
          have hpI : (p : Int) < (xs.length : Int) := by omega
          have hoL : out.length ≤ 256 := by omega
          clear HF0 hok hmin es eq ex fx ey fy
          go_wp2_with (at_builtin; refine wpList_append_own _ rfl _ _ 34 rfl w1.heap.size 9 i0 (.string ⟨#[]⟩) 1 16 Try.underlying34 hi hz0 hz1 hz2 rfl (by decide) _ _ _ rfl (HOK.out.alloc _) ⟨wk.heap.size, 0, none⟩ 1 1 [.string s] rfl rfl (one_news _ _ _ _ rfl) (by simp [Value.oneCell']) (by unfold maxLen; omega) (by omega) (by simp; omega) ?_; intro v' w9 hown' hgrow hnn; clear hnn; obtain ⟨g, cap, rfl, hg9, hcl9⟩ := own_some hown'; have HO1 := Lib.hid hown'; have HB9 := Lib.hid (own_below HBK1.out (by omega) HOK.out hgrow); have HCL := Lib.hid hcl9; clear hown' hgrow hcl9; rw [HLL.out.1, HLL.out.2])
          have hcl := HCL.out
          rw [HLL.out.1] at hcl
          have HCL9 := Lib.hid hcl
          clear hcl HCL e1
          have hsz9 := HB9.out.size
          have HBW9 := Lib.hid (below_seq B1.out HB9.out hsz1)
          go_loopw [10, 14] (fun _ vk wl => ∃ k : Nat, i ≤ k ∧ k ≤ x ∧ vk = .int .i64 k ∧ Below w9.heap.size w9 wl) (fun _ vk _ => x - (intOf vk).toNat)
          case atStart => exact ⟨i, Nat.le_refl _, hix2, rfl, by repeat (first | exact Below.refl _ _ | refine Below.drew ?_)⟩
          case round =>
            obtain ⟨k, hik2, hkx2, rfl, hBl⟩ := hrel
            obtain ⟨wl, rfl⟩ : ∃ x, x = wr := ⟨_, rfl⟩
            have HBL := Lib.hid hBl
            have hBLw := below_seq HBW9.out hBl HBW9.out.size
            have hkx3 : k < xs.length := by omega
            have hkI : (k : Int) < (xs.length : Int) := by omega
            have e1 := (hBLw.cell (p := ⟨bx, ox + k, none⟩) hbx).trans (HCX.out k hkx3)
            have e2 := (hBl.cell (p := ⟨g, L, none⟩) hg9).trans HCL9.out
            clear hBl hBLw
            by_cases hkx4 : k = x
            · subst hkx4
              rw [HFX.out.1] at e1
              go_wp2_with fail
              go_quiet (fail)
              go_wp2
              clear e1 e2
              go_loopw [11, 15] (fun _ vk wq => ∃ k : Nat, j ≤ k ∧ k ≤ y ∧ vk = .int .i64 k ∧ Below w9.heap.size w9 wq) (fun _ vk _ => y - (intOf vk).toNat)
              case atStart => exact ⟨j, Nat.le_refl _, hjy2, rfl, (by repeat (first | exact Below.refl _ _ | exact HBM.out | exact HBK.out | exact HBL.out | exact below_seq HBM.out (below_drewN _ _) HBM.out.size | exact below_seq HBL.out (below_drewN _ _) HBL.out.size | refine Below.drew ?_))⟩
              case round =>
                obtain ⟨m, hjm2, hmy2, rfl, hBl⟩ := hrel
                obtain ⟨wq, rfl⟩ : ∃ x, x = wr := ⟨_, rfl⟩
                have HBL := Lib.hid hBl
                have hBLw := below_seq HBW9.out hBl HBW9.out.size
                have hmy3 : m < ys.length := by omega
                have hmI : (m : Int) < (ys.length : Int) := by omega
                have e1 := (hBLw.cell (p := ⟨bY, oY + m, none⟩) hbY).trans (HCY.out m hmy3)
                have e2 := (hBl.cell (p := ⟨g, L, none⟩) hg9).trans HCL9.out
                clear hBl hBLw
                by_cases hmy4 : m = y
                · subst hmy4
                  rw [HFY.out.1] at e1
                  go_wp2_with fail
                  go_quiet (fail)
                  go_wp2
                  clear e1 e2
                  go_roundw
                  case rel =>
                    refine ⟨k + 1, m + 1, out ++ [s], by omega, by omega, by go_num, by go_num, HINV.out, ?_, below_seq HB9.out (by repeat (first | exact Below.refl _ _ | exact HBM.out | exact HBK.out | exact HBL.out | exact below_seq HBM.out (below_drewN _ _) HBM.out.size | exact below_seq HBL.out (below_drewN _ _) HBL.out.size | refine Below.drew ?_)) hsz9, by rw [List.length_append]; simp; omega⟩
                    rw [List.length_append, List.map_append, List.length_singleton, HLL.out.1, HLL.out.2]
                    refine own_keepC (W := w9) ?_ (by repeat (first | exact Below.refl _ _ | exact HBM.out | exact HBK.out | exact HBL.out | exact below_seq HBM.out (below_drewN _ _) HBM.out.size | exact below_seq HBL.out (below_drewN _ _) HBL.out.size | refine Below.drew ?_))
                    have h2 := HO1.out
                    rw [HLL.out.1, HLL.out.2] at h2
                    exact h2
                  case measure => simp [intOf] <;> omega
                · obtain ⟨sk, hsk⟩ : ∃ z, ys[m] = z := ⟨_, rfl⟩
                  have hne := ne_bytes (show ¬ sk = s by rw [← hsk]; exact HFY.out.2 m hmy3 hjm2 (by omega))
                  rw [hsk] at e1
                  clear hsk
                  go_wp2_with fail
                  go_quiet (fail)
                  go_wp2
                  clear e1 e2
                  go_roundw
                  case rel => exact ⟨m + 1, by omega, by omega, by go_num, (by repeat (first | exact Below.refl _ _ | exact HBM.out | exact HBK.out | exact HBL.out | exact below_seq HBM.out (below_drewN _ _) HBM.out.size | exact below_seq HBL.out (below_drewN _ _) HBL.out.size | refine Below.drew ?_))⟩
                  case measure => simp [intOf] <;> omega
            · obtain ⟨sk, hsk⟩ : ∃ z, xs[k] = z := ⟨_, rfl⟩
              have hne := ne_bytes (show ¬ sk = s by rw [← hsk]; exact HFX.out.2 k hkx3 hik2 (by omega))
              rw [hsk] at e1
              clear hsk
              go_wp2_with fail
              go_quiet (fail)
              go_wp2
              clear e1 e2
              go_roundw
              case rel => exact ⟨k + 1, by omega, by omega, by go_num, (by repeat (first | exact Below.refl _ _ | exact HBM.out | exact HBK.out | exact HBL.out | exact below_seq HBM.out (below_drewN _ _) HBM.out.size | exact below_seq HBL.out (below_drewN _ _) HBL.out.size | refine Below.drew ?_))⟩
              case measure => simp [intOf] <;> omega
    · have hd0 : d = 0 := by
        have := LN_bd xs ys i j
        rw [HD.out] at this
        omega
      subst hd0
      have HE := Lib.hid (show IsBest ltB xs ys out by
        have := HI.out [] (best_none ltB (by have := HD.out; unfold LN at this; omega))
        rwa [List.append_nil] at this)
      have HS := Lib.hid (StrsAt.of_own HO.out)
      go_wp2
      go_ret2
      exact ⟨_, _, rfl, HS.out, HE.out, HB.out⟩
end Go.Proofs.Ytbdeakodmhcgdaa
