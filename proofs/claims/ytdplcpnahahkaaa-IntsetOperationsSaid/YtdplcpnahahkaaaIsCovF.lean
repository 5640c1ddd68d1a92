/- The closure covers of IntsetCovers. -/
import Derived.Test.YtdplcpnahahkaaaIsNils
import Derived.Test.YtdplcpnahahkaaaIsSubsets
import Derived.StillTailTactics
import Derived.Laws.AppendOwnNone
import Derived.Laws.EntriesVeiled
namespace Go.Proofs.Ytdplcpnahahkaaa
set_option linter.unusedSimpArgs false
set_option linter.unusedVariables false
set_option maxRecDepth 100000
open Go.RowKit Go.Deep Go.Shelf

set_option maxHeartbeats 1000000 in
theorem cov11_any (T : List Int) (x : Int) (r : Bool) (hr : decide (x ∈ T) = r) (b : Nat) (vT : Value) (w : World) (hc : w.cell? ⟨b, 0, none⟩ = some vT) (hT : IntsAt w vT T) (lT : T.length ≤ 1000000) :
    Calls Try.prog 38 #[intV x, .pointer (some ⟨b, 0, none⟩)] w fun e w' => e = .returned (.bool (!r)) ∧ w = w' := by
  have HC := Lib.hid (contains_any T x r hr vT w hT lT)
  obtain ⟨aT, cT, rfl, _⟩ := hT
  clear hr
  go_enter Try.func38, Try.ntmps38
  go_wp2_with fail
  refine HC.out.mono ?_
  rintro e w1 ⟨rfl, rfl⟩
  go_wp2
  go_ret
  exact ⟨rfl, rfl⟩
set_option maxHeartbeats 1000000 in
theorem cov12_any (T : List Int) (x : Int) (r : Bool) (hr : decide (x ∈ T) = r) (b : Nat) (vT : Value) (w : World) (hc : w.cell? ⟨b, 0, none⟩ = some vT) (hT : IntsAt w vT T) (lT : T.length ≤ 1000000) :
    Calls Try.prog 39 #[intV x, .pointer (some ⟨b, 0, none⟩)] w fun e w' => e = .returned (.bool (!r)) ∧ w = w' := by
  have HC := Lib.hid (contains_any T x r hr vT w hT lT)
  obtain ⟨aT, cT, rfl, _⟩ := hT
  clear hr
  go_enter Try.func39, Try.ntmps39
  go_wp2_with fail
  refine HC.out.mono ?_
  rintro e w1 ⟨rfl, rfl⟩
  go_wp2
  go_ret
  exact ⟨rfl, rfl⟩
theorem wpList_append_ints {P : Program} {w : World} {ops : Array Oper} {rest : List Oper} {o : Oper} {a : Act} {Q : Exit → Act → World → Prop} (hgd : o.guard = none) (s x : Operand) (t : TypeId)
    (ho : o.op = .call { callee := .builtin .append, args := #[s, x], argTypes := #[t, t] })
    (base : Nat) (e : TypeId) (i : TypeInfo) (z : Value) (bytes : Nat) (ht : P.underlying t = some (.slice e)) (hi : P.info? e = some i) (hz : i.zero = some z)
    (hsize : i.size = 1) (hby : i.bytes = bytes) (hzs : z.cells.size = 1)
    (v : Value) (n : Nat) (xs : List Value) (hs : a.eval s = v) (hown : w.ownsRow base e 1 v n xs)
    (u : Option Addr) (c : Nat) (ys : List Int) (hx : a.eval x = .slice u ys.length c) (hI : IntsAt w (.slice u ys.length c) ys) (hu : u = none → c = 0)
    (h63 : n + ys.length ≤ maxLen) (hbytes : (n + ys.length) * bytes ≤ 140737488355328) (hbase : base ≤ w.heap.size)
    (h : ∀ v' w', w'.ownsRow base e 1 v' (n + ys.length) (xs ++ ys.map intV) → w.grownBy w' v.ownBlock → wpList P ops Q rest (a.put o.dst v') w') : wpList P ops Q (o :: rest) a w := by
  cases u with
  | none =>
    obtain rfl := hu rfl
    have hy : ys = [] := by
      obtain ⟨a', c', e', hc⟩ := hI
      cases e'
      rcases Nat.eq_zero_or_pos ys.length with h0 | h0
      · exact List.length_eq_zero_iff.1 h0
      · obtain ⟨b, off, e1, _⟩ := hc h0
        cases e1
    subst hy
    exact wpList_append_own_none hgd s x t ho base e i 1 ht hi v n xs hs hown hx (h v w (by simpa using hown) (World.grownBy.refl _ _))
  | some ad =>
    refine wpList_append_own _ hgd s x t ho base e i z 1 bytes ht hi hz hsize hby hzs (by decide) v n xs hs hown ad ys.length c (ys.map intV) hx (by simp) ?_ ?_ h63 hbytes hbase (fun v' w' k1 k2 _ => h v' w' k1 k2)
    · intro j q hj
      obtain ⟨a', c', e', hc⟩ := hI
      cases e'
      rw [List.getElem?_map] at hj
      obtain ⟨y, hy, rfl⟩ := Option.map_eq_some_iff.1 hj
      obtain ⟨hjl, rfl⟩ := List.getElem?_eq_some_iff.1 hy
      obtain ⟨b, off, e1, _, hcs⟩ := hc (by omega)
      cases e1
      rw [addr_more]; exact hcs j hjl
    · intro q hq
      obtain ⟨y, _, rfl⟩ := List.mem_map.1 hq
      rfl

/-- whether the sets at indices cover a set -/
def covB (T : List Int) (L : List (List Int)) (c : List Nat) : Bool := decide ((∀ i ∈ c, ∀ x ∈ L.getD i [], x ∈ T) ∧ ∀ x ∈ T, ∃ i ∈ c, x ∈ L.getD i [])
def flatL (L : List (List Int)) (c : List Nat) : List Int := (c.map fun i => L.getD i []).flatten
theorem flatL_snoc (L : List (List Int)) (c : List Nat) (i : Nat) : flatL L (c ++ [i]) = flatL L c ++ L.getD i [] := by simp [flatL]
theorem mem_flatL {L : List (List Int)} {c : List Nat} {x : Int} : x ∈ flatL L c ↔ ∃ i ∈ c, x ∈ L.getD i [] := by
  simp only [flatL, List.mem_flatten, List.mem_map]
  exact ⟨fun ⟨l, ⟨i, h1, e⟩, h2⟩ => ⟨i, h1, by rw [e]; exact h2⟩, fun ⟨i, h1, h2⟩ => ⟨_, ⟨i, h1, rfl⟩, h2⟩⟩
theorem flatL_len {L : List (List Int)} (h : ∀ l ∈ L, l.length ≤ 12) (c : List Nat) : (flatL L c).length ≤ 12 * c.length := by
  induction c with
  | nil => simp [flatL]
  | cons i r ih =>
    have e : flatL L (i :: r) = L.getD i [] ++ flatL L r := by simp [flatL]
    rw [e, List.length_append, List.length_cons]
    have : (L.getD i []).length ≤ 12 := by
      rw [List.getD_eq_getElem?_getD]
      cases e : L[i]? with
      | none => simp
      | some v => exact h v (List.mem_of_getElem? e)
    omega

theorem own_join {W : World} {base : Nat} {e : TypeId} {v : Value} {xs ys : List Int} (h : W.ownsRow base e 1 v (xs.length + ys.length) (xs.map intV ++ ys.map intV)) : W.ownsRow base e 1 v (xs ++ ys).length ((xs ++ ys).map intV) := by
  rw [List.length_append, List.map_append]; exact h
set_option maxHeartbeats 4000000 in
theorem covers1_any (T : List Int) (L : List (List Int)) (c : List Nat) (hok : ∀ l ∈ L, l.length ≤ 12) (hc : ∀ i ∈ c, i < L.length) (lc : c.length ≤ 100) (lT : T.length ≤ 1000000) (lL : L.length ≤ 100)
    (b3 b4 : Nat) (vT vL vc : Value) (w : World) (h3 : w.cell? ⟨b3, 0, none⟩ = some vT) (h4 : w.cell? ⟨b4, 0, none⟩ = some vL) (k3 : b3 < w.heap.size) (k4 : b4 < w.heap.size) (hT : IntsAt w vT T) (hL : ListsN w vL L) (hv : IntsAt w vc (upL c)) :
    Calls Try.prog 36 #[vc, .pointer (some ⟨b4, 0, none⟩), .pointer (some ⟨b3, 0, none⟩)] w fun e w' => e = .returned (.bool (covB T L c)) ∧ Below w.heap.size w w' := by
  obtain ⟨i0, hi, hz0, hz1, hz2⟩ := info_parts info_int
  have HOK := Lib.hid hok
  have HCC := Lib.hid hc
  have HT := Lib.hid hT
  have HL := Lib.hid hL
  have HV := Lib.hid hv
  have HB3 := Lib.hid (And.intro h3 (And.intro h4 (And.intro k3 k4)))
  have hcells : ∃ ac cc, vc = .slice ac c.length cc ∧ (0 < c.length → ∃ b off, ac = some ⟨b, off, none⟩ ∧ b < w.heap.size ∧ ∀ j (h : j < c.length), w.cell? ⟨b, off + j, none⟩ = some (intV ((c[j] : Nat) : Int))) := by
    obtain ⟨ac, cc, rfl, hcc⟩ := hv
    have hul : (upL c).length = c.length := by simp [upL]
    refine ⟨ac, cc, by rw [hul], fun h0 => ?_⟩
    obtain ⟨b, off, h1, h2, h3⟩ := hcc (by omega)
    refine ⟨b, off, h1, h2, fun j hj => ?_⟩
    rw [h3 j (by omega)]
    simp [upL]
  obtain ⟨ac, cc, rfl, hcc⟩ := hcells
  obtain ⟨aT, cT, rfl, _⟩ := hT
  obtain ⟨aL, cL, rfl, _⟩ := hL
  have HCV := Lib.hid hcc
  clear hok hc h3 h4 k3 k4 hcc hv
  go_enter Try.func36, Try.ntmps36
  go_wp2
  go_loopw [10] (fun i wr => ∃ (k : Nat) (v : Value), k ≤ c.length ∧ i = .int .i64 k ∧ Boxed wr w.heap.size 22 v ∧ wr.ownsRow w.heap.size 3 1 v (flatL L (c.take k)).length ((flatL L (c.take k)).map intV) ∧ Below w.heap.size w wr ∧ ∀ i ∈ c.take k, ∀ x ∈ L.getD i [], x ∈ T) (fun i _ => c.length - (intOf i).toNat)
  case atStart => exact ⟨0, _, Nat.zero_le _, rfl, Boxed.new _ _ _, World.ownsRow_nil _ _ _ _, alloc_below _ _, by simp⟩
  case round =>
    obtain ⟨k, v, hk, rfl, hbox, hown, hB, hsub⟩ := hrel
    obtain ⟨wk, rfl⟩ : ∃ x, x = wr := ⟨_, rfl⟩
    have HBX := Lib.hid hbox
    have HO := Lib.hid hown
    have HB := Lib.hid hB
    have HSUB := Lib.hid hsub
    obtain ⟨g3, g4, l3, l4⟩ := HB3.out
    have f3 : wk.cell? ⟨b3, 0, none⟩ = some (.slice aT T.length cT) := (hB.cell (p := ⟨b3, 0, none⟩) l3).trans g3
    have f4 : wk.cell? ⟨b4, 0, none⟩ = some (.slice aL L.length cL) := (hB.cell (p := ⟨b4, 0, none⟩) l4).trans g4
    have HTK := Lib.hid (HT.out.below hB)
    have HLK := Lib.hid (HL.out.below hB)
    clear g3 g4 hbox hown hsub
    by_cases hlt : k < c.length
    · obtain ⟨b, off, rfl, hb, hcs⟩ := HCV.out (by omega)
      have hcell : wk.cell? ⟨b, off + k, none⟩ = some (intV ((c[k] : Nat) : Int)) := (hB.cell (p := ⟨b, off + k, none⟩) hb).trans (hcs k hlt)
      have hiL := HCC.out _ (List.getElem_mem hlt)
      have HTT := Lib.hid (List.take_succ_eq_append_getElem hlt)
      have HMM := Lib.hid (List.getElem_mem hlt)
      obtain ⟨i, hii⟩ : ∃ i, c[k] = i := ⟨_, rfl⟩
      rw [hii] at hcell hiL HTT HMM
      obtain ⟨bL, oL, u, cu, rfl, hbL, hcellL, hxs, hun⟩ := HLK.out.elem hiL
      have hlen := HOK.out _ (List.getElem_mem hiL)
      have hget : L.getD i [] = L[i] := by rw [List.getD_eq_getElem?_getD, List.getElem?_eq_getElem hiL]; rfl
      obtain ⟨x, hx⟩ : ∃ x, L[i] = x := ⟨_, rfl⟩
      rw [hx] at hcellL hxs hlen hget
      have HG := Lib.hid hget
      have HX := Lib.hid hxs
      have HUN := Lib.hid hun
      have hfl := flatL_len HOK.out (c.take k)
      rw [List.length_take, Nat.min_eq_left hk] at hfl
      have hCF : ∀ r, decide (∃ y ∈ x, (!decide (y ∈ T)) = true) = r → _ := fun r hr => containsF_any x (fun y => !decide (y ∈ T)) 38 #[.pointer (some ⟨b3, 0, none⟩)] Try.call38 r hr _ wk hxs (Nat.le_trans hlen (by decide))
        (fun m y hy => (cov11_any T y _ rfl b3 _ (wk.drewN m) f3 (HTK.out.below (below_drewN _ _)) lT).mono fun e w' ⟨h, h'⟩ => ⟨h, m, h'.symm⟩)
      have HCF := Lib.hid hCF
      clear hcs hii hx hget hxs hun hCF hB
      by_cases hall : ∀ y ∈ x, y ∈ T
      · have HC := Lib.hid (HCF.out false (by rw [decide_eq_false_iff_not]; rintro ⟨y, h1, h2⟩; simp [hall y h1] at h2))
        have HALL := Lib.hid hall
        clear hall HCF
        go_wp2_with fail
        refine HC.out.mono ?_
        rintro e w1 ⟨rfl, m, hm⟩
        have e3 : w1.cell? ⟨w.heap.size, 0, none⟩ = some v := by rw [hm]; exact HBX.out.cell
        have e4 : w1.cell? ⟨b4, 0, none⟩ = some (.slice (some ⟨bL, oL, none⟩) L.length cL) := by rw [hm]; exact f4
        have e5 : w1.cell? ⟨bL, oL + i, none⟩ = some (.slice u x.length cu) := by rw [hm]; exact hcellL
        have HBX1 := Lib.hid (show Boxed w1 w.heap.size 22 v by rw [hm]; exact HBX.out)
        have HO1 := Lib.hid (show w1.ownsRow w.heap.size 3 1 v (flatL L (c.take k)).length ((flatL L (c.take k)).map intV) by rw [hm]; exact HO.out)
        have HB1 := Lib.hid (show Below w.heap.size w w1 by rw [hm]; exact HB.out.trans (below_drewN_n _ _ _))
        have HX1 := Lib.hid (show IntsAt w1 (.slice u x.length cu) x by rw [hm]; exact HX.out.below (below_drewN _ _))
        obtain ⟨av, cv, rfl, _⟩ := IntsAt.of_own HO1.out
        have hiLi : (i : Int) < (L.length : Int) := by omega
        clear hm HC f3 f4 hcell hcellL HBX HO HB HX
        obtain ⟨S, hS⟩ : ∃ S, flatL L (c.take k) = S := ⟨_, rfl⟩
        rw [hS] at e3 HBX1 HO1 hfl
        go_wp2_with fail
        go_still_tail 5, (by kernel_rfl)
        have HBXD := Lib.hid (show Boxed w1.drew w.heap.size 22 (.slice av S.length cv) from HBX1.out)
        have HOD := Lib.hid (show w1.drew.ownsRow w.heap.size 3 1 (.slice av S.length cv) S.length (S.map intV) from HO1.out)
        have HBD := Lib.hid (HB1.out.trans (show Below w.heap.size w1 w1.drew from ⟨rfl, rfl, rfl, Nat.le_refl _, fun _ _ => rfl⟩))
        have HXD := Lib.hid (HX1.out.below (show Below w1.heap.size w1 w1.drew from ⟨rfl, rfl, rfl, Nat.le_refl _, fun _ _ => rfl⟩))
        clear e3 e4 e5 HBX1 HO1 HB1 HX1
        change wpList _ _ _ _ _ w1.drew
        obtain ⟨wd, hwd⟩ : ∃ x, w1.drew = x := ⟨_, rfl⟩
        rw [hwd] at HBXD HOD HBD HXD
        rw [hwd]
        clear hwd
        go_wp2_with (at_builtin; refine wpList_append_ints rfl _ _ 22 rfl w.heap.size 3 i0 (.int .i64 0) 8 Try.underlying22 hi hz0 hz1 hz2 rfl _ _ _ rfl HOD.out u cu x rfl HXD.out HUN.out (by unfold maxLen; omega) (by omega) HBD.out.size ?_; intro v' w3 hown' hgrow; have hrow' := own_join hown'; have hb3 := HBXD.out.kept hgrow (HBXD.out.not_row (by decide) HOD.out); have hc3 := hb3.cell; have hf3 := hb3.frozen; have HB3' := Lib.hid hb3; have HR3 := Lib.hid hrow'; have HBL := Lib.hid (HBD.out.grown hgrow HBD.out.size (fun k e => (HOD.out.lt k e).1)); obtain ⟨a', c', rfl, _⟩ := IntsAt.of_own hrow'; clear hown' hgrow hrow' hb3; go_frame)
        have hS1 : flatL L (c.take (k + 1)) = S ++ x := by rw [HTT.out, flatL_snoc, hS, HG.out]
        have hRW := HR3.out.kept (grownBy_setCell' w3 w.heap.size (.slice a' (S ++ x).length c')) (.inr (HB3'.out.not_row (by decide) HR3.out).symm)
        rw [← List.length_append]
        refine ⟨⟨k + 1, _, by omega, by go_num, HB3'.out.set _, ?_, HBL.out.setCell (p := ⟨w.heap.size, 0, none⟩) (Nat.le_refl _) _, ?_⟩, ?_⟩
        · rw [hS1]; exact hRW
        · rw [HTT.out]
          intro q hq
          rcases List.mem_append.1 hq with h | h
          · exact HSUB.out q h
          · simp at h; rw [h, HG.out]; exact HALL.out
        · simp [intOf]; omega
      · have HC := Lib.hid (HCF.out true (by
          rw [decide_eq_true_eq]
          exact Classical.byContradiction fun hc => hall fun y h1 => Classical.byContradiction fun h2 => hc ⟨y, h1, by simpa using h2⟩))
        have HALL := Lib.hid hall
        clear hall HCF
        go_wp2_with fail
        refine HC.out.mono ?_
        rintro e w1 ⟨rfl, m, hm⟩
        have HBE := Lib.hid (HB.out.trans (show Below w.heap.size wk w1 by rw [hm]; exact below_drewN_n _ _ _))
        clear hm HC
        go_wp2
        go_ret
        refine ⟨ret_bool ?_, HBE.out⟩
        rw [covB, eq_comm, decide_eq_false_iff_not]
        rintro ⟨h, _⟩
        refine HALL.out ?_
        rw [← HG.out]
        exact h i HMM.out
    · obtain rfl : k = c.length := by omega
      rw [List.take_length] at HO HSUB
      have hfl := flatL_len HOK.out c
      have HS := Lib.hid (IntsAt.of_own HO.out)
      have e3 := HBX.out.cell
      have hCF : ∀ r, decide (∃ y ∈ T, (!decide (y ∈ flatL L c)) = true) = r → _ := fun r hr => containsF_any T (fun y => !decide (y ∈ flatL L c)) 39 #[.pointer (some ⟨w.heap.size, 0, none⟩)] Try.call39 r hr _ wk HTK.out lT
        (fun m y hy => (cov12_any (flatL L c) y _ rfl w.heap.size _ (wk.drewN m) e3 (HS.out.below (below_drewN _ _)) (by omega)).mono fun e w' ⟨h, h'⟩ => ⟨h, m, h'.symm⟩)
      obtain ⟨r, hr⟩ : ∃ r, decide (∃ y ∈ T, (!decide (y ∈ flatL L c)) = true) = r := ⟨_, rfl⟩
      have HCF := Lib.hid (hCF r hr)
      have HRR := Lib.hid hr
      clear hCF hr e3 f4
      go_wp2_with fail
      refine HCF.out.mono ?_
      rintro e w1 ⟨rfl, m, hm⟩
      have HBE := Lib.hid (HB.out.trans (show Below w.heap.size wk w1 by rw [hm]; exact below_drewN_n _ _ _))
      clear hm HCF
      go_wp2
      go_ret
      refine ⟨ret_bool ?_, HBE.out⟩
      rw [← HRR.out, covB, ← decide_not]
      apply decide_eq_decide.2
      constructor
      · intro h
        refine ⟨HSUB.out, fun y hy => ?_⟩
        exact Classical.byContradiction fun hc => h ⟨y, hy, by simpa [mem_flatL] using hc⟩
      · rintro ⟨_, h⟩ ⟨y, hy, hn⟩
        have := mem_flatL.2 (h y hy)
        simp [this] at hn
end Go.Proofs.Ytdplcpnahahkaaa
