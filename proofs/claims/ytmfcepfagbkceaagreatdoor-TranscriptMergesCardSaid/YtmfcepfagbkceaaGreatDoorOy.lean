/- Stage 10 (transcript): TrFind TrList, put together by merge10.py. -/
import Derived.Test.YtmfcepfagbkceaaGreatDoorOr
import Derived.Test.YtmfcepfagbkceaaGreatDoorOc1
namespace Go.Proofs.YtmfcepfagbkceaaGreatDoor
set_option linter.unusedSimpArgs false
set_option linter.unusedVariables false
set_option maxRecDepth 100000
open Go.RowKit Go.Shelf Go.Deep
theorem CsOf.get {W : World} {P : Nat → Prop} : ∀ {l : List Nd} {cs : List Value}, CsOf W P cs l → ∀ {j : Nat} (hj : j < l.length), ∃ s, cs[j * 4]? = some (intV l[j].kd) ∧ cs[j * 4 + 1]? = some (sV l[j].tx) ∧ cs[j * 4 + 2]? = some (intV l[j].nm) ∧ cs[j * 4 + 3]? = some s ∧ VAt W P (.agg #[intV l[j].kd, sV l[j].tx, intV l[j].nm, s]) l[j]
  | [], cs, h, j, hj => absurd hj (by simp)
  | x :: l, cs, h, 0, _ => by
    rw [CsOf] at h
    obtain ⟨s, rest, rfl, hv, h⟩ := h
    exact ⟨s, rfl, rfl, rfl, rfl, hv⟩
  | x :: l, cs, h, j + 1, hj => by
    rw [CsOf] at h
    obtain ⟨s, rest, rfl, hv, h⟩ := h
    obtain ⟨s', h0, h1, h2, h3, h4⟩ := CsOf.get h (j := j) (by simpa using hj)
    refine ⟨s', ?_, ?_, ?_, ?_, h4⟩
    · rw [show (j + 1) * 4 = j * 4 + 4 by omega]; exact h0
    · rw [show (j + 1) * 4 + 1 = j * 4 + 1 + 4 by omega]; exact h1
    · rw [show (j + 1) * 4 + 2 = j * 4 + 2 + 4 by omega]; exact h2
    · rw [show (j + 1) * 4 + 3 = j * 4 + 3 + 4 by omega]; exact h3
def idxN (p : Nd → Bool) (L : List Nd) : Int := match L.findIdx? p with | some i => (i : Nat) | none => -1
theorem idxN_hit {p : Nd → Bool} {L : List Nd} {j : Nat} (hj : j < L.length) (h : ∀ i (hi : i < L.length), i < j → p L[i] = false) (hp : p L[j] = true) : idxN p L = (j : Nat) := by
  unfold idxN
  have : L.findIdx? p = some j := by
    rw [List.findIdx?_eq_some_iff_getElem]
    refine ⟨hj, hp, fun i hi => ?_⟩
    rw [h i (by omega) hi]
    simp
  rw [this]
theorem idxN_none {p : Nd → Bool} {L : List Nd} (h : ∀ i (hi : i < L.length), p L[i] = false) : idxN p L = -1 := by
  unfold idxN
  have : L.findIdx? p = none := by
    rw [List.findIdx?_eq_none_iff]
    intro x hx
    obtain ⟨i, hi, rfl⟩ := List.mem_iff_getElem.1 hx
    exact h i hi
  rw [this]
theorem idxN_any (p : Nd → Bool) (L : List Nd) : decide (0 ≤ idxN p L) = L.any p := by
  unfold idxN
  cases h : L.findIdx? p with
  | none =>
    rw [List.findIdx?_eq_none_iff] at h
    have : L.any p = false := by
      rw [List.any_eq_false]
      intro x hx
      rw [h x hx]
      simp
    rw [this]
    rfl
  | some i =>
    have hs := (List.findIdx?_eq_some_iff_getElem).1 h
    obtain ⟨hi, hp, _⟩ := hs
    have : L.any p = true := List.any_eq_true.2 ⟨L[i], List.getElem_mem hi, hp⟩
    rw [this]
    exact decide_eq_true (by show (0 : Int) ≤ ((i : Nat) : Int); omega)
set_option maxHeartbeats 2000000 in
theorem indexN_any (F : FuncId) (hce : ∀ args W, Sem.run Tryz.prog (callFunc F args) W = .ok (.enter F args) W) (p : Nd → Bool) (L : List Nd) (v : Value) (P : Nat → Prop) (w : World) (hv : Src w P v L) (hl : L.length ≤ 100000)
    (hp : ∀ j (h : j < L.length) s W, Below w.heap.size w W → VAt W P (.agg #[intV L[j].kd, sV L[j].tx, intV L[j].nm, s]) L[j] → Calls Tryz.prog F #[.agg #[intV L[j].kd, sV L[j].tx, intV L[j].nm, s]] W fun e W' => e = .returned (.bool (p L[j])) ∧ Below W.heap.size W W') :
    Calls Tryz.prog 67 #[v, .func (.func F) #[] #[]] w fun e w' => e = .returned (intV (idxN p L)) ∧ Below w.heap.size w w' := by
  obtain ⟨a, c, cs, rfl, hcs, hcell, hnone⟩ := hv
  have HCS := Lib.hid hcs
  have HCE := Lib.hid hcell
  have HNO := Lib.hid hnone
  have HP := Lib.hid hp
  clear hcs hcell hnone hp
  go_enter Tryz.func67, Tryz.ntmps67
  go_wp2
  go_loopw [8] (fun iv wr => ∃ j : Nat, j ≤ L.length ∧ iv = .int .i64 j ∧ (∀ i (hi : i < L.length), i < j → p L[i] = false) ∧ Below w.heap.size w wr) (fun iv _ => L.length - (intOf iv).toNat)
  case atStart => exact ⟨0, Nat.zero_le _, rfl, fun i _ h => absurd h (by omega), Below.refl _ _⟩
  case round =>
    obtain ⟨j, hj, rfl, hno, hB⟩ := hrel
    obtain ⟨wk, rfl⟩ : ∃ x, x = wr := ⟨_, rfl⟩
    have HN := Lib.hid hno
    have HB := Lib.hid hB
    clear hno
    by_cases hlt : j < L.length
    · obtain ⟨q, rfl⟩ : ∃ q, a = some q := by
        cases a with
        | none => rw [HNO.out rfl] at hlt; simp at hlt
        | some q => exact ⟨q, rfl⟩
      obtain ⟨s, g0, g1, g2, g3, hx⟩ := HCS.out.get hlt
      have c0 := HCE.out q rfl _ _ g0
      have c1 := HCE.out q rfl _ _ g1
      have c2 := HCE.out q rfl _ _ g2
      have c3 := HCE.out q rfl _ _ g3
      obtain ⟨b, off, sp⟩ := q
      obtain ⟨_, g00, _⟩ := HCS.out.get (show 0 < L.length by omega)
      have hsp := World.cell?_spot (HCE.out _ rfl _ _ g00)
      have hs : sp = none := by simpa [Addr.add] using hsp
      subst hs
      clear g00
      rw [add_plainT] at c0 c1 c2 c3
      have hbb := cellT_lt c0
      rw [← Nat.add_assoc] at c1 c2 c3
      have d0 := (hB.cell (p := ⟨b, off + j * 4, none⟩) hbb).trans c0
      have d1 := (hB.cell (p := ⟨b, off + j * 4 + 1, none⟩) hbb).trans c1
      have d2 := (hB.cell (p := ⟨b, off + j * 4 + 2, none⟩) hbb).trans c2
      have d3 := (hB.cell (p := ⟨b, off + j * 4 + 3, none⟩) hbb).trans c3
      obtain ⟨r, hr⟩ : ∃ r, p L[j] = r := ⟨_, rfl⟩
      have HC := Lib.hid (HP.out j hlt s wk hB (hx.below hB))
      rw [hr] at HC
      obtain ⟨x, hxe⟩ : ∃ x, L[j] = x := ⟨_, rfl⟩
      rw [hxe] at d0 d1 d2 HC
      obtain ⟨xk, hxk⟩ : ∃ z, x.kd = z := ⟨_, rfl⟩
      obtain ⟨xt, hxt⟩ : ∃ z, x.tx = z := ⟨_, rfl⟩
      obtain ⟨xn, hxn⟩ : ∃ z, x.nm = z := ⟨_, rfl⟩
      rw [hxk, hxt, hxn] at HC
      rw [hxk] at d0
      rw [hxt] at d1
      rw [hxn] at d2
      have HR := Lib.hid hr
      have i0 : (0 : Int) ≤ (j : Int) := by omega
      have i1 : (j : Int) < (L.length : Int) := by omega
      clear g0 g1 g2 g3 hx c0 c1 c2 c3 hbb hB hxk hxt hxn hxe hr hsp
      go_wp2_with fail
      refine HC.out.mono ?_
      rintro e w2 ⟨rfl, h2⟩
      have HB2 := Lib.hid (below_then HB.out h2)
      clear h2 d0 d1 d2 d3 HC
      cases r
      · go_wp2
        go_roundw
        case rel => exact ⟨j + 1, by omega, by go_num, fun i hi h => by
          rcases Nat.lt_or_ge i j with h3 | h3
          · exact HN.out i hi h3
          · obtain rfl : i = j := by omega
            exact HR.out, HB2.out⟩
        case measure => simp [intOf]; omega
      · have HZ := Lib.hid (idxN_hit hlt HN.out HR.out)
        go_wp2
        go_ret
        exact ⟨by rw [HZ.out]; rfl, HB2.out⟩
    · have HZ := Lib.hid (show idxN p L = -1 from idxN_none fun i hi => HN.out i hi (by omega))
      obtain rfl : j = L.length := by omega
      clear hB
      go_wp2
      go_ret
      exact ⟨by rw [HZ.out]; rfl, HB.out⟩
theorem containsN_any (F : FuncId) (hce : ∀ args W, Sem.run Tryz.prog (callFunc F args) W = .ok (.enter F args) W) (p : Nd → Bool) (L : List Nd) (r : Bool) (hr : L.any p = r) (v : Value) (P : Nat → Prop) (w : World) (hv : Src w P v L) (hl : L.length ≤ 100000)
    (hp : ∀ j (h : j < L.length) s W, Below w.heap.size w W → VAt W P (.agg #[intV L[j].kd, sV L[j].tx, intV L[j].nm, s]) L[j] → Calls Tryz.prog F #[.agg #[intV L[j].kd, sV L[j].tx, intV L[j].nm, s]] W fun e W' => e = .returned (.bool (p L[j])) ∧ Below W.heap.size W W') :
    Calls Tryz.prog 36 #[v, .func (.func F) #[] #[]] w fun e w' => e = .returned (.bool r) ∧ Below w.heap.size w w' := by
  have HC := Lib.hid (indexN_any F hce p L v P w hv hl hp)
  obtain ⟨a, c, cs, rfl, _⟩ := hv
  obtain ⟨k, hk⟩ : ∃ k, idxN p L = k := ⟨_, rfl⟩
  have HR := Lib.hid (show decide (0 ≤ k) = r by rw [← hk, idxN_any, hr])
  rw [hk] at HC
  clear hk hp hr
  go_enter Tryz.func36, Tryz.ntmps36
  go_wp2_with fail
  refine HC.out.mono ?_
  rintro e w2 ⟨rfl, h2⟩
  have HB2 := Lib.hid h2
  clear h2
  go_wp2
  go_ret
  exact ⟨by rw [← HR.out]; rfl, HB2.out⟩
end Go.Proofs.YtmfcepfagbkceaaGreatDoor
namespace Go.Proofs.YtmfcepfagbkceaaGreatDoor
set_option linter.unusedSimpArgs false
set_option linter.unusedVariables false
set_option maxRecDepth 100000
open Go.RowKit Go.Shelf Go.Deep
theorem wpList_append_nd {P : Program} {w : World} {ops : Array Oper} {rest : List Oper} {o : Oper} {a : Act} {Q : Exit → Act → World → Prop} (hgd : o.guard = none) (s x : Operand) (t : TypeId)
    (ho : o.op = .call { callee := .builtin .append, args := #[s, x], argTypes := #[t, t] })
    (base : Nat) (e : TypeId) (i : TypeInfo) (z : Value) (bytes : Nat) (ht : P.underlying t = some (.slice e)) (hi : P.info? e = some i) (hz : i.zero = some z)
    (hsize : i.size = 4) (hby : i.bytes = bytes) (hzs : z.cells.size = 4)
    (v : Value) (n : Nat) (xs : List Value) (hs : a.eval s = v) (hown : w.ownsRow base e 4 v n xs)
    (u : Option Addr) (c m : Nat) (ys : List Value) (hx : a.eval x = .slice u m c) (hM : ∀ p, u = some p → ∀ j z, ys[j]? = some z → w.cell? (p.add j) = some z) (hyl : ys.length = m * 4) (hy1 : ∀ z ∈ ys, z.oneCell' = true) (h0 : u = none → m = 0)
    (h63 : n + m ≤ 1000000) (hbytes : bytes ≤ 1000000) (hbase : base ≤ w.heap.size)
    (h : ∀ v' w', w'.ownsRow base e 4 v' (n + m) (xs ++ ys) → w.grownBy w' v.ownBlock → wpList P ops Q rest (a.put o.dst v') w') : wpList P ops Q (o :: rest) a w := by
  cases u with
  | none =>
    obtain rfl := h0 rfl
    obtain rfl : ys = [] := List.eq_nil_of_length_eq_zero (by omega)
    refine wpList_plain hgd fun K hK => ?_
    have hrun := run_append_owned_noneC (P := P) (w := w) base t o.type e i 4 c ht hi v _ _ hown
    unfold Oper.wp
    simp [execOp, ho, resolve, invoke, builtin, hs, hx, hrun, Result.andThen]
    exact hK _ _ (h v w (by simpa using hown) (World.grownBy.refl _ _))
  | some ad =>
    refine wpList_append_own _ hgd s x t ho base e i z 4 bytes ht hi hz hsize hby hzs (by decide) v _ _ hs hown ad m c ys hx hyl (hM ad rfl) hy1 (by unfold maxLen; omega) ?_ hbase (fun v' w' k1 k2 _ => h v' w' k1 k2)
    have := Nat.mul_le_mul h63 hbytes
    omega
theorem cs_nil' (W : World) (P : Nat → Prop) : CsOf W P [] [] := by rw [CsOf]
theorem src_low {W : World} {P : Nat → Prop} {v : Value} {l : List Nd} (h : VsAt W P v l) : ∃ (a : Option Addr) (c : Nat) (cs : List Value), v = .slice a l.length c ∧ CsOf W (fun b => b < W.heap.size) cs l ∧ (∀ p, a = some p → ∀ j u, cs[j]? = some u → W.cell? (p.add j) = some u) ∧ (a = none → l.length = 0) := by
  obtain ⟨a, c, cs, e, h1, h2, h3⟩ := src_of_vs h
  exact ⟨a, c, cs, e, h1.mono fun b hb _ => hb, h2, fun e => by rw [h3 e]; rfl⟩
def ClonePost (L : List Nd) (w : World) (e : Ending) (w' : World) : Prop := ∃ u cs, e = .returned u ∧ w'.ownsRow w.heap.size nT 4 u L.length cs ∧ CsOf w' (fun b => b < w.heap.size) cs L ∧ Below w.heap.size w w'
set_option maxHeartbeats 1000000 in
theorem cloneN_any (L : List Nd) (hl : L.length ≤ 100000) (v : Value) (P : Nat → Prop) (w : World) (hv : VsAt w P v L) :
    Calls Tryz.prog 87 #[v] w (ClonePost L w) := by
  obtain ⟨i0, hi, hz0, hz1, hz2⟩ := info_parts info_nd
  obtain ⟨a, c, cs, rfl, hcs, hcell, hnone⟩ := src_low hv
  have HCS := Lib.hid hcs
  have HCE := Lib.hid hcell
  cases a with
  | none =>
    have hl0 : L.length = 0 := hnone rfl
    obtain rfl : L = [] := List.eq_nil_of_length_eq_zero hl0
    clear hv hcs hcell
    have hnil : ∀ W, Sem.run Tryz.prog (binOp .eql 24 (.slice none 0 c) (.slice none 0 0)) W = .ok (.bool true) W := fun W => Lib.run_eql_slice_nil W 24 42 _ _ _ 0 0 Tryz.underlying24
    go_enter Tryz.func87, Tryz.ntmps87
    go_wp2
    go_ret
    exact ⟨_, [], rfl, World.ownsRow_nil _ _ _ _, by rw [CsOf], Below.refl _ _⟩
  | some p =>
    have HROW := Lib.hid (World.ownsRow_lit (base := w.heap.size) (e := nT) (size := 4) w #[] 0 (Nat.le_refl _) (Nat.zero_le _) rfl)
    have HM := Lib.hid (fun j u (hj : cs[j]? = some u) => by
      have h1 := hcell p rfl j u hj
      exact ((alloc_below w (.cells #[] nT)).cell (World.block_lt_of_cell? w _ h1)).trans h1)
    have hnil : ∀ W, Sem.run Tryz.prog (binOp .eql 24 (.slice (some p) L.length c) (.slice none 0 0)) W = .ok (.bool false) W := fun W => Lib.run_eql_slice_nil W 24 42 _ _ _ 0 0 Tryz.underlying24
    have HLN := Lib.hid hcs.len
    have HON := Lib.hid hcs.one
    clear hv hcs hcell hnone
    go_enter Tryz.func87, Tryz.ntmps87
    go_wp2_with (at_builtin; refine wpList_append_nd rfl _ _ 24 rfl w.heap.size nT i0 _ 56 Tryz.underlying24 hi hz0 hz1 hz2 (by rfl) _ 0 [] (by rfl) HROW.out (some p) c L.length cs (by rfl) (fun q hq => by cases hq; exact HM.out) HLN.out HON.out (fun h => by cases h) (by omega) (by decide) (by simp) ?_)
    intro v' w1 hown hgrow
    have hB1 : Below w.heap.size w w1 := ((Below.refl _ w).alloc (Nat.le_refl _) _).grown hgrow (by simp) (fun k hk => (HROW.out.lt k hk).1)
    have HOWN := Lib.hid hown
    have HC := Lib.hid (HCS.out.keep (fun b hb _ => hB1.block b hb) hB1.size)
    clear hown hgrow
    go_wp2
    go_ret
    exact ⟨_, cs, rfl, by simpa using HOWN.out, HC.out, hB1⟩
set_option maxHeartbeats 4000000 in
theorem growN_any (n : Nat) (hn : n ≤ 1000000) (w : World) :
    Calls Tryz.prog 65 #[.slice none 0 0, intV n] w fun e w' => ∃ v, e = .returned v ∧ w'.ownsRow w.heap.size nT 4 v 0 [] ∧ Below w.heap.size w w' := by
  obtain ⟨i0, hi, hz0, hz1, hz2⟩ := info_parts info_nd
  have hnn : ¬ (n : Int) < 0 := by omega
  have hw1 : IntKind.i64.wrap ((n : Int) - 0) = (n : Int) := by rw [Int.sub_zero]; exact IntWalk.i64_in _ (by omega)
  rcases Nat.eq_zero_or_pos n with rfl | h0
  · go_enter Tryz.func65, Tryz.ntmps65
    go_wp2
    go_ret
    exact ⟨_, rfl, World.ownsRow_nil _ _ _ _, Below.refl _ _⟩
  · have hgt : (0 : Int) < (n : Int) := by omega
    have hrz : ∀ ty, (Builtin.append_ #[24, 3] ty #[.slice none 0 0, .int .i64 (n : Int)]).run Tryz.prog w =
        .ok (.slice (some ⟨w.heap.size, 0, none⟩) (0 + n) (grownCap w (0 + n) 0 nT)) (w.drew.alloc (.cells (#[] ++ Builtin.zeroCells (Value.agg z4.toArray).cells n ++ Builtin.zeroCells (Value.agg z4.toArray).cells (grownCap w (0 + n) 0 nT - (0 + n))) nT)) := fun ty =>
      Lib.run_append_grow_zeros w 24 3 ty nT i0 (.agg z4.toArray) .i64 .i64 Tryz.underlying24 Tryz.underlying3 hi hz0 none 0 0 [] (run_firstCells_none w.drew i0.size 0 0 0) n h0 (by omega) (by omega) (by omega) (by rw [hz2]; omega) (by
        refine growslice_fits (by omega) ?_
        rw [hz2]; omega)
    have hG := grownCap_le_maxLen w (0 + n) 0 nT (by unfold maxLen; omega)
    have hGn : 0 + n ≤ grownCap w (0 + n) 0 nT := grownCap_ge w _ _ _
    obtain ⟨G, hGG⟩ : ∃ G, grownCap w (0 + n) 0 nT = G := ⟨_, rfl⟩
    rw [hGG] at hrz hG hGn
    obtain ⟨cur, hcur⟩ : ∃ cur, (#[] ++ Builtin.zeroCells (Value.agg z4.toArray).cells n ++ Builtin.zeroCells (Value.agg z4.toArray).cells (G - (0 + n)) : Array Value) = cur := ⟨_, rfl⟩
    have hcs : cur.size = G * 4 := by
      rw [← hcur]
      simp [Builtin.zeroCells, Value.cells, z4]; omega
    rw [hcur] at hrz
    have HO := Lib.hid (World.ownsRow_made (base := w.heap.size) (e := nT) (size := 4) w.drew cur G (Nat.le_refl _) hG hcs)
    have HB := Lib.hid ((below_drewN_n w.heap.size w 0).trans ((show Below w.heap.size (w.drewN 0) w.drew from ⟨rfl, rfl, rfl, Nat.le_refl _, fun _ _ => rfl⟩).alloc (Nat.le_refl _) (.cells cur nT)))
    have hG63 : G ≤ 9223372036854775807 := by unfold maxLen at hG; omega
    clear hGG hcur hcs hG
    go_enter Tryz.func65, Tryz.ntmps65
    go_wp2_with (at_builtin; refine Lib.wpList_append_run _ rfl _ _ _ _ rfl _ _ rfl rfl _ _ (hrz _) ?_)
    go_ret
    exact ⟨_, rfl, HO.out, HB.out⟩
def LLN (W : World) (v : Value) (L : List (List Nd)) : Prop :=
  ∃ a cap, v = .slice a L.length cap ∧ (0 < L.length → ∃ b off, a = some ⟨b, off, none⟩ ∧ b < W.heap.size ∧ ∀ j (h : j < L.length), ∃ u P, W.cell? ⟨b, off + j, none⟩ = some u ∧ VsAt W P u L[j])
theorem LLN.below {W W' : World} {v : Value} {L : List (List Nd)} (h : LLN W v L) (hB : Below W.heap.size W W') : LLN W' v L := by
  obtain ⟨a, cap, rfl, hc⟩ := h
  refine ⟨a, cap, rfl, fun h0 => ?_⟩
  obtain ⟨b, off, ha, hb, hcs⟩ := hc h0
  refine ⟨b, off, ha, Nat.lt_of_lt_of_le hb hB.size, fun j hj => ?_⟩
  obtain ⟨u, P, h1, h2⟩ := hcs j hj
  exact ⟨u, P, (hB.cell (p := ⟨b, off + j, none⟩) hb).trans h1, h2.below hB⟩
theorem LLN.elem {W : World} {a : Option Addr} {n cap : Nat} {L : List (List Nd)} (h : LLN W (.slice a n cap) L) {j : Nat} (hj : j < L.length) :
    ∃ b off u c P, a = some ⟨b, off, none⟩ ∧ b < W.heap.size ∧ W.cell? ⟨b, off + j, none⟩ = some (.slice u L[j].length c) ∧ VsAt W P (.slice u L[j].length c) L[j] := by
  obtain ⟨a', cap', e, hc⟩ := h
  cases e
  obtain ⟨b, off, rfl, hb, hcs⟩ := hc (by omega)
  obtain ⟨u, P, h1, h2⟩ := hcs j hj
  obtain ⟨u', c', e, hx⟩ := id h2
  subst e
  exact ⟨b, off, u', c', P, rfl, hb, h1, h2⟩
theorem lln_lit (w : World) (us : List Value) (L : List (List Nd)) (hl : us.length = L.length) (hI : ∀ j (h : j < L.length), ∃ P, VsAt w P (us[j]'(by omega)) L[j]) : LLN (w.alloc (.cells us.toArray 24)) (.slice (some ⟨w.heap.size, 0, none⟩) L.length L.length) L := by
  refine ⟨_, _, rfl, fun h0 => ⟨_, _, rfl, by simp, fun j hj => ?_⟩⟩
  obtain ⟨P, h⟩ := hI j hj
  refine ⟨us[j]'(by omega), P, ?_, h.below (alloc_below _ _)⟩
  rw [Nat.zero_add, World.cell?_alloc_new]
  simp [hl, hj]
theorem flatN_succ {α : Type} (L : List (List α)) (k : Nat) (h : k < L.length) : (L.take (k + 1)).flatten = (L.take k).flatten ++ L[k] := by
  rw [List.take_succ_eq_append_getElem h, List.flatten_append]; simp
theorem flatN_take {α : Type} (L : List (List α)) (k : Nat) : (L.take k).flatten.length ≤ L.flatten.length := by
  have h : L.flatten = (L.take k).flatten ++ (L.drop k).flatten := by rw [← List.flatten_append, List.take_append_drop]
  rw [h, List.length_append]; omega
set_option maxHeartbeats 4000000 in
theorem concatN_any (L : List (List Nd)) (hL : L.length ≤ 1000) (hl : L.flatten.length ≤ 100000) (v : Value) (w : World) (hv : LLN w v L) :
    Calls Tryz.prog 33 #[v] w fun e w' => ∃ u, e = .returned u ∧ (∃ P, VsAt w' P u L.flatten) ∧ Below w.heap.size w w' := by
  have HV := Lib.hid hv
  obtain ⟨a, cap, rfl, _⟩ := id hv
  have HFT := Lib.hid (fun k => Nat.le_trans (flatN_take L k) hl)
  have HFS := Lib.hid (fun k hk => flatN_succ L k hk)
  obtain ⟨i0, hi, hz0, hz1, hz2⟩ := info_parts info_nd
  clear hv hl
  go_enter Tryz.func33, Tryz.ntmps33
  go_wp2
  go_loopw [3, 11] (fun sv i wr => ∃ k s : Nat, k ≤ L.length ∧ i = .int .i64 k ∧ sv = .int .i64 s ∧ s = (L.take k).flatten.length ∧ wr = w) (fun _ i _ => L.length - (intOf i).toNat)
  case atStart => exact ⟨0, 0, Nat.zero_le _, rfl, rfl, by simp, rfl⟩
  case round =>
    obtain ⟨k, s, hk, rfl, rfl, hs, rfl⟩ := hrel
    obtain ⟨wk, rfl⟩ : ∃ x, x = wr := ⟨_, rfl⟩
    have HS := Lib.hid hs
    have hsb : s ≤ 100000 := by rw [hs]; exact HFT.out k
    clear hs
    by_cases hlt : k < L.length
    · obtain ⟨b, off, u, c, P, rfl, hbb, c0, hu⟩ := HV.out.elem hlt
      have hsb2 := HFT.out (k + 1)
      rw [HFS.out k hlt, List.length_append, ← HS.out] at hsb2
      have HS2 := Lib.hid (show s + L[k].length = (L.take (k + 1)).flatten.length by rw [HFS.out k hlt, List.length_append, HS.out])
      obtain ⟨m, hm⟩ : ∃ m, L[k].length = m := ⟨_, rfl⟩
      rw [hm] at c0 hsb2 HS2
      have hws : IntKind.i64.wrap ((s : Int) + (m : Int)) = ((s + m : Nat) : Int) := by rw [show (s : Int) + (m : Int) = ((s + m : Nat) : Int) by omega]; exact IntWalk.i64_in _ (by omega)
      have hnn : ¬ ((s + m : Nat) : Int) < 0 := by omega
      obtain ⟨t, ht⟩ : ∃ t, s + m = t := ⟨_, rfl⟩
      rw [ht] at hws hnn HS2
      clear hu hbb hm ht
      go_wp2
      go_roundw
      case rel => exact ⟨k + 1, t, by omega, by go_num, rfl, HS2.out, trivial⟩
      case measure => simp [intOf]; omega
    · obtain rfl : k = L.length := by omega
      have GR := Lib.hid (growN_any s (by omega) wk)
      go_wp2_with fail
      refine GR.out.mono ?_
      rintro e w2 ⟨u, rfl, ho, h2⟩
      have HO := Lib.hid ho
      have HB2 := Lib.hid h2
      clear ho h2
      go_wp2
      go_loopw [6, 27] (fun nv i wr => ∃ (k : Nat) (cs : List Value), k ≤ L.length ∧ i = .int .i64 k ∧ wr.ownsRow wk.heap.size nT 4 nv (L.take k).flatten.length cs ∧ CsOf wr (fun b => b < wk.heap.size) cs (L.take k).flatten ∧ Below wk.heap.size wk wr) (fun _ i _ => L.length - (intOf i).toNat)
      case atStart => exact ⟨0, [], Nat.zero_le _, rfl, HO.out, cs_nil' _ _, HB2.out⟩
      case round =>
        obtain ⟨k, cs, hk, rfl, ho, hc, hB⟩ := hrel
        obtain ⟨wr2, rfl⟩ : ∃ x, x = wr := ⟨_, rfl⟩
        have HO3 := Lib.hid ho
        have HC3 := Lib.hid hc
        have HB3 := Lib.hid hB
        by_cases hlt : k < L.length
        · obtain ⟨b, off, u, c, P, rfl, hbb, c0, hu⟩ := HV.out.elem hlt
          have c1 := (hB.cell (p := ⟨b, off + k, none⟩) hbb).trans c0
          obtain ⟨ua, uc, ys, e, y1, y2, y3⟩ := src_low hu
          obtain ⟨rfl, rfl⟩ : ua = u ∧ uc = c := by cases e; exact ⟨rfl, rfl⟩
          have HY := Lib.hid (show CsOf wr2 (fun b => b < wk.heap.size) ys L[k] from y1.keep (fun b hb _ => hB.block b hb) hB.size)
          have HYC := Lib.hid (show ∀ p, ua = some p → ∀ j z, ys[j]? = some z → wr2.cell? (p.add j) = some z from fun p hp j z hj => by
            have h1 := y2 p hp j z hj
            exact (hB.cell (World.block_lt_of_cell? wk _ h1)).trans h1)
          have HYL := Lib.hid y1.len
          have HYO := Lib.hid y1.one
          have HF := Lib.hid (HFS.out k hlt)
          have hsb2 := HFT.out (k + 1)
          rw [HF.out, List.length_append] at hsb2
          obtain ⟨S, hS⟩ : ∃ S, (L.take k).flatten = S := ⟨_, rfl⟩
          obtain ⟨y, hy⟩ : ∃ y, L[k] = y := ⟨_, rfl⟩
          rw [hS, hy] at hsb2 HF
          rw [hS] at HO3 HC3
          rw [hy] at c1 HY HYL y3
          clear ho hB c0 hbb hu hS hy hc y1 y2 e
          go_wp2_with (at_builtin; refine wpList_append_nd rfl _ _ 24 rfl wk.heap.size nT i0 _ 56 Tryz.underlying24 hi hz0 hz1 hz2 (by rfl) _ S.length cs (by rfl) HO3.out ua uc y.length ys (by rfl) HYC.out HYL.out HYO.out y3 (by omega) (by decide) HB3.out.size ?_; intro v' w3 hown' hgrow; have HO4 := Lib.hid hown'; have HC4 := Lib.hid ((HC3.out.app HY.out).keep (W' := w3) (fun b hb hlt => hgrow.block b hlt (fun e => by have := (HO3.out.lt b e.symm).1; omega)) hgrow.size); have HB4 := Lib.hid (HB3.out.grown hgrow HB3.out.size (fun q hq => (HO3.out.lt q hq).1)); clear hown' hgrow)
          go_roundw
          case rel => exact ⟨k + 1, cs ++ ys, by omega, by go_num, by rw [HF.out, List.length_append]; exact HO4.out, by rw [HF.out]; exact HC4.out, HB4.out⟩
          case measure => simp [intOf]; omega
        · obtain rfl : k = L.length := by omega
          have HI := Lib.hid (vs_of_own (P := fun _ => True) ho (hc.mono fun _ _ _ => trivial) (fun _ _ => trivial))
          rw [List.take_length] at HI
          clear ho hB hc
          go_wp2
          go_ret
          exact ⟨_, rfl, ⟨_, HI.out⟩, HB3.out⟩
end Go.Proofs.YtmfcepfagbkceaaGreatDoor
