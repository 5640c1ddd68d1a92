/- Stage 10 (transcript): TpDel TpDelW, put together by merge10.py. -/
import Derived.Test.YtmfcepfagbkceaaGreatDoorOy
import Derived.Test.YtmfcepfagbkceaaGreatDoorOy0
import Derived.Laws.CopyRow
namespace Go.Proofs.YtmfcepfagbkceaaGreatDoor
set_option linter.unusedSimpArgs false
set_option linter.unusedVariables false
set_option maxRecDepth 100000
open Go.RowKit Go.Shelf Go.Deep
theorem dropP_any (xk : Int) (xt : Bs) (xn : Int) (s : Value) (r : Bool) (hr : (decide (xk = 1) && xt.isEmpty) = r) (w : World) :
    Calls Tryz.prog 88 #[.agg #[intV xk, sV xt, intV xn, s]] w fun e w' => e = .returned (.bool r) ∧ Below w.heap.size w w' := by
  have htl := baL_tl xt
  have hb := World.alloc_heap_new w (.cells #[intV xk, sV xt, intV xn, s] nT)
  obtain ⟨e0, e1, e2, e3⟩ := box4T hb
  obtain ⟨k1, hk1⟩ : ∃ b, (xk == 1) = b := ⟨_, rfl⟩
  have HIT := Lib.hid (fun W => isText_any xk xt xn s k1 hk1 W)
  have HB := Lib.hid hb
  rw [← beq_dec, hk1] at hr
  clear hb hk1
  cases k1
  · have HZ := Lib.hid (show false = r from by rw [← hr]; rfl)
    clear hr
    go_enter Tryz.func88, Tryz.ntmps88
    go_wp2_with fail
    refine (HIT.out _).mono ?_
    rintro e w2 ⟨rfl, h2⟩
    have HB2 := Lib.hid (below_then (below_alloc _ _) h2)
    clear h2 e0 e1 e2 e3
    go_wp2
    go_ret
    exact ⟨by rw [← HZ.out]; rfl, HB2.out⟩
  · obtain ⟨q, hq⟩ : ∃ q, xt.isEmpty = q := ⟨_, rfl⟩
    have HZ := Lib.hid (show q = r from by rw [← hr, hq]; rfl)
    clear hr
    go_enter Tryz.func88, Tryz.ntmps88
    go_wp2_with fail
    refine (HIT.out _).mono ?_
    rintro e w2 ⟨rfl, h2⟩
    have hb2 := (h2.block _ (heap_ltT HB.out)).trans HB.out
    have HB2 := Lib.hid (below_then (below_alloc _ _) h2)
    clear h2 e0 e1 e2 e3
    obtain ⟨e0, e1, e2, e3⟩ := box4T hb2
    clear hb2
    go_wp2
    go_ret
    exact ⟨by rw [← HZ.out]; rfl, HB2.out⟩
theorem keep_drop (x : Nd) : (decide (x.kd = 1) && x.tx.isEmpty) = !keepB x := by unfold keepB; rw [Bool.not_not]
theorem flt_succ {L : List Nd} {j : Nat} (h : j < L.length) : fltL (L.take (j + 1)) = fltL (L.take j) ++ (if keepB L[j] = true then [L[j]] else []) := by
  unfold fltL
  rw [List.take_succ_eq_append_getElem h, List.filter_append, List.filter_cons, List.filter_nil]
theorem CsOf.set4 {W : World} {P : Nat → Prop} {x : Nd} {s : Value} (hv : VAt W P (.agg #[intV x.kd, sV x.tx, intV x.nm, s]) x) : ∀ {l : List Nd} {cs : List Value}, CsOf W P cs l → ∀ {j : Nat} (hj : j < l.length), CsOf W P ((((cs.set (j * 4) (intV x.kd)).set (j * 4 + 1) (sV x.tx)).set (j * 4 + 2) (intV x.nm)).set (j * 4 + 3) s) (l.set j x)
  | [], cs, h, j, hj => absurd hj (by simp)
  | y :: l, cs, h, 0, _ => by
    rw [CsOf] at h
    obtain ⟨s0, rest, rfl, _, h⟩ := h
    exact ⟨s, rest, rfl, hv, h⟩
  | y :: l, cs, h, j + 1, hj => by
    rw [CsOf] at h
    obtain ⟨s0, rest, rfl, hv0, h⟩ := h
    have := CsOf.set4 hv h (j := j) (by simpa using hj)
    rw [show (j + 1) * 4 = j * 4 + 4 by omega, show j * 4 + 4 + 1 = (j * 4 + 1) + 4 by omega, show j * 4 + 4 + 2 = (j * 4 + 2) + 4 by omega, show j * 4 + 4 + 3 = (j * 4 + 3) + 4 by omega]
    exact ⟨s0, _, rfl, hv0, this⟩
theorem CsOf.takeN {W : World} {P : Nat → Prop} : ∀ {l : List Nd} {cs : List Value} (i : Nat), CsOf W P cs l → CsOf W P (cs.take (i * 4)) (l.take i)
  | l, cs, 0, h => by rw [Nat.zero_mul, List.take_zero, List.take_zero, CsOf]
  | [], cs, i + 1, h => by rw [CsOf] at h; subst h; rw [List.take_nil, List.take_nil, CsOf]
  | y :: l, cs, i + 1, h => by
    rw [CsOf] at h
    obtain ⟨s0, rest, rfl, hv0, h⟩ := h
    have := CsOf.takeN i h
    rw [show (i + 1) * 4 = i * 4 + 1 + 1 + 1 + 1 by omega, List.take_succ_cons, List.take_succ_cons, List.take_succ_cons, List.take_succ_cons, List.take_succ_cons]
    exact ⟨s0, _, rfl, hv0, this⟩
structure DI (A B : Nat) (L : List Nd) (w : World) (g n c i j : Nat) (M : List Nd) (cs : List Value) (wr : World) : Prop where
  own : wr.ownsRow B nT 4 (.slice (some ⟨g, 0, none⟩) n c) n cs
  cs : CsOf wr (fun b => b < A) cs M
  ml : M.length = n
  mi : M.take i = fltL (L.take j)
  mj : M.drop j = L.drop j
  ij : i < j
  be : Below B w wr
  bs : B ≤ wr.heap.size
  ab : A ≤ B
theorem DI.below {A B : Nat} {L : List Nd} {w : World} {g n c i j : Nat} {M : List Nd} {cs : List Value} {wr W : World} (h : DI A B L w g n c i j M cs wr) (hb : Below wr.heap.size wr W) : DI A B L w g n c i j M cs W :=
  ⟨own_keepT h.own fun k hk => hb.block k (h.own.lt k hk).2, h.cs.keep (fun b _ hlt => hb.block b hlt) hb.size, h.ml, h.mi, h.mj, h.ij, h.be.trans (hb.mono h.bs), Nat.le_trans h.bs hb.size, h.ab⟩
theorem DI.at {A B : Nat} {L : List Nd} {w : World} {g n c i j : Nat} {M : List Nd} {cs : List Value} {wr : World} (h : DI A B L w g n c i j M cs wr) (hj : j < L.length) : ∃ hm : j < M.length, M[j] = L[j] := by
  have h1 := h.mj
  rw [List.drop_eq_getElem_cons hj] at h1
  have hm : j < M.length := by
    apply Classical.byContradiction
    intro hn
    rw [List.drop_of_length_le (by omega)] at h1
    cases h1
  rw [List.drop_eq_getElem_cons hm] at h1
  exact ⟨hm, (List.cons.inj h1).1⟩
theorem DI.skip {A B : Nat} {L : List Nd} {w : World} {g n c i j : Nat} {M : List Nd} {cs : List Value} {wr : World} (h : DI A B L w g n c i j M cs wr) (hj : j < L.length) (hx : keepB L[j] = false) : DI A B L w g n c i (j + 1) M cs wr := by
  refine ⟨h.own, h.cs, h.ml, ?_, ?_, by have := h.ij; omega, h.be, h.bs, h.ab⟩
  · rw [flt_succ hj, if_neg (by rw [hx]; simp), List.append_nil]; exact h.mi
  · have := congrArg (List.drop 1) h.mj
    rwa [List.drop_drop, List.drop_drop] at this
theorem DI.put {A B : Nat} {L : List Nd} {w : World} {g n c i j : Nat} {M : List Nd} {cs : List Value} {wr W : World} (h : DI A B L w g n c i j M cs wr) (hj : j < L.length) {x : Nd} (hx : L[j] = x) (hk : keepB x = true) {s : Value}
    (hv : VAt wr (fun b => b < A) (.agg #[intV x.kd, sV x.tx, intV x.nm, s]) x) (hW : (((wr.setCell ⟨g, i * 4, none⟩ (intV x.kd)).setCell ⟨g, i * 4 + 1, none⟩ (sV x.tx)).setCell ⟨g, i * 4 + 2, none⟩ (intV x.nm)).setCell ⟨g, i * 4 + 3, none⟩ s = W) :
    ∃ cs', DI A B L w g n c (i + 1) (j + 1) (M.set i x) cs' W := by
  obtain ⟨hm, hmj⟩ := h.at hj
  have hij := h.ij
  have hg := h.own.lt g rfl
  have hk4 : ∀ b, b ≠ g → W.heap[b]? = wr.heap[b]? := fun b hb => by rw [← hW]; exact set4_other hb
  have s4 : W.heap.size = wr.heap.size := by rw [← hW]; simp [World.setCell]
  have h1 := (h.own.stored (i * 4) (intV x.kd)).1
  have h2 := (h1.stored (i * 4 + 1) (sV x.tx)).1
  have h3 := (h2.stored (i * 4 + 2) (intV x.nm)).1
  have h4 := (h3.stored (i * 4 + 3) s).1
  rw [hW] at h4
  refine ⟨_, h4, ?_, by rw [List.length_set]; exact h.ml, ?_, ?_, by omega, ?_, by rw [s4]; exact h.bs, h.ab⟩
  · have := (h.cs.set4 hv (j := i) (by omega)).keep (W' := W) (fun b hb _ => hk4 b (by have := h.ab; have hb : b < A := hb; omega)) (by omega)
    exact this
  · rw [flt_succ hj, hx, if_pos hk, ← h.mi, List.take_succ_eq_append_getElem (by rw [List.length_set]; omega), List.take_set_of_le (Nat.le_refl _), List.getElem_set_self]
  · rw [List.drop_set_of_lt (by omega)]
    have := congrArg (List.drop 1) h.mj
    rwa [List.drop_drop, List.drop_drop] at this
  · rw [← hW]
    exact h.be.trans (set4_below hg.1)
theorem zero_len (n : Nat) : (Builtin.zeroCells (Value.agg z4.toArray).cells n).toList.length = n * 4 := by simp [Builtin.zeroCells, Value.cells, z4]
theorem zero_one (n : Nat) : ∀ v ∈ (Builtin.zeroCells (Value.agg z4.toArray).cells n).toList, v.oneCell' = true := by
  intro v hv
  simp [Builtin.zeroCells, Value.cells, z4] at hv
  obtain ⟨a, _, rfl⟩ := hv
  have : a % 4 = 0 ∨ a % 4 = 1 ∨ a % 4 = 2 ∨ a % 4 = 3 := by omega
  rcases this with h | h | h | h <;> simp [h] <;> rfl
end Go.Proofs.YtmfcepfagbkceaaGreatDoor
namespace Go.Proofs.YtmfcepfagbkceaaGreatDoor
set_option linter.unusedSimpArgs false
set_option linter.unusedVariables false
set_option maxRecDepth 100000
open Go.RowKit Go.Shelf Go.Deep
theorem zv_nd (w : World) : (zeroValue nT).run Tryz.prog w = .ok (.agg z4.toArray) w := by rfl
theorem clear_row (w : World) (t ty : TypeId) (g o n c : Nat) (cur : Array Value) (ht : Tryz.prog.underlying t = some (.slice nT)) (hg : w.heap[g]? = some (.cells cur nT (0, 0))) (hn : 0 < n) (hl : o + n * 4 ≤ cur.size) :
    (Builtin.clear_ #[t] ty #[.slice (some ⟨g, o, none⟩) n c]).run Tryz.prog w = .ok (.tuple #[]) (w.setRow g (cur.toList.take o ++ (Builtin.zeroCells (Value.agg z4.toArray).cells n).toList ++ cur.toList.drop (o + n * 4)).toArray) := by
  have hst := run_storeCells_at (P := Tryz.prog) g o nT (Builtin.zeroCells (Value.agg z4.toArray).cells n).toList 0 cur w hg (by rw [zero_len]; omega) (zero_one n)
  rw [zero_len, Nat.add_zero] at hst
  obtain ⟨m, rfl⟩ : ∃ m, n = m + 1 := ⟨n - 1, by omega⟩
  simp [Builtin.clear_, run_underlying ht, zv_nd, hst]
theorem setRow_below {w : World} {N g : Nat} {cs : Array Value} (h : N ≤ g) : Below N w (w.setRow g cs) :=
  ⟨rfl, rfl, rfl, Nat.le_of_eq (setRow_size w g cs).symm, fun k hk => setRow_other w g k cs (by omega)⟩
def DelPost (A B : Nat) (L : List Nd) (w : World) (e : Ending) (w' : World) : Prop := ∃ u cs, e = .returned u ∧ w'.ownsRow B nT 4 u (fltL L).length cs ∧ CsOf w' (fun b => b < A) cs (fltL L) ∧ Below B w w'
set_option maxHeartbeats 8000000 in
theorem delete_any (A B : Nat) (hAB : A ≤ B) (L : List Nd) (cs : List Value) (v : Value) (w : World) (hown : w.ownsRow B nT 4 v L.length cs) (hcs : CsOf w (fun b => b < A) cs L) (hB : B ≤ w.heap.size) (hl : L.length ≤ 100000) :
    Calls Tryz.prog 86 #[v, .func (.func 88) #[] #[]] w (DelPost A B L w) := by
  have HIX := Lib.hid (indexN_any 88 Tryz.call88 (fun x => !keepB x) L v _ w (src_of_own hown hcs) hl (fun j hj s W _ _ => dropP_any _ _ _ _ _ (keep_drop _) W))
  have HO := Lib.hid hown
  have HC := Lib.hid hcs
  by_cases hall : ∀ x ∈ L, keepB x = true
  · have hidx : idxN (fun x => !keepB x) L = -1 := idxN_none fun i hi => by rw [hall _ (List.getElem_mem hi)]; rfl
    have HF := Lib.hid (show fltL L = L from List.filter_eq_self.2 hall)
    rw [hidx] at HIX
    obtain ⟨a, c, rfl⟩ : ∃ a c, v = .slice a L.length c := by
      rcases hown.2 with ⟨rfl, h0⟩ | ⟨g, cap, cur, rfl, _⟩
      · exact ⟨none, 0, by rw [h0]⟩
      · exact ⟨_, _, rfl⟩
    clear hown hcs hall hidx
    go_enter Tryz.func86, Tryz.ntmps86
    go_wp2_with fail
    refine HIX.out.mono ?_
    rintro e w2 ⟨rfl, h2⟩
    have H2 := Lib.hid (show w2.ownsRow B nT 4 (.slice a L.length c) L.length cs ∧ CsOf w2 (fun b => b < A) cs L ∧ Below B w w2 from ⟨own_keepT HO.out fun k hk => h2.block k (HO.out.lt k hk).2, HC.out.keep (fun b _ hlt => h2.block b hlt) h2.size, h2.mono hB⟩)
    clear h2
    go_wp2
    go_ret
    exact ⟨_, cs, rfl, by rw [HF.out]; exact H2.out.1, by rw [HF.out]; exact H2.out.2.1, H2.out.2.2⟩
  · obtain ⟨i0, hi0⟩ : ∃ i0, L.findIdx? (fun x => !keepB x) = some i0 := by
      cases h : L.findIdx? (fun x => !keepB x) with
      | some i => exact ⟨i, rfl⟩
      | none =>
        rw [List.findIdx?_eq_none_iff] at h
        exact absurd (fun x hx => by simpa using h x hx) hall
    obtain ⟨hi1, hi2, hi3⟩ := (List.findIdx?_eq_some_iff_getElem).1 hi0
    have hidx : idxN (fun x => !keepB x) L = (i0 : Nat) := by unfold idxN; rw [hi0]
    rw [hidx] at HIX
    obtain ⟨g, c, hc, rfl⟩ : ∃ g c, L.length ≤ c ∧ v = .slice (some ⟨g, 0, none⟩) L.length c := by
      rcases hown.2 with ⟨_, h0⟩ | ⟨g, cap, cur, rfl, _, _, h, _⟩
      · omega
      · exact ⟨g, cap, h, rfl⟩
    have hcm : c ≤ maxLen := by
      rcases hown.2 with ⟨h, _⟩ | ⟨g', cap, cur, h, _, _, _, h2, _⟩
      · cases h
      · cases h; exact h2
    have HST := Lib.hid (fun W (h : Below w.heap.size w W) => show DI A B L w g L.length c i0 (i0 + 1) L cs W from by
      refine ⟨own_keepT hown fun k hk => h.block k (hown.lt k hk).2, hcs.keep (fun b _ hlt => h.block b hlt) h.size, rfl, ?_, rfl, by omega, h.mono hB, Nat.le_trans hB h.size, hAB⟩
      have h1 : fltL (L.take i0) = L.take i0 := List.filter_eq_self.2 fun x hx => by
        obtain ⟨k, hk, rfl⟩ := List.mem_iff_getElem.1 hx
        rw [List.length_take] at hk
        have := hi3 k (by omega)
        rw [List.getElem_take]
        simpa using this
      rw [flt_succ hi1, h1, if_neg (by simpa using hi2), List.append_nil])
    have w1 : IntKind.i64.wrap ((i0 : Int) + 1) = ((i0 + 1 : Nat) : Int) := by rw [show (i0 : Int) + 1 = ((i0 + 1 : Nat) : Int) by omega]; exact IntWalk.i64_in _ (by omega)
    have hne : ((i0 : Int) == -1) = false := by rw [beq_eq_false_iff_ne]; omega
    clear hown hcs hall hidx hi0 hi2 hi3
    go_enter Tryz.func86, Tryz.ntmps86
    go_wp2_with fail
    refine HIX.out.mono ?_
    rintro e w2 ⟨rfl, h2⟩
    have H2 := Lib.hid (HST.out w2 h2)
    clear h2 HST HIX
    go_wp2
    go_loopw [5, 6] (fun iv jv wr => ∃ (i j : Nat) (M : List Nd) (cs : List Value), i < j ∧ j ≤ L.length ∧ iv = .int .i64 i ∧ jv = .int .i64 j ∧ Hid (DI A B L w g L.length c i j M cs wr)) (fun _ jv _ => L.length - (intOf jv).toNat)
    case atStart => exact ⟨i0, i0 + 1, L, cs, by omega, by omega, rfl, rfl, H2⟩
    case round =>
      obtain ⟨i, j, M, cs', hij, hj, rfl, rfl, HI⟩ := hrel
      obtain ⟨wk, rfl⟩ : ∃ x, x = wr := ⟨_, rfl⟩
      have hml := HI.out.ml
      by_cases hlt : j < L.length
      · obtain ⟨hm, hmj⟩ := HI.out.at hlt
        obtain ⟨x, hx⟩ : ∃ x, L[j] = x := ⟨_, rfl⟩
        rw [hx] at hmj
        obtain ⟨s, g0, g1, g2, g3, hxv⟩ := HI.out.cs.get hm
        rw [hmj] at g0 g1 g2 hxv
        obtain ⟨sa, sc, rfl⟩ := vat_slice hxv
        have d0 := HI.out.own.cells (g := g) rfl _ _ g0
        have d1 := HI.out.own.cells (g := g) rfl _ _ g1
        have d2 := HI.out.own.cells (g := g) rfl _ _ g2
        have d3 := HI.out.own.cells (g := g) rfl _ _ g3
        rw [add_plainT, Nat.zero_add] at d0 d1 d2 d3
        obtain ⟨r, hr⟩ : ∃ r, keepB x = r := ⟨_, rfl⟩
        have HKR := Lib.hid hr
        have HX := Lib.hid hx
        have HC1 := Lib.hid (fun W => dropP_any x.kd x.tx x.nm (.slice sa x.ps.length sc) (!r) (by rw [keep_drop, hr]) W)
        obtain ⟨w3, hw3⟩ : ∃ X, wk.alloc (.cells #[intV x.kd, sV x.tx, intV x.nm, .slice sa x.ps.length sc] nT (0, 0)) = X := ⟨_, rfl⟩
        have k3 : w3.heap[wk.heap.size]? = some (.cells #[intV x.kd, sV x.tx, intV x.nm, .slice sa x.ps.length sc] nT (0, 0)) := by rw [← hw3]; exact World.alloc_heap_new _ _
        have b3 : Below wk.heap.size wk w3 := by rw [← hw3]; exact below_alloc _ _
        obtain ⟨e0, e1, e2, e3⟩ := box4T k3
        have i0' : (0 : Int) ≤ (j : Int) := by omega
        have i1 : (j : Int) < (L.length : Int) := by omega
        have wj : IntKind.i64.wrap ((j : Int) + 1) = ((j + 1 : Nat) : Int) := by rw [show (j : Int) + 1 = ((j + 1 : Nat) : Int) by omega]; exact IntWalk.i64_in _ (by omega)
        have wi : IntKind.i64.wrap ((i : Int) + 1) = ((i + 1 : Nat) : Int) := by rw [show (i : Int) + 1 = ((i + 1 : Nat) : Int) by omega]; exact IntWalk.i64_in _ (by omega)
        have HW3 := Lib.hid hw3
        have HK3 := Lib.hid k3
        have H3 := Lib.hid b3
        have HXV := Lib.hid hxv
        clear hw3 k3 b3 hxv g0 g1 g2 g3 hx hmj hm hr hml
        go_upto_region 8 with fail
        rw [HW3.out]
        clear d0 d1 d2 d3
        go_wp2_with fail
        refine (HC1.out w3).mono ?_
        rintro e w4 ⟨rfl, h4⟩
        have hb4 := below_then H3.out h4
        have hx4 := (h4.block _ (heap_ltT HK3.out)).trans HK3.out
        have HI4 := Lib.hid (HI.out.below hb4)
        have HV4 := Lib.hid (HXV.out.below hb4)
        have HX4 := Lib.hid hx4
        clear h4 hb4 hx4 e0 e1 e2 e3 HC1
        cases r
        · have HF := Lib.hid (HI4.out.skip hlt (by rw [HX.out]; exact HKR.out))
          go_wp2
          refine ⟨⟨i, j + 1, _, _, by omega, by omega, ?_, ?_, HF⟩, ?_⟩
          · rfl
          · first | rfl | (rw [show ((j + 1 : Nat) : Int) = (j : Int) + 1 by omega])
          · simp [intOf]; omega
        · obtain ⟨e0, e1, e2, e3⟩ := box4T HX4.out
          have hil : i < M.length := by rw [HI.out.ml]; omega
          obtain ⟨s2, g0, g1, g2, g3, hyv⟩ := HI4.out.cs.get hil
          have t0 := HI4.out.own.cells (g := g) rfl _ _ g0
          have t1 := HI4.out.own.cells (g := g) rfl _ _ g1
          have t2 := HI4.out.own.cells (g := g) rfl _ _ g2
          have t3 := HI4.out.own.cells (g := g) rfl _ _ g3
          rw [add_plainT, Nat.zero_add] at t0 t1 t2 t3
          have s0 := HI4.out.own.frozenAt (i * 4)
          have s1 := HI4.out.own.frozenAt (i * 4 + 1)
          have s2 := HI4.out.own.frozenAt (i * 4 + 2)
          have s3 := HI4.out.own.frozenAt (i * 4 + 3)
          obtain ⟨w5, hw5⟩ : ∃ X, (((w4.setCell ⟨g, i * 4, none⟩ (intV x.kd)).setCell ⟨g, i * 4 + 1, none⟩ (sV x.tx)).setCell ⟨g, i * 4 + 2, none⟩ (intV x.nm)).setCell ⟨g, i * 4 + 3, none⟩ (.slice sa x.ps.length sc) = X := ⟨_, rfl⟩
          obtain ⟨cs5, h5⟩ := HI4.out.put hlt HX.out HKR.out HV4.out hw5
          have H5 := Lib.hid h5
          have HW5 := Lib.hid hw5
          have k0 : (0 : Int) ≤ (i : Int) := by omega
          have k1 : (i : Int) < (L.length : Int) := by omega
          clear h5 hw5 g0 g1 g2 g3 hyv
          go_upto_region 10 with fail
          rw [HW5.out]
          clear t0 t1 t2 t3 s0 s1 s2 s3 e0 e1 e2 e3
          go_wp2
          refine ⟨⟨i + 1, j + 1, _, _, by omega, by omega, ?_, ?_, H5⟩, ?_⟩
          · first | rfl | (rw [show ((i + 1 : Nat) : Int) = (i : Int) + 1 by omega])
          · first | rfl | (rw [show ((j + 1 : Nat) : Int) = (j : Int) + 1 by omega])
          · simp [intOf]; omega
      · obtain rfl : j = L.length := by omega
        obtain ⟨cur, hg, hsz⟩ : ∃ cur, wk.heap[g]? = some (.cells cur nT (0, 0)) ∧ cur.size = c * 4 ∧ cur.toList.take (L.length * 4) = cs' := by
          rcases HI.out.own.2 with ⟨h, _⟩ | ⟨g', cap, cur, h, _, h1, _, _, h2, h3⟩
          · cases h
          · cases h; exact ⟨cur, h1, h2, h3⟩
        obtain ⟨w5, hw5⟩ : ∃ X, wk.setRow g (cur.toList.take (i * 4) ++ (Builtin.zeroCells (Value.agg z4.toArray).cells (L.length - i)).toList ++ cur.toList.drop (i * 4 + (L.length - i) * 4)).toArray = X := ⟨_, rfl⟩
        have hcl : ∀ ty, (Builtin.clear_ #[24] ty #[.slice (some ⟨g, i * 4, none⟩) (L.length - i) (c - i)]).run Tryz.prog wk = .ok (.tuple #[]) w5 := fun ty => by
          rw [← hw5]
          exact clear_row wk _ ty g (i * 4) (L.length - i) (c - i) cur Tryz.underlying24 hg (by omega) (by omega)
        have h5g : w5.heap[g]? = some (.cells (cur.toList.take (i * 4) ++ (Builtin.zeroCells (Value.agg z4.toArray).cells (L.length - i)).toList ++ cur.toList.drop (i * 4 + (L.length - i) * 4)).toArray nT (0, 0)) := by rw [← hw5]; exact setRow_heap wk g cur _ nT _ hg
        have h5o : ∀ b, b ≠ g → w5.heap[b]? = wk.heap[b]? := fun b hb => by rw [← hw5]; exact setRow_other wk g b _ hb
        have h5s : w5.heap.size = wk.heap.size := by rw [← hw5]; exact setRow_size wk g _
        have hgB := HI.out.own.lt g rfl
        have HP := Lib.hid (show w5.ownsRow B nT 4 (.slice (some ⟨g, 0, none⟩) i c) (fltL L).length (cs'.take (i * 4)) ∧ CsOf w5 (fun b => b < A) (cs'.take (i * 4)) (fltL L) ∧ Below B w w5 from by
          have hmi := HI.out.mi
          rw [List.take_length] at hmi
          have hil : i = (fltL L).length := by rw [← hmi, List.length_take, HI.out.ml]; omega
          have hcl : cs'.length = L.length * 4 := HI.out.own.1
          refine ⟨⟨by rw [List.length_take, ← hil]; omega, .inr ⟨g, c, _, by rw [← hil], hgB.1, h5g, by omega, hcm, ?_, ?_⟩⟩, ?_, ?_⟩
          · have h1 := zero_len (L.length - i)
            simp only [List.size_toArray, List.length_append, List.length_take, List.length_drop, Array.length_toList, h1]
            omega
          · rw [← hil, ← hsz.2, List.take_take, Nat.min_eq_left (by omega), List.append_assoc]
            show List.take (i * 4) (cur.toList.take (i * 4) ++ _) = _
            rw [List.take_append_of_le_length (by rw [List.length_take, Array.length_toList]; omega), List.take_take, Nat.min_self]
          · rw [← hmi]
            exact ((HI.out.cs.takeN i)).keep (W' := w5) (fun b hb _ => h5o b (by have hb : b < A := hb; omega)) (by omega)
          · rw [← hw5]
            exact HI.out.be.trans (setRow_below hgB.1))
        have n0 : (0 : Int) ≤ (i : Int) := by omega
        have n1 : (i : Int) ≤ (L.length : Int) := by omega
        have n2 : (i : Int) ≤ (c : Int) := by omega
        clear hw5 h5g h5o h5s hg hsz hgB HI hml
        go_wp2
        go_ret
        exact ⟨_, _, rfl, HP.out.1, HP.out.2.1, HP.out.2.2⟩
end Go.Proofs.YtmfcepfagbkceaaGreatDoor
