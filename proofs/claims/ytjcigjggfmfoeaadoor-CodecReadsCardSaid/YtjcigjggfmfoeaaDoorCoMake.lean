/- Int, Text and List, the program's and the reference's; slices of values as rows of cells. -/
import Derived.Test.YtjcigjggfmfoeaaDoorCoAlone
import Derived.Laws.OwnMore
import Derived.Deep.Onto
namespace Go.Proofs.YtjcigjggfmfoeaaDoor
set_option linter.unusedSimpArgs false
set_option linter.unusedVariables false
set_option maxRecDepth 100000
open Go.RowKit Go.Deep

/-- the cells of a list of values -/
def CsOf (W : World) (P : Nat → Prop) : List Value → List Val → Prop
  | cs, [] => cs = []
  | cs, x :: l => ∃ s rest, cs = intV x.kd :: intV x.nm :: .string x.tx :: s :: rest ∧ VAt W P (.agg #[intV x.kd, intV x.nm, .string x.tx, s]) x ∧ CsOf W P rest l
theorem CsOf.len {W : World} {P : Nat → Prop} : ∀ {l : List Val} {cs : List Value}, CsOf W P cs l → cs.length = l.length * 4
  | [], cs, h => by rw [CsOf] at h; subst h; rfl
  | x :: l, cs, h => by
    rw [CsOf] at h
    obtain ⟨s, rest, rfl, _, h⟩ := h
    have := CsOf.len h
    simp; omega
theorem CsOf.app {W : World} {P : Nat → Prop} : ∀ {l l' : List Val} {cs cs' : List Value}, CsOf W P cs l → CsOf W P cs' l' → CsOf W P (cs ++ cs') (l ++ l')
  | [], l', cs, cs', h, h' => by rw [CsOf] at h; subst h; exact h'
  | x :: l, l', cs, cs', h, h' => by
    rw [CsOf] at h
    obtain ⟨s, rest, rfl, hv, h⟩ := h
    exact ⟨s, rest ++ cs', rfl, hv, CsOf.app h h'⟩
theorem CsOf.keep {W W' : World} {P : Nat → Prop} (hk : ∀ b, P b → b < W.heap.size → W'.heap[b]? = W.heap[b]?) (hs : W.heap.size ≤ W'.heap.size) : ∀ {l : List Val} {cs : List Value}, CsOf W P cs l → CsOf W' P cs l
  | [], cs, h => by rw [CsOf] at h ⊢; exact h
  | x :: l, cs, h => by
    rw [CsOf] at h ⊢
    obtain ⟨s, rest, e, hv, h⟩ := h
    exact ⟨s, rest, e, hv.keep hk hs, CsOf.keep hk hs h⟩
theorem CsOf.mono {W : World} {P P' : Nat → Prop} (hP : ∀ b, b < W.heap.size → P b → P' b) : ∀ {l : List Val} {cs : List Value}, CsOf W P cs l → CsOf W P' cs l
  | [], cs, h => by rw [CsOf] at h ⊢; exact h
  | x :: l, cs, h => by
    rw [CsOf] at h ⊢
    obtain ⟨s, rest, e, hv, h⟩ := h
    exact ⟨s, rest, e, (vat_mono hP).1 x _ hv, CsOf.mono hP h⟩
theorem CsOf.one {W : World} {P : Nat → Prop} : ∀ {l : List Val} {cs : List Value}, CsOf W P cs l → ∀ u ∈ cs, u.oneCell' = true
  | [], cs, h, u, hu => by rw [CsOf] at h; subst h; cases hu
  | x :: l, cs, h, u, hu => by
    rw [CsOf] at h
    obtain ⟨s, rest, rfl, hv, h⟩ := h
    obtain ⟨a, c, rfl⟩ := vat_slice hv
    simp only [List.mem_cons] at hu
    rcases hu with rfl | rfl | rfl | rfl | hu
    · rfl
    · rfl
    · rfl
    · rfl
    · exact CsOf.one h u hu
theorem cs_of_its {W : World} {P : Nat → Prop} {b : Nat} : ∀ {l : List Val} {off : Nat}, ItsAt W P b off l → ∃ cs, CsOf W P cs l ∧ ∀ j u, cs[j]? = some u → W.cell? ⟨b, off + j, none⟩ = some u
  | [], off, _ => ⟨[], by rw [CsOf], fun j u h => by simp at h⟩
  | x :: l, off, h => by
    rw [ItsAt] at h
    obtain ⟨⟨s, h0, h1, h2, h3, hv⟩, h⟩ := h
    obtain ⟨cs, hc, hcs⟩ := cs_of_its h
    refine ⟨_ :: _ :: _ :: s :: cs, by rw [CsOf]; exact ⟨s, cs, rfl, hv, hc⟩, fun j u hj => ?_⟩
    match j, hj with
    | 0, hj => simp at hj; subst hj; exact h0
    | 1, hj => simp at hj; subst hj; exact h1
    | 2, hj => simp at hj; subst hj; exact h2
    | 3, hj => simp at hj; subst hj; exact h3
    | j + 4, hj =>
      have := hcs j u (by simpa using hj)
      rwa [show off + 4 + j = off + (j + 4) by omega] at this
theorem its_of_cs {W : World} {P : Nat → Prop} {b : Nat} : ∀ {l : List Val} {cs : List Value} {off : Nat}, CsOf W P cs l → (∀ j u, cs[j]? = some u → W.cell? ⟨b, off + j, none⟩ = some u) → ItsAt W P b off l
  | [], cs, off, _, _ => by rw [ItsAt]; trivial
  | x :: l, cs, off, h, hcs => by
    rw [CsOf] at h
    obtain ⟨s, rest, rfl, hv, h⟩ := h
    rw [ItsAt]
    refine ⟨⟨s, hcs 0 _ rfl, hcs 1 _ rfl, hcs 2 _ rfl, hcs 3 _ rfl, hv⟩, its_of_cs h fun j u hj => ?_⟩
    have := hcs (j + 4) u (by simpa using hj)
    rwa [show off + (j + 4) = off + 4 + j by omega] at this
theorem heap4 {w : World} {b : Nat} {c0 c1 c2 c3 : Value} {t : TypeId} (h : w.heap[b]? = some (.cells #[c0, c1, c2, c3] t (0, 0))) :
    w.cell? ⟨b, 0, none⟩ = some c0 ∧ w.cell? ⟨b, 1, none⟩ = some c1 ∧ w.cell? ⟨b, 2, none⟩ = some c2 ∧ w.cell? ⟨b, 3, none⟩ = some c3 := by
  refine ⟨?_, ?_, ?_, ?_⟩ <;> simp [World.cell?, h]
theorem below_box2 (w : World) (o o' : Obj) : Below w.heap.size w ((w.alloc o).alloc o') := ((Below.refl _ w).alloc (Nat.le_refl _) o).alloc (by simp) o'
theorem add_plain (b o j : Nat) : (⟨b, o, none⟩ : Addr).add j = ⟨b, o + j, none⟩ := by unfold Addr.add; split <;> simp_all
/-- a row that holds a list is a slice of it -/
theorem vs_of_own {W : World} {P : Nat → Prop} {base : Nat} {e : TypeId} {v : Value} {l : List Val} {cs : List Value} (h : W.ownsRow base e 4 v l.length cs) (hc : CsOf W P cs l) (hP : ∀ k, v.ownBlock = some k → P k) : VsAt W P v l := by
  rcases h.2 with ⟨rfl, hn⟩ | ⟨g, cap, cur, rfl, _⟩
  · refine ⟨none, 0, by rw [hn], fun h0 => absurd h0 (by omega)⟩
  · refine ⟨some ⟨g, 0, none⟩, cap, rfl, fun h0 => ⟨g, 0, rfl, hP g rfl, (h.lt g rfl).2, its_of_cs hc fun j u hj => ?_⟩⟩
    have := h.cells (g := g) rfl j u hj
    rwa [add_plain] at this
/-- what a slice of values holds, wherever its own row lies -/
def Src (W : World) (P : Nat → Prop) (v : Value) (l : List Val) : Prop := ∃ (a : Option Addr) (c : Nat) (cs : List Value), v = .slice a l.length c ∧ CsOf W P cs l ∧ (∀ p, a = some p → ∀ j u, cs[j]? = some u → W.cell? (p.add j) = some u) ∧ (a = none → l = [])
theorem src_of_vs {W : World} {P : Nat → Prop} {v : Value} {l : List Val} (h : VsAt W P v l) : Src W P v l := by
  obtain ⟨a, c, rfl, hc⟩ := h
  cases a with
  | none =>
    have hl : l = [] := by
      cases l with
      | nil => rfl
      | cons x l => obtain ⟨_, _, h, _⟩ := hc (by simp); cases h
    subst hl
    exact ⟨none, c, [], rfl, by rw [CsOf], fun p e => (nomatch e), fun _ => rfl⟩
  | some p =>
    by_cases h0 : 0 < l.length
    · obtain ⟨b, off, e, _, _, hi⟩ := hc h0
      cases e
      obtain ⟨cs, h1, h2⟩ := cs_of_its hi
      exact ⟨_, c, cs, rfl, h1, fun p e j u hj => by cases e; rw [add_plain]; exact h2 j u hj, fun e => (nomatch e)⟩
    · obtain rfl : l = [] := List.eq_nil_of_length_eq_zero (by omega)
      exact ⟨_, c, [], rfl, by rw [CsOf], fun p e j u hj => by simp at hj, fun e => (nomatch e)⟩
theorem src_of_own {W : World} {P : Nat → Prop} {base : Nat} {e : TypeId} {v : Value} {l : List Val} {cs : List Value} (h : W.ownsRow base e 4 v l.length cs) (hc : CsOf W P cs l) : Src W P v l := by
  rcases h.2 with ⟨rfl, hn⟩ | ⟨g, cap, cur, rfl, _⟩
  · have hl : l = [] := List.eq_nil_of_length_eq_zero hn
    subst hl
    exact ⟨none, 0, cs, rfl, hc, fun p e => (nomatch e), fun _ => rfl⟩
  · exact ⟨_, cap, cs, rfl, hc, fun p e j u hj => by cases e; exact h.cells (g := g) rfl j u hj, fun e => (nomatch e)⟩
theorem Src.below {W W' : World} {P : Nat → Prop} {v : Value} {l : List Val} (h : Src W P v l) (hb : Below W.heap.size W W') : Src W' P v l := by
  obtain ⟨a, c, cs, rfl, h1, h2, h3⟩ := h
  exact ⟨a, c, cs, rfl, h1.keep (fun b _ hlt => hb.block b hlt) hb.size, fun p e j u hj => by
    have h4 := h2 p e j u hj
    exact (World.cell?_of_block (hb.block _ (World.block_lt_of_cell? W _ h4))).trans h4, h3⟩
theorem Src.mono {W : World} {P P' : Nat → Prop} {v : Value} {l : List Val} (h : Src W P v l) (hP : ∀ b, b < W.heap.size → P b → P' b) : Src W P' v l := by
  obtain ⟨a, c, cs, rfl, h1, h2, h3⟩ := h
  exact ⟨a, c, cs, rfl, h1.mono hP, h2, h3⟩
theorem vat_int {W : World} {P : Nat → Prop} {n : Int} (h : I64 n) : VAt W P (.agg #[intV 1, intV n, .string ⟨#[]⟩, .slice none 0 0]) (mkI n) :=
  vat_mk h.1 h.2 (by decide) (by decide) (VsAt.nil _ _ _ _)
theorem vat_text {W : World} {P : Nat → Prop} {t : ByteArray} (h : t.size ≤ 9223372036854775807) : VAt W P (.agg #[intV 2, intV 0, .string t, .slice none 0 0]) (mkT t) :=
  vat_mk (by decide) (by decide) h (by decide) (VsAt.nil _ _ _ _)
theorem vat_list {W : World} {P : Nat → Prop} {l : List Val} {v : Value} (h : l.length ≤ 9223372036854775807) (hv : VsAt W P v l) : VAt W P (.agg #[intV 3, intV 0, .string ⟨#[]⟩, v]) (mkL l) :=
  vat_mk (by decide) (by decide) (by decide) h hv
/-- the value of no kind -/
abbrev mkZ : Val := .mk 0 0 ByteArray.empty []
theorem vat_zero (W : World) (P : Nat → Prop) : VAt W P (.agg #[intV 0, intV 0, .string ⟨#[]⟩, .slice none 0 0]) mkZ :=
  vat_mk (by decide) (by decide) (by decide) (by decide) (VsAt.nil _ _ _ _)

theorem int_any (n : Int) (w : World) :
    Calls Tryd.prog 23 #[intV n] w fun e w' => e = .returned (.agg #[intV 1, intV n, .string ⟨#[]⟩, .slice none 0 0]) ∧ Below w.heap.size w w' := by
  go_enter Tryd.func23, Tryd.ntmps23
  go_wp2
  refine bodyPost_ret (v := .agg #[intV 1, intV n, .string ⟨#[]⟩, .slice none 0 0]) (by simp [results, Tryd.results23, go_sem]) rfl ⟨rfl, below_box0 w _⟩
theorem refInt_any (n : Int) (w : World) :
    Calls Tryd.prog 24 #[intV n] w fun e w' => e = .returned (.agg #[intV 1, intV n, .string ⟨#[]⟩, .slice none 0 0]) ∧ Below w.heap.size w w' := by
  go_enter Tryd.func24, Tryd.ntmps24
  go_wp2
  refine bodyPost_ret (v := .agg #[intV 1, intV n, .string ⟨#[]⟩, .slice none 0 0]) (by simp [results, Tryd.results24, go_sem]) rfl ⟨rfl, below_box0 w _⟩
theorem text_any (s : ByteArray) (w : World) :
    Calls Tryd.prog 25 #[.string s] w fun e w' => e = .returned (.agg #[intV 2, intV 0, .string s, .slice none 0 0]) ∧ Below w.heap.size w w' := by
  go_enter Tryd.func25, Tryd.ntmps25
  go_wp2
  refine bodyPost_ret (v := .agg #[intV 2, intV 0, .string s, .slice none 0 0]) (by simp [results, Tryd.results25, go_sem]) rfl ⟨rfl, below_box0 w _⟩
theorem refText_any (s : ByteArray) (w : World) :
    Calls Tryd.prog 26 #[.string s] w fun e w' => e = .returned (.agg #[intV 2, intV 0, .string s, .slice none 0 0]) ∧ Below w.heap.size w w' := by
  go_enter Tryd.func26, Tryd.ntmps26
  go_wp2
  refine bodyPost_ret (v := .agg #[intV 2, intV 0, .string s, .slice none 0 0]) (by simp [results, Tryd.results26, go_sem]) rfl ⟨rfl, below_box0 w _⟩

theorem info_val : (Tryd.prog.info? 24).map (fun i => (i.zero, i.size, i.bytes)) = some (some (.agg #[intV 0, intV 0, .string ⟨#[]⟩, .slice none 0 0]), 4, 56) := by kernel_rfl
/-- a new slice with the same values -/
def ClonePost (P' : Nat → Prop) (l : List Val) (w : World) (e : Ending) (w' : World) : Prop := ∃ u, e = .returned u ∧ VsAt w' P' u l ∧ Below w.heap.size w w'
set_option maxHeartbeats 1000000 in
theorem clone_src (l : List Val) (v : Value) (P P' : Nat → Prop) (w : World) (hv : Src w P v l) (hl : l.length ≤ 65536) (hP : ∀ b, b < w.heap.size → P b → P' b) (hP' : ∀ b, w.heap.size ≤ b → P' b) :
    Calls Tryd.prog 47 #[v] w (ClonePost P' l w) := by
  obtain ⟨i0, hi, hz0, hz1, hz2⟩ := info_parts info_val
  obtain ⟨a, c, cs, rfl, hcs1, hcs2, hc3⟩ := hv
  cases a with
  | none =>
    obtain rfl : l = [] := hc3 rfl
    clear hcs2 hc3 hcs1
    have hnil : ∀ W, Sem.run Tryd.prog (binOp .eql 22 (.slice none 0 c) (.slice none 0 0)) W = .ok (.bool true) W := fun W => Lib.run_eql_slice_nil W 22 24 _ _ _ 0 0 Tryd.underlying22
    go_enter Tryd.func47, Tryd.ntmps47
    go_wp2
    go_ret
    exact ⟨_, rfl, VsAt.nil _ _ _ _, Below.refl _ _⟩
  | some p =>
    replace hcs2 := hcs2 p rfl
    have hlen := hcs1.len
    have hone := hcs1.one
    have hold : ∀ j u, cs[j]? = some u → (w.alloc (.cells #[] 24)).cell? (p.add j) = some u := fun j u hj => by
      have h1 := hcs2 j u hj
      exact (World.cell?_of_block (Below.heap_alloc _ _ _ (World.block_lt_of_cell? w _ h1))).trans h1
    have H1 := Lib.hid hcs1
    have HL := Lib.hid hlen
    have HO := Lib.hid hone
    have HC := Lib.hid hold
    have HROW := Lib.hid (World.ownsRow_made (base := w.heap.size) (e := 24) (size := 4) w #[] 0 (Nat.le_refl _) (Nat.zero_le _) rfl)
    have hnil : ∀ W, Sem.run Tryd.prog (binOp .eql 22 (.slice (some p) l.length c) (.slice none 0 0)) W = .ok (.bool false) W := fun W => Lib.run_eql_slice_nil W 22 24 _ _ _ 0 0 Tryd.underlying22
    clear hcs1 hcs2 hlen hone hold hc3
    go_enter Tryd.func47, Tryd.ntmps47
    go_wp2_with (at_builtin; refine wpList_append_own _ rfl _ _ 22 rfl w.heap.size 24 i0 _ 4 56 Tryd.underlying22 hi hz0 hz1 hz2 rfl (by decide) _ 0 [] rfl HROW.out p l.length c cs rfl HL.out HC.out HO.out (by unfold maxLen; omega) (by omega) (by simp) ?_)
    intro v' w1 hown hgrow _
    have hB1 : Below w.heap.size w w1 := ((Below.refl _ w).alloc (Nat.le_refl _) _).grown hgrow (by simp) (fun k hk => (HROW.out.lt k hk).1)
    have hvs : VsAt w1 P' v' l := by
      have h2 := (H1.out.mono (P' := P') hP).keep (W' := w1) (fun b _ hb => hB1.block b hb) hB1.size
      exact vs_of_own (by simpa using hown) h2 (fun k hk => hP' k (hown.lt k hk).1)
    go_wp2
    go_ret
    exact ⟨_, rfl, hvs, hB1⟩
theorem set4 {w1 W4 : World} {b : Nat} {c0 c1 c2 c3 x0 x1 x2 x3 : Value} {t : TypeId} (h : w1.heap[b]? = some (.cells #[c0, c1, c2, c3] t (0, 0)))
    (hW : (((w1.setCell ⟨b, 0, none⟩ x0).setCell ⟨b, 1, none⟩ x1).setCell ⟨b, 2, none⟩ x2).setCell ⟨b, 3, none⟩ x3 = W4) :
    W4.heap[b]? = some (.cells #[x0, x1, x2, x3] t (0, 0)) ∧ (∀ k, k ≠ b → W4.heap[k]? = w1.heap[k]?) ∧ W4.heap.size = w1.heap.size := by
  subst hW
  have step : ∀ (w : World) (cs : Array Value) (o : Nat) (x : Value), w.heap[b]? = some (.cells cs t (0, 0)) → (w.setCell ⟨b, o, none⟩ x).heap[b]? = some (.cells (cs.setIfInBounds o x) t (0, 0)) := fun w cs o x hw => by
    obtain ⟨hlt, hk⟩ := Array.getElem?_eq_some_iff.1 hw
    show (w.heap.modify b _)[b]? = _
    rw [Array.getElem?_eq_getElem (by rw [Array.size_modify]; exact hlt), Array.getElem_modify_self, hk]; simp
  refine ⟨?_, fun k hk => ?_, by simp [World.setCell]⟩
  · exact step _ _ 3 x3 (step _ _ 2 x2 (step _ _ 1 x1 (step _ _ 0 x0 h)))
  · rw [Below.heap_setCell _ _ _ _ hk, Below.heap_setCell _ _ _ _ hk, Below.heap_setCell _ _ _ _ hk, Below.heap_setCell _ _ _ _ hk]
/-- a list of the same values -/
def ListPost (P' : Nat → Prop) (l : List Val) (w : World) (e : Ending) (w' : World) : Prop := ∃ u, e = .returned (.agg #[intV 3, intV 0, .string ⟨#[]⟩, u]) ∧ VsAt w' P' u l ∧ Below w.heap.size w w'
set_option maxHeartbeats 1000000 in
theorem list_src (l : List Val) (v : Value) (P P' : Nat → Prop) (w : World) (hv : Src w P v l) (hl : l.length ≤ 65536) (hP : ∀ b, b < w.heap.size → P b → P' b) (hP' : ∀ b, w.heap.size ≤ b → P' b) :
    Calls Tryd.prog 27 #[v] w (ListPost P' l w) := by
  have HC := Lib.hid (clone_src l v (fun b => b < w.heap.size ∧ P b) (fun b => b ≠ w.heap.size ∧ P' b) (w.alloc (.cells #[intV 0, intV 0, .string ⟨#[]⟩, .slice none 0 0] 24)) ((hv.mono (fun b hb hp => ⟨hb, hp⟩)).below (below_box0 w _)) hl (fun b _ hp => ⟨Nat.ne_of_lt hp.1, hP b hp.1 hp.2⟩) (fun b hb => by rw [World.size_alloc] at hb; exact ⟨by omega, hP' b (by omega)⟩))
  clear hP hP'
  obtain ⟨va, vc, _, rfl, _⟩ := hv
  go_enter Tryd.func27, Tryd.ntmps27
  go_wp2_with fail
  refine HC.out.mono ?_
  rintro e w1 ⟨u, rfl, hu, hb⟩
  obtain ⟨ua, uc, rfl, _⟩ := id hu
  rw [World.size_alloc] at hb
  have hlt : w.heap.size < w1.heap.size := by have := hb.size; simp at this; omega
  have hb1 : w1.heap[w.heap.size]? = some (.cells #[intV 0, intV 0, .string ⟨#[]⟩, .slice none 0 0] 24 (0, 0)) := (hb.block _ (by omega)).trans (heap_alloc_new _ _)
  obtain ⟨c0, c1, c2, c3⟩ := heap4 hb1
  have f0 : ∀ o, w1.frozen? ⟨w.heap.size, o, none⟩ = false := fun o => by simp [World.frozen?, hb1]
  have g0 := f0 0
  have g1 := f0 1
  have g2 := f0 2
  have g3 := f0 3
  obtain ⟨W4, hW4⟩ : ∃ X, (((w1.setCell ⟨w.heap.size, 0, none⟩ (.int .i64 3)).setCell ⟨w.heap.size, 1, none⟩ (.int .i64 0)).setCell ⟨w.heap.size, 2, none⟩ (.string ⟨#[]⟩)).setCell ⟨w.heap.size, 3, none⟩ (.slice ua l.length uc) = X := ⟨_, rfl⟩
  have HS := Lib.hid (set4 hb1 hW4)
  have HW := Lib.hid hW4
  have HU := Lib.hid hu
  have HB := Lib.hid hb
  clear hu hb hb1 f0 hW4
  go_wp2
  rw [HW.out]
  obtain ⟨k1, k2, k3⟩ := HS.out
  obtain ⟨d0, d1, d2, d3⟩ := heap4 k1
  refine bodyPost_ret (v := .agg #[intV 3, intV 0, .string ⟨#[]⟩, .slice ua l.length uc]) (by simp [results, Tryd.results27, go_sem, d0, d1, d2, d3]) rfl ⟨_, rfl, ?_, ?_⟩
  · exact (HU.out.keep (fun b hp _ => k2 b hp.1) (by omega)).mono (fun b _ hp => hp.2)
  · have h1 := below_seq (below_box0 w _) HB.out (by omega)
    exact h1.trans ⟨by rw [← HW.out]; rfl, by rw [← HW.out]; rfl, by rw [← HW.out]; rfl, by omega, fun b hb => k2 b (by omega)⟩

set_option maxHeartbeats 1000000 in
theorem refList_src (l : List Val) (v : Value) (P P' : Nat → Prop) (w : World) (hv : Src w P v l) (hl : l.length ≤ 65536) (hP : ∀ b, b < w.heap.size → P b → P' b) (hP' : ∀ b, w.heap.size ≤ b → P' b) :
    Calls Tryd.prog 28 #[v] w (ListPost P' l w) := by
  obtain ⟨i0, hi, hz0, hz1, hz2⟩ := info_parts info_val
  obtain ⟨a, c, cs, rfl, hcs1, hcs2, hc3⟩ := hv
  have HROW := Lib.hid (World.ownsRow_made (base := w.heap.size + 1) (e := 24) (size := 4) (w.alloc (.cells #[intV 0, intV 0, .string ⟨#[]⟩, .slice none 0 0] 24)) #[] 0 (by simp) (Nat.zero_le _) rfl)
  rw [World.size_alloc] at HROW
  cases a with
  | none =>
    obtain rfl : l = [] := hc3 rfl
    clear hcs2 hc3 hcs1
    have hrun : ∀ W g, Sem.run Tryd.prog (Builtin.append_ #[22, 22] 22 #[.slice (some ⟨g, 0, none⟩) 0 0, .slice none 0 c]) W = .ok (.slice (some ⟨g, 0, none⟩) 0 0) W := fun W g => by
      simp [Builtin.append_, run_underlying Tryd.underlying22, sizeOf, typeInfo, hi, Builtin.lenOf, Builtin.firstCells, loadCells, loadCellsFrom, storeCells]
    go_enter Tryd.func28, Tryd.ntmps28
    go_wp2
    refine bodyPost_ret (v := .agg #[intV 3, intV 0, .string ⟨#[]⟩, .slice (some ⟨w.heap.size + 1, 0, none⟩) 0 0]) (by simp [results, Tryd.results28, go_sem]) rfl ⟨_, rfl, VsAt.nil _ _ _ _, below_box2 w _ _⟩
  | some p =>
    replace hcs2 := hcs2 p rfl
    have hlen := hcs1.len
    have hone := hcs1.one
    have hold : ∀ j u, cs[j]? = some u → ((w.alloc (.cells #[intV 0, intV 0, .string ⟨#[]⟩, .slice none 0 0] 24)).alloc (.cells #[] 24)).cell? (p.add j) = some u := fun j u hj => by
      have h1 := hcs2 j u hj
      exact (World.cell?_of_block ((below_box2 w _ _).block _ (World.block_lt_of_cell? w _ h1))).trans h1
    have H1 := Lib.hid hcs1
    have HL := Lib.hid hlen
    have HO := Lib.hid hone
    have HC := Lib.hid hold
    have HP := Lib.hid hP
    have HP' := Lib.hid hP'
    clear hcs1 hcs2 hlen hone hold hc3 hP hP'
    go_enter Tryd.func28, Tryd.ntmps28
    go_wp2_with (at_builtin; refine wpList_append_own _ rfl _ _ 22 rfl (w.heap.size + 1) 24 i0 _ 4 56 Tryd.underlying22 hi hz0 hz1 hz2 rfl (by decide) _ 0 [] rfl HROW.out p l.length c cs rfl HL.out HC.out HO.out (by unfold maxLen; omega) (by omega) (by simp) ?_)
    intro v' w1 hown hgrow _
    have hB1 : Below (w.heap.size + 1) (w.alloc (.cells #[intV 0, intV 0, .string ⟨#[]⟩, .slice none 0 0] 24)) w1 := ((Below.refl _ _).alloc (by simp) _).grown hgrow (by simp) (fun k hk => (HROW.out.lt k hk).1)
    have hvs : VsAt w1 (fun b => b ≠ w.heap.size ∧ P' b) v' l := by
      have h2 := (H1.out.mono (P' := fun b => b ≠ w.heap.size ∧ P' b) (fun b hb hp => ⟨by omega, HP.out b hb hp⟩)).keep (W' := w1) (fun b _ hb => (hB1.block b (by omega)).trans (Below.heap_alloc _ _ _ hb)) (by have := hB1.size; simp at this; omega)
      exact vs_of_own (by simpa using hown) h2 (fun k hk => by have := (hown.lt k hk).1; exact ⟨by omega, HP'.out k (by omega)⟩)
    obtain ⟨ua, uc, rfl, _⟩ := id hvs
    have hlt : w.heap.size < w1.heap.size := by have := hB1.size; simp at this; omega
    have hb1 : w1.heap[w.heap.size]? = some (.cells #[intV 0, intV 0, .string ⟨#[]⟩, .slice none 0 0] 24 (0, 0)) := (hB1.block _ (by omega)).trans (heap_alloc_new _ _)
    obtain ⟨c0, c1, c2, c3⟩ := heap4 hb1
    have f0 : ∀ o, w1.frozen? ⟨w.heap.size, o, none⟩ = false := fun o => by simp [World.frozen?, hb1]
    have g0 := f0 0
    have g1 := f0 1
    have g2 := f0 2
    have g3 := f0 3
    obtain ⟨W4, hW4⟩ : ∃ X, (((w1.setCell ⟨w.heap.size, 0, none⟩ (.int .i64 3)).setCell ⟨w.heap.size, 1, none⟩ (.int .i64 0)).setCell ⟨w.heap.size, 2, none⟩ (.string ⟨#[]⟩)).setCell ⟨w.heap.size, 3, none⟩ (.slice ua l.length uc) = X := ⟨_, rfl⟩
    have HS := Lib.hid (set4 hb1 hW4)
    have HW := Lib.hid hW4
    have HU := Lib.hid hvs
    have HB := Lib.hid hB1
    clear hvs hB1 hb1 f0 hW4 hown hgrow
    go_wp2
    rw [HW.out]
    obtain ⟨k1, k2, k3⟩ := HS.out
    obtain ⟨d0, d1, d2, d3⟩ := heap4 k1
    refine bodyPost_ret (v := .agg #[intV 3, intV 0, .string ⟨#[]⟩, .slice ua l.length uc]) (by simp [results, Tryd.results28, go_sem, d0, d1, d2, d3]) rfl ⟨_, rfl, ?_, ?_⟩
    · exact (HU.out.keep (fun b hp _ => k2 b hp.1) (by omega)).mono (fun b _ hp => hp.2)
    · have h1 := below_seq (below_box0 w _) HB.out (by omega)
      exact h1.trans ⟨by rw [← HW.out]; rfl, by rw [← HW.out]; rfl, by rw [← HW.out]; rfl, by omega, fun b hb => k2 b (by omega)⟩
theorem list_any (l : List Val) (v : Value) (P P' : Nat → Prop) (w : World) (hv : VsAt w P v l) (hl : l.length ≤ 65536) (hP : ∀ b, b < w.heap.size → P b → P' b) (hP' : ∀ b, w.heap.size ≤ b → P' b) :
    Calls Tryd.prog 27 #[v] w (ListPost P' l w) := list_src l v P P' w (src_of_vs hv) hl hP hP'
theorem refList_any (l : List Val) (v : Value) (P P' : Nat → Prop) (w : World) (hv : VsAt w P v l) (hl : l.length ≤ 65536) (hP : ∀ b, b < w.heap.size → P b → P' b) (hP' : ∀ b, w.heap.size ≤ b → P' b) :
    Calls Tryd.prog 28 #[v] w (ListPost P' l w) := refList_src l v P P' w (src_of_vs hv) hl hP hP'
end Go.Proofs.YtjcigjggfmfoeaaDoor
