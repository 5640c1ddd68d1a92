/- Chains: lists that share their rest. -/
import Derived.Test.YtbdeakodmhcgdaaEdFillInt
import Derived.Test.YtbdeakodmhcgdaaEdEdits
namespace Go.Proofs.Ytbdeakodmhcgdaa
set_option linter.unusedSimpArgs false
set_option linter.unusedVariables false
set_option maxRecDepth 100000
open Go.RowKit Go.Deep

/-- a chain in memory: each of its elements in a block of its own, with the rest and the length -/
def ChainAt {α : Type} (t : TypeId) (cs : α → List Value) (W : World) : Option Addr → List α → Prop
  | p, [] => p = none
  | p, x :: l => ∃ b q, p = some ⟨b, 0, none⟩ ∧ W.heap[b]? = some (Obj.cells ((cs x ++ [Value.pointer q, Value.int .i64 ((l.length : Nat) + 1 : Int)]).toArray) t (0, 0)) ∧ ChainAt t cs W q l
theorem ChainAt.kept {α : Type} {t : TypeId} {cs : α → List Value} {W W' : World} (hk : ∀ (b : Nat) (c : Array Value), W.heap[b]? = some (Obj.cells c t (0, 0)) → W'.heap[b]? = some (Obj.cells c t (0, 0))) : ∀ {l : List α} {p : Option Addr}, ChainAt t cs W p l → ChainAt t cs W' p l
  | [], _, h => h
  | x :: l, _, ⟨b, q, e, h, r⟩ => ⟨b, q, e, hk _ _ h, ChainAt.kept hk r⟩
theorem ChainAt.below {α : Type} {t : TypeId} {cs : α → List Value} {W W' : World} (hB : Below W.heap.size W W') {l : List α} {p : Option Addr} (h : ChainAt t cs W p l) : ChainAt t cs W' p l :=
  h.kept (fun b c hb => by
    have hlt : b < W.heap.size := by
      rcases Nat.lt_or_ge b W.heap.size with g | g
      · exact g
      · rw [Array.getElem?_eq_none g] at hb; cases hb
    rw [hB.block b hlt]; exact hb)
theorem ChainAt.store {α : Type} {t e : TypeId} {cs : α → List Value} {W : World} {r c m : Nat} {f : Nat → Value} {x : Value} {l : List α} {p : Option Addr} (h : ChainAt t cs W p l) (hr : W.rowIs r e m f) (hne : e ≠ t) : ChainAt t cs (W.setCell ⟨r, c, none⟩ x) p l :=
  h.kept (fun b d hb => by
    have hne2 : b ≠ r := by
      intro e0
      obtain ⟨k, hk, _⟩ := hr
      rw [e0, hk] at hb
      simp only [Option.some.injEq, Obj.cells.injEq] at hb
      exact hne hb.2.1
    rw [blk_setCell_other _ _ _ _ hne2]; exact hb)
theorem ChainAt.nil {α : Type} {t : TypeId} {cs : α → List Value} {W : World} {l : List α} {p : Option Addr} (h : ChainAt t cs W p l) (hp : p = none) : l = [] := by
  cases l with
  | nil => rfl
  | cons x l => obtain ⟨b, q, e, _⟩ := h; rw [hp] at e; cases e
theorem ChainAt.cell {α : Type} {t : TypeId} {cs : α → List Value} {W : World} {x : α} {l : List α} {p : Option Addr} (h : ChainAt t cs W p (x :: l)) :
    ∃ b q, p = some ⟨b, 0, none⟩ ∧ b < W.heap.size ∧ ChainAt t cs W q l ∧ ∀ j v, (cs x ++ [Value.pointer q, Value.int .i64 ((l.length : Nat) + 1 : Int)])[j]? = some v → W.cell? ⟨b, j, none⟩ = some v := by
  obtain ⟨b, q, e, h, r⟩ := h
  refine ⟨b, q, e, ?_, r, fun j v hv => ?_⟩
  · rcases Nat.lt_or_ge b W.heap.size with g | g
    · exact g
    · rw [Array.getElem?_eq_none g] at h; cases h
  · simp only [World.cell?, h]
    simpa using hv
/-- the same place is the same chain -/
theorem ChainAt.same {α : Type} {t : TypeId} {cs : α → List Value} {W : World} (inj : ∀ (x y : α) (u v u' v' : Value), cs x ++ [u, v] = cs y ++ [u', v'] → x = y ∧ u = u') : ∀ {l k : List α} {p : Option Addr}, ChainAt t cs W p l → ChainAt t cs W p k → l = k
  | [], k, p, h, h' => by
    have h : p = none := h
    exact (h'.nil h).symm
  | x :: l, [], p, h, h' => by
    have h' : p = none := h'
    exact h.nil h'
  | x :: l, y :: k, p, ⟨b, q, e, h, r⟩, ⟨b', q', e', h', r'⟩ => by
    rw [e] at e'
    have eb : b = b' := by simpa using e'
    subst eb
    rw [h] at h'
    have h1 : cs x ++ [Value.pointer q, Value.int .i64 ((l.length : Nat) + 1 : Int)] = cs y ++ [Value.pointer q', Value.int .i64 ((k.length : Nat) + 1 : Int)] := by
      have := (Obj.cells.inj (Option.some.inj h')).1
      exact congrArg Array.toList this
    obtain ⟨rfl, h3⟩ := inj x y _ _ _ _ h1
    have h4 : q = q' := by simpa using h3
    subst h4
    rw [ChainAt.same inj r r']

/-! ### chains of edits -/
def cellsE3 (e : EdV) : List Value := [.int .i64 e.place, .int .i64 e.len, .string e.text]
abbrev edV (e : EdV) : Value := .agg #[.int .i64 e.place, .int .i64 e.len, .string e.text]
abbrev ChainE (W : World) (p : Option Addr) (l : List EdV) : Prop := ChainAt 97 cellsE3 W p l

set_option maxHeartbeats 1000000 in
theorem sizeE_any (p : Option Addr) (l : List EdV) (w : World) (h : ChainE w p l) :
    Calls Try.prog 51 #[.pointer p] w fun e w' => e = .returned (intV l.length) ∧ w = w' := by
  cases l with
  | nil =>
    obtain rfl : p = none := h
    go_enter Try.func51, Try.ntmps51
    go_wp2
    go_ret
    exact ⟨rfl, rfl⟩
  | cons x l =>
    obtain ⟨b, q, rfl, hb, _, hc⟩ := h.cell
    have c4 : w.cell? ⟨b, 4, none⟩ = some (intV ((x :: l).length : Nat)) := hc 4 _ (by simp [cellsE3])
    obtain ⟨n, hn⟩ : ∃ n, (x :: l).length = n := ⟨_, rfl⟩
    rw [hn] at c4 ⊢
    clear hc hn
    go_enter Try.func51, Try.ntmps51
    go_wp2
    go_ret
    exact ⟨rfl, rfl⟩

set_option maxHeartbeats 2000000 in
theorem withE_any (p : Option Addr) (l : List EdV) (x : EdV) (w : World) (h : ChainE w p l) (hl : l.length ≤ 1000000) :
    Calls Try.prog 46 #[.pointer p, edV x] w fun e w' => ∃ q, e = .returned (.pointer q) ∧ ChainE w' q (x :: l) ∧ Below w.heap.size w w' := by
  have HH := Lib.hid h
  clear h
  have hw : IntKind.i64.wrap ((l.length : Int) + 1) = (l.length : Int) + 1 := IntWalk.i64_in _ (by omega)
  go_enter Try.func46, Try.ntmps46
  have hS : ∀ W, Below (w.heap.size + 1) (w.alloc (.cells #[.int .i64 x.place, .int .i64 x.len, .string x.text] 38)) W → W.cell? ⟨w.heap.size, 0, none⟩ = some (.int .i64 x.place) ∧ W.cell? ⟨w.heap.size, 1, none⟩ = some (.int .i64 x.len) ∧ W.cell? ⟨w.heap.size, 2, none⟩ = some (.string x.text) := fun W hW =>
    ⟨(hW.cell (p := ⟨w.heap.size, 0, none⟩) (Nat.lt_succ_self _)).trans (by rw [World.cell?_alloc_new]; rfl), (hW.cell (p := ⟨w.heap.size, 1, none⟩) (Nat.lt_succ_self _)).trans (by rw [World.cell?_alloc_new]; rfl), (hW.cell (p := ⟨w.heap.size, 2, none⟩) (Nat.lt_succ_self _)).trans (by rw [World.cell?_alloc_new]; rfl)⟩
  have HS := Lib.hid hS
  clear hS
  have hB1 : Below w.heap.size w (w.alloc (.cells #[.int .i64 x.place, .int .i64 x.len, .string x.text] 38)) := (Below.refl _ _).alloc (Nat.le_refl _) _
  have HB1 := Lib.hid hB1
  clear hB1
  go_wp2_with fail
  go_region_held3 (fun w' => w'.cell? ⟨w.heap.size, 0, none⟩ = some (.int .i64 x.place) ∧ w'.cell? ⟨w.heap.size, 1, none⟩ = some (.int .i64 x.len) ∧ w'.cell? ⟨w.heap.size, 2, none⟩ = some (.string x.text))
    (first | exact HS.out _ (Below.refl _ _).drew | exact HS.out _ ((Below.refl _ _).drew.alloc (by simp) _))
    (first | (go_at_call 51; refine (sizeE_any p l _ ?_).mono ?_; exact HH.out.below HB1.out.drew; rintro e w2 ⟨rfl, rfl⟩))
  have h5 : ∀ W, W = (w.alloc (.cells #[.int .i64 x.place, .int .i64 x.len, .string x.text] 38)).alloc (.cells #[.int .i64 x.place, .int .i64 x.len, .string x.text, .pointer p, .int .i64 ((l.length : Int) + 1)] 97) → ChainE W (some ⟨w.heap.size + 1, 0, none⟩) (x :: l) ∧ Below w.heap.size w W := by
    rintro W rfl
    have hB2 := HB1.out.alloc (B := w.heap.size) (by rw [nblk_alloc]; omega) (.cells #[.int .i64 x.place, .int .i64 x.len, .string x.text, .pointer p, .int .i64 ((l.length : Int) + 1)] 97)
    refine ⟨⟨_, p, rfl, ?_, HH.out.below hB2⟩, hB2⟩
    have := blk_alloc_new (w.alloc (.cells #[.int .i64 x.place, .int .i64 x.len, .string x.text] 38)) (.cells #[.int .i64 x.place, .int .i64 x.len, .string x.text, .pointer p, .int .i64 ((l.length : Int) + 1)] 97)
    rw [nblk_alloc] at this
    rw [this]; rfl
  have H5 := Lib.hid (h5 _ rfl)
  clear h5
  go_wp2
  go_ret
  exact ⟨_, rfl, H5.out.1.below (Below.refl _ _).drew, H5.out.2.drew⟩

/-! ### what the call owns, read again -/
theorem flat_at : ∀ (es : List EdV) (j : Nat) (h : j < es.length), (es.flatMap cellsE3)[j * 3]? = some (.int .i64 es[j].place) ∧ (es.flatMap cellsE3)[j * 3 + 1]? = some (.int .i64 es[j].len) ∧ (es.flatMap cellsE3)[j * 3 + 2]? = some (.string es[j].text)
  | [], j, h => absurd h (by simp)
  | x :: es, 0, _ => by simp [List.flatMap_cons, cellsE3]
  | x :: es, j + 1, h => by
    have := flat_at es j (by simpa using h)
    have e : ∀ k, ((x :: es).flatMap cellsE3)[k + 3]? = (es.flatMap cellsE3)[k]? := fun k => by
      rw [List.flatMap_cons, List.getElem?_append_right (by simp [cellsE3])]; simp [cellsE3]
    rw [show (j + 1) * 3 = j * 3 + 3 by omega, show j * 3 + 3 + 1 = (j * 3 + 1) + 3 by omega, show j * 3 + 3 + 2 = (j * 3 + 2) + 3 by omega, e, e, e]
    simpa using this
theorem flat_len (es : List EdV) : (es.flatMap cellsE3).length = es.length * 3 := by
  induction es with
  | nil => rfl
  | cons x es ih => rw [List.flatMap_cons, List.length_append, ih]; simp [cellsE3]; omega
theorem EditsAt.of_own {W : World} {base : Nat} {e : TypeId} {v : Value} {es : List EdV} {n : Nat} (h : W.ownsRow base e 3 v n (es.flatMap cellsE3)) : EditsAt W v es := by
  have hl := h.1
  rw [flat_len] at hl
  obtain rfl : es.length = n := by omega
  have hc := fun g hg => h.cells (g := g) hg
  have hlt := h.lt
  rcases h.2 with ⟨rfl, hn⟩ | ⟨g, cap, cur, rfl, _⟩
  · exact ⟨Option.none, 0, by rw [hn], fun h0 => by omega⟩
  · refine ⟨some ⟨g, 0, none⟩, cap, rfl, fun h0 => ⟨g, 0, rfl, (hlt g rfl).2, fun j hj => ?_⟩⟩
    obtain ⟨h1, h2, h3⟩ := flat_at es j hj
    have e1 := hc g rfl _ _ h1
    have e2 := hc g rfl _ _ h2
    have e3 := hc g rfl _ _ h3
    rw [addr_add] at e1 e2 e3
    rw [Nat.zero_add]
    exact ⟨e1, e2, e3⟩
theorem info_edit : (Try.prog.info? 38).map (fun i => (i.zero, i.size, i.bytes)) = some (some (.agg #[.int .i64 0, .int .i64 0, .string ⟨#[]⟩]), 3, 32) := by kernel_rfl
theorem three_news (W : World) (x : EdV) (t : TypeId) (n : Nat) (h : n = W.heap.size) : ∀ j u, (cellsE3 x)[j]? = some u → (W.alloc (.cells #[.int .i64 x.place, .int .i64 x.len, .string x.text] t)).cell? ((⟨n, 0, none⟩ : Addr).add j) = some u := by
  intro j u hj
  subst h
  rw [addr_add, World.cell?_alloc_new]
  rw [← hj]
  match j with
  | 0 => rfl
  | 1 => rfl
  | 2 => rfl
  | j + 3 => rfl
def lenOf : Value → Nat
  | .slice _ n _ => n
  | _ => 0
theorem own_lenOf {W : World} {base : Nat} {e : TypeId} {size n : Nat} {v : Value} {xs : List Value} (h : W.ownsRow base e size v n xs) : lenOf v = n := by
  rcases h.2 with ⟨rfl, rfl⟩ | ⟨g, cap, cur, rfl, _⟩ <;> rfl

set_option maxHeartbeats 2000000 in
theorem elementsE_any (p : Option Addr) (l : List EdV) (w : World) (h : ChainE w p l) (hl : l.length ≤ 1000000) :
    Calls Try.prog 53 #[.pointer p] w fun e w' => ∃ v, e = .returned v ∧ w'.ownsRow w.heap.size 38 3 v l.length (l.flatMap cellsE3) ∧ Below w.heap.size w w' := by
  obtain ⟨i0, hi, hz0, hz1, hz2⟩ := info_parts info_edit
  have HH := Lib.hid h
  clear h
  go_enter Try.func53, Try.ntmps53
  go_wp2_with fail
  refine (sizeE_any p l _ HH.out).mono ?_
  rintro e w1 ⟨rfl, rfl⟩
  go_wp2_with (at_make; refine wpList_make_own _ rfl _ _ 27 rfl w.heap.size 38 i0 (.agg #[.int .i64 0, .int .i64 0, .string ⟨#[]⟩]) 3 Try.underlying27 hi hz0 hz1 .i64 .i64 _ l.length rfl rfl rfl (by rw [hz2]; omega) (by unfold maxLen; omega) (Nat.le_refl _) ?_; intro w1 hown0 hg0)
  have HB0 : Below w.heap.size w w1 := (Below.refl _ _).grown hg0 (Nat.le_refl _) (fun k e => by cases e)
  clear hg0
  go_loopw [0, 3] (fun c v wr => ∃ (done rest : List EdV) (q : Option Addr), done ++ rest = l ∧ c = .pointer q ∧ ChainE w q rest ∧ wr.ownsRow w.heap.size 38 3 v done.length (done.flatMap cellsE3) ∧ Below w.heap.size w wr)
    (fun _ v _ => l.length - lenOf v)
  case atStart => exact ⟨[], l, p, rfl, rfl, HH.out, hown0, HB0⟩
  case round =>
    obtain ⟨done, rest, q, hsplit, rfl, hC, hown, hB⟩ := hrel
    clear hown0 HB0
    have HO := Lib.hid hown
    have HB := Lib.hid hB
    have hsz := hB.size
    have hlen : done.length + rest.length = l.length := by rw [← hsplit, List.length_append]
    have hlo := own_lenOf hown
    cases rest with
    | nil =>
      obtain rfl : q = none := hC
      rw [List.append_nil] at hsplit
      subst hsplit
      clear hown hB
      go_wp2
      go_ret
      exact ⟨_, rfl, HO.out, HB.out⟩
    | cons x rest =>
      obtain ⟨b, q2, rfl, hb, hC2, hc⟩ := hC.cell
      have c0 : wr.cell? ⟨b, 0, none⟩ = some (.int .i64 x.place) := (hB.cell (p := ⟨b, 0, none⟩) hb).trans (hc 0 _ (by simp [cellsE3]))
      have c1 : wr.cell? ⟨b, 1, none⟩ = some (.int .i64 x.len) := (hB.cell (p := ⟨b, 1, none⟩) hb).trans (hc 1 _ (by simp [cellsE3]))
      have c2 : wr.cell? ⟨b, 2, none⟩ = some (.string x.text) := (hB.cell (p := ⟨b, 2, none⟩) hb).trans (hc 2 _ (by simp [cellsE3]))
      have c3 : ∀ W, Below w.heap.size w W → W.cell? ⟨b, 3, none⟩ = some (.pointer q2) := fun W hW => (hW.cell (p := ⟨b, 3, none⟩) hb).trans (hc 3 _ (by simp [cellsE3]))
      have C3 := Lib.hid c3
      have HC2 := Lib.hid hC2
      have hl2 : done.length < l.length := by simp at hlen; omega
      clear hC hC2 hc hown hB c3
      go_wp2_with (at_builtin; refine wpList_append_own _ rfl _ _ 27 rfl w.heap.size 38 i0 (.agg #[.int .i64 0, .int .i64 0, .string ⟨#[]⟩]) 3 32 Try.underlying27 hi hz0 hz1 hz2 rfl (by decide) _ _ _ rfl (HO.out.alloc _) ⟨wr.heap.size, 0, none⟩ 1 1 (cellsE3 x) rfl rfl (three_news _ _ _ _ rfl) (by simp [cellsE3, Value.oneCell']) (by unfold maxLen; omega) (by omega) (by simp; omega) ?_; intro v' w2 hown' hgrow hnn; clear hnn; have HO1 := Lib.hid hown'; have HB1 := Lib.hid (own_below HB.out HB.out.size HO.out hgrow); have c3 := C3.out _ HB1.out; clear hown' hgrow)
      go_roundw
      case rel => exact ⟨done ++ [x], rest, q2, by rw [List.append_assoc]; exact hsplit, rfl, HC2.out, by rw [List.length_append, List.flatMap_append]; simpa using HO1.out, HB1.out⟩
      case measure =>
        have := own_lenOf HO1.out
        omega

end Go.Proofs.Ytbdeakodmhcgdaa
