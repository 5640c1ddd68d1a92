/- A loop over an iterator whose rounds come in one known order, and none of which leaves. -/
import Derived.Test.YtjcigjggfmfoeaaDoorCoSize
namespace Go.Proofs.YtjcigjggfmfoeaaDoor
set_option linter.unusedSimpArgs false
set_option linter.unusedVariables false
set_option maxRecDepth 100000
open Go.RowKit Go.Shelf Go.Deep

/-- the record of a loop that waits, or is in a round, and its block of deferred calls -/
structure Kept2 (w : World) (rec : LoopState → Loop) (st : LoopState) (W : World) : Prop where
  loop : W.heap[w.heap.size + 1]? = some (.loop (rec st))
  block : W.heap[w.heap.size]? = some (.deferred (some []))
theorem Kept2.put {w W : World} {rec : LoopState → Loop} {st : LoopState} (st' : LoopState) (h : Kept2 w rec st W) : Kept2 w rec st' (W.putObj (w.heap.size + 1) (.loop (rec st'))) :=
  ⟨World.putObj_heap_same (heap_lt h.loop), (World.putObj_heap_other (by omega)).trans h.block⟩
theorem Kept2.keep {w W W' : World} {rec : LoopState → Loop} {st : LoopState} (h : Kept2 w rec st W) (k : KeepsFrom w.heap.size W W') : Kept2 w rec st W' :=
  ⟨k.same _ _ (by omega) h.loop rfl, k.same _ _ (Nat.le_refl _) h.block rfl⟩
theorem Kept2.alloc {w W : World} {rec : LoopState → Loop} {st : LoopState} (h : Kept2 w rec st W) (o : Obj) : Kept2 w rec st (W.alloc o) :=
  ⟨(Below.heap_alloc _ _ _ (heap_lt h.loop)).trans h.loop, (Below.heap_alloc _ _ _ (heap_lt h.block)).trans h.block⟩

theorem range_ord {α : Type} {P : Program} {n : Nat} {g : Operand} {ps : Array Tmp} {assign body : Code} {Q : Exit → Act → World → Prop} {a : Act} {w : World}
    {gf : Nat} {lb : Array Value} (hg : a.eval g = .func (.func gf) #[] lb) (eg : ∀ args w, (callFunc gf args).run P w = .ok (.enter gf args) w)
    {encs : α → Array Value} {Kp : World → World → Prop} {S : List α → Prop} {Ok : List α → α → Prop}
    (hseq : ∀ (l : Nat) (J : List α → World → Prop) (W : World), Below w.heap.size w W → (∀ s X o, J s X → J s (X.alloc o)) →
      (∀ pre x X, J pre X → Ok pre x → YieldAt Fence.wide (n - 1 - 1) P l (encs x) X fun e X' => e = .returned (.bool true) ∧ J (pre ++ [x]) X' ∧ Kp X X') → J [] W →
      CallsIn Fence.wide (n - 1) P gf (#[.func (.yield l) #[] #[]] ++ lb) W fun e X => (∃ v, e = .returned v) ∧ ∃ xs, S xs ∧ J xs X)
    (hKt : ∀ {A B C : World}, Kp A B → Kp B C → Kp A C) (hKb : ∀ (W : World) (l : Nat) (o o' : Obj), w.heap.size ≤ l → W.heap[l]? = some o → o.isCells = false → Kp W (W.putObj l o')) (hps : ∀ x, (encs x).size = ps.size)
    (I : List α → World → Prop) (hI : OwnFrom w.heap.size I) (h0 : I [] w) (Ax : List α → α → Act → World → Prop) (hAx : ∀ pre x a', OwnFrom w.heap.size (fun (_ : Unit) W => Ax pre x a' W))
    (hassign : ∀ (l : Nat) (pre : List α) (x : α) (W : World) (K : Act → World → Prop), I pre W → Ok pre x → (∀ a' W', KeepsFrom w.heap.size W W' → Kp W W' → I pre W' → Ax pre x a' W' → K a' W') →
      assign.wpIn (Fence.wide.inRound l) (n - 1 - 1) P (Exit.then K (fun _ _ _ => False)) { tmps := (ps.zip (encs x)).foldl (fun t (p, v) => t.setIfInBounds p v) a.tmps, defers := [] } W)
    (hbody : ∀ (l : Nat) (pre : List α) (x : α) (a' : Act) (W : World), w.heap.size ≤ l → (∃ r, W.heap[l]? = some (.loop r)) → I pre W → Ax pre x a' W → Ok pre x →
      body.wpIn (Fence.wide.inRound l) (n - 1 - 1) P (ownPostG w.heap.size Kp I (fun _ _ _ => False) (pre ++ [x]) W) a' W)
    (hdone : ∀ (D : Nat) (xs : List α) (W : World), w.heap.size ≤ D → S xs → I xs W → W.heap[D]? = some (.deferred (some [])) → Q .normal { a with defers := { target := .collected D, args := #[] } :: a.defers } W) :
    (Code.rangeFunc g ps assign body).wpIn Fence.wide n P Q a w := by
  refine wpIn_rangeFunc fun fn hfn => ?_
  let rec_ : LoopState → Loop := fun st => { state := st, pending := none, fn, tmps := a.tmps, params := ps, assign, body, defers := w.heap.size }
  obtain ⟨W1, hW1⟩ : ∃ X, (w.alloc (.deferred (some []))).alloc (.loop (rec_ .ready)) = X := ⟨_, rfl⟩
  have hk1 : Kept2 w rec_ .ready W1 := by
    subst hW1
    refine ⟨?_, (Below.heap_alloc _ _ _ (by simp)).trans (World.alloc_heap_new w _)⟩
    have := World.alloc_heap_new (w.alloc (.deferred (some []))) (.loop (rec_ .ready))
    rwa [World.size_alloc] at this
  have hi1 : I [] W1 := by subst hW1; exact hI.alloc _ (hI.alloc _ h0)
  have hb1 : Below w.heap.size w W1 := by subst hW1; exact ((Below.refl _ w).alloc (Nat.le_refl _) _).alloc (by simp) _
  refine ⟨w.heap.size + 1, [{ target := .collected w.heap.size, args := #[] }], W1, { target := .fn (.func gf) lb, args := #[.func (.yield (w.heap.size + 1)) #[] #[]] }, W1, gf,
    #[.func (.yield (w.heap.size + 1)) #[] #[]] ++ lb, W1, by subst hW1; exact run_enterLoop_outer _ _ _ _ _, ?_, fun _ _ => trivial, by simp [invoke, go_sem, eg], fun h => (by cases h), ?_⟩
  · simp only [resolve, hg]
    simp [go_sem]
  refine (hseq (w.heap.size + 1) (fun pre X => I pre X ∧ Kept2 w rec_ .ready X) W1 hb1 (fun s X o h => ⟨hI.alloc o h.1, h.2.alloc o⟩) ?_ ⟨hi1, hk1⟩).mono ?_
  · rintro pre x X ⟨hi, hk⟩ hok
    refine ⟨fn, _, assign, body, run_yield (P := P) (args := encs x) hk.loop (hps x), roundIn_of_wpIn hfn (hassign _ pre x X _ hi hok ?_)⟩
    intro a' Y hkf hkp hiY hax
    have hkY := hk.keep hkf
    refine ⟨_, run_beginRound hkY.loop rfl, ?_⟩
    have hkZ := hkY.put .busy
    have hn : ∀ {V : World} {st : LoopState}, Kept2 w rec_ st V → ∀ o', Kp V (V.putObj (w.heap.size + 1) o') := fun h o' => hKb _ _ _ _ (by omega) h.loop rfl
    refine wpIn_mono (hbody _ pre x a' _ (by omega) ⟨_, hkZ.loop⟩ (hI.putObj _ hiY (by omega) hkY.loop rfl) ((hAx pre x a').putObj (s := ()) _ hax (by omega) hkY.loop rfl) hok) ?_
    rintro e a3 V hp
    cases e with
    | normal =>
      obtain ⟨hk3, hkp3, hi3⟩ := hp
      have hkV := hkZ.keep hk3
      refine ⟨_, _, run_endRound none hkV.loop, rfl, ⟨hI.putObj _ hi3 (by omega) hkV.loop rfl, hkV.put .ready⟩, hKt hkp (hKt (hKt (hn hkY _) hkp3) (hn hkV _))⟩
    | ret => exact hp.2.elim
    | exit id => exact hp.2.elim
    | goto t => exact hp.2.elim
    | panic ch => exact hp.elim
    | outgrown => exact hp.elim
  · rintro e X ⟨⟨v, rfl⟩, xs, hS, hi, hk⟩
    exact ⟨none, _, run_endLoop hk.loop (by simp [rec_]), hdone _ xs _ (Nat.le_refl _) hS (hI.putObj _ hi (by omega) hk.loop rfl) ((World.putObj_heap_other (by omega)).trans hk.block)⟩
end Go.Proofs.YtjcigjggfmfoeaaDoor
