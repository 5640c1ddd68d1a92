/- Stage 10 (transcript): TpRangeE, put together by merge10.py. -/
import Derived.RangeFuncNested
import Derived.RangeFuncBound
import Derived.RangeFuncCalls
import Derived.RangeFuncLeaves
import Derived.RangeFuncBox
namespace Go.Proofs.YtmfcepfagbkceaaGreatDoor
set_option linter.unusedSimpArgs false
set_option linter.unusedVariables false
open Go.RowKit
def StopsE {α : Type} (F : Fence) (n : Nat) (P : Program) (g : Nat) (lb : Array Value) (encs : α → Array Value) (Kp : World → World → Prop) (Ok : α → World → Prop) (S : List α → Prop) (N : Nat) (G : World → Prop) (w : World) : Prop :=
  ∀ (l : Nat) (J : List α → World → Prop) (W : World), Below w.heap.size w W → AbidesFrom W.heap.size J → (∀ pre W', J pre W' → G W') →
    (∀ pre x W1, J pre W1 → Ok x W1 → pre.length < N → YieldAt F (n - 1) P l (encs x) W1 fun e W' => e = .returned (.bool true) ∧ J (pre ++ [x]) W' ∧ Kp W1 W') →
    J [] W →
    CallsIn F n P g (#[.func (.yield l) #[] #[]] ++ lb) W fun e W' => (∃ v, e = .returned v) ∧ ∃ xs, S xs ∧ J xs W'
def RoundPost {α : Type} (D : Nat) (Kp : World → World → Prop) (I : List α → World → Prop) (xs : List α) (W : World) : Exit → Act → World → Prop
  | .normal, _, W' => KeepsFrom D W W' ∧ Kp W W' ∧ I xs W'
  | _, _, _ => False
theorem wpIn_range_e {F : Fence} {n : Nat} {P : Program} {α : Type} {g : Operand} {ps : Array Tmp} {assign body : Code} {Q : Exit → Act → World → Prop} {a : Act} {w : World}
    (hro : F.round = none) (h1 : 1 ≤ n) {gf : Nat} {lb : Array Value} (hg : a.eval g = .func (.func gf) #[] lb) (hFg : F.fn gf) (eg : ∀ args w, (callFunc gf args).run P w = .ok (.enter gf args) w)
    {encs : α → Array Value} {Kp : World → World → Prop} {Ok : α → World → Prop} {S : List α → Prop} {N : Nat} {G : World → Prop} (hseq : StopsE F (n - 1) P gf lb encs Kp Ok S N G w)
    (hKt : ∀ {A B C : World}, Kp A B → Kp B C → Kp A C) (hKb : ∀ (W : World) (l : Nat) (o o' : Obj), w.heap.size ≤ l → W.heap[l]? = some o → o.isCells = false → o.isWalk = false → Kp W (W.putObj l o')) (hps : ∀ x, (encs x).size = ps.size)
    (I : List α → World → Prop) (hI : OwnFrom w.heap.size I) (hIG : ∀ pre W, I pre W → G W) (h0 : I [] w) (Ax : α → Act → World → Prop) (hAx : ∀ x a', OwnFrom w.heap.size (fun (_ : Unit) W => Ax x a' W))
    (hassign : ∀ (l : Nat) (pre : List α) (x : α) (W : World) (K : Act → World → Prop), I pre W → Ok x W → (∀ a' W', KeepsFrom w.heap.size W W' → Kp W W' → I pre W' → Ax x a' W' → K a' W') →
      assign.wpIn (F.inRound l) (n - 1 - 1) P (Exit.then K (fun _ _ _ => False)) { tmps := (ps.zip (encs x)).foldl (fun t (p, v) => t.setIfInBounds p v) a.tmps, defers := [] } W)
    (hbody : ∀ (l : Nat) (pre : List α) (x : α) (a' : Act) (W : World), w.heap.size ≤ l → I pre W → Ax x a' W → pre.length < N → body.wpIn (F.inRound l) (n - 1 - 1) P (RoundPost w.heap.size Kp I (pre ++ [x]) W) a' W)
    (hdone : ∀ (D : Nat) (xs : List α) (W : World), w.heap.size ≤ D → S xs → I xs W → W.heap[D]? = some (.deferred (some [])) → Q .normal { a with defers := { target := .collected D, args := #[] } :: a.defers } W) :
    (Code.rangeFunc g ps assign body).wpIn F n P Q a w := by
  refine wpIn_rangeFunc fun fn hfn => ?_
  rw [hro]
  obtain ⟨D, hD⟩ : ∃ D, w.heap.size = D := ⟨_, rfl⟩
  rw [hD] at hKb hI hAx hassign hbody hdone
  let r : LoopState → Option Code → Loop := fun s j => { state := s, pending := j, fn, tmps := a.tmps, params := ps, assign, body, defers := D }
  let st : Option Code → LoopState → World → Prop := fun j s W => W.heap[D + 1]? = some (.loop (r s j)) ∧ W.heap[D]? = some (.deferred (some []))
  have stk : ∀ {j s A B}, KeepsFrom D A B → st j s A → st j s B := fun k h => ⟨k.same _ _ (by omega) h.1 rfl, k.same _ _ (Nat.le_refl _) h.2 rfl⟩
  have stp : ∀ {j s j' s' A}, st j s A → st j' s' (A.putObj (D + 1) (.loop (r s' j'))) := fun h => ⟨World.putObj_heap_same (Array.getElem?_eq_some_iff.1 h.1).1, (World.putObj_heap_other (by omega)).trans h.2⟩
  have put : ∀ {β : Type} {H : β → World → Prop} {x A j s} (o : Obj), OwnFrom D H → H x A → st j s A → H x (A.putObj (D + 1) o) := fun o hH hx h => hH.putObj o hx (by omega) h.1 rfl
  let X := (w.alloc (.deferred (some []))).alloc (.loop (r .ready none))
  have hXs : X.heap.size = D + 2 := by simp [X, hD]
  have hX : st none .ready X := by
    refine ⟨?_, ?_⟩
    · have := World.alloc_heap_new (w.alloc (.deferred (some []))) (.loop (r .ready none))
      rwa [World.size_alloc, hD] at this
    · have h2 := World.alloc_heap_new w (.deferred (some []))
      rw [hD] at h2
      exact (Below.heap_alloc _ _ _ (by simp [hD])).trans h2
  have abide : ∀ {β : Type} {H : β → World → Prop} {x : β} {A B : World} {row : Option Nat} {j s}, OwnFrom D H → H x A → st j s A → A.grownBy B row → (∀ k, row = some k → X.heap.size ≤ k ∧ ∃ o : Obj, A.heap[k]? = some o ∧ o.isWalk = true) → H x B ∧ st j s B := fun hH hx hs hg hr =>
    ⟨hH _ _ _ _ hx hg fun k e => by obtain ⟨q, o, ho, hw⟩ := hr k e; exact ⟨by omega, o, ho, Obj.not_cells_of_walk hw⟩,
      (grownBy_keeps hg (fun k e => (hr k e).2) hs.1 rfl).trans hs.1, (grownBy_keeps hg (fun k e => (hr k e).2) hs.2 rfl).trans hs.2⟩
  refine ⟨D + 1, [{ target := .collected D, args := #[] }], X, { target := .fn (.func gf) lb, args := #[.func (.yield (D + 1)) #[] #[]] }, X, gf, #[.func (.yield (D + 1)) #[] #[]] ++ lb, X,
    by have h := run_enterLoop_outer (P := P) (w := w) fn a.tmps ps assign body; rw [hD] at h; exact h, by simp only [resolve, hg]; simp [go_sem], fun f' hf' => by simp [Target.leads] at hf'; subst hf'; exact hFg, by simp [invoke, go_sem, eg], fun _ => h1, ?_⟩
  refine (hseq (D + 1) (fun pre W => I pre W ∧ st none .ready W) X
    (by rw [hD]; exact ((Below.refl _ w).alloc (by omega) _).alloc (by simp [hD]) _) (fun s A B row hs hg hr => abide hI hs.1 hs.2 hg hr) (fun pre W h => hIG _ _ h.1) ?_ ⟨hI.alloc _ (hI.alloc _ h0), hX⟩).mono ?_
  · rintro pre x W ⟨hi, hs⟩ hok hN
    refine ⟨fn, _, assign, body, run_yield hs.1 (hps x), roundIn_of_wpIn hfn (hassign _ pre x W _ hi hok fun a1 W1 k1 p1 i1 x1 => ?_)⟩
    have s1 := stk k1 hs
    refine ⟨_, run_beginRound s1.1 rfl, ?_⟩
    have s2 : st none .busy (W1.putObj (D + 1) (.loop (r .busy none))) := stp s1
    refine wpIn_mono (hbody _ pre x a1 _ (by omega) (put _ hI i1 s1) (put (x := ()) _ (hAx x a1) x1 s1) hN) ?_
    have p2 : Kp W (W1.putObj (D + 1) (.loop (r .busy none))) := hKt p1 (hKb _ _ _ _ (by omega) s1.1 rfl rfl)
    rintro e a3 W3 hp
    cases e with
    | normal =>
      obtain ⟨k3, p3, i3⟩ := hp
      have s3 := stk k3 s2
      exact ⟨_, _, run_endRound none s3.1, rfl, ⟨put _ hI i3 s3, stp s3⟩, hKt (hKt p2 p3) (hKb _ _ _ _ (by omega) s3.1 rfl rfl)⟩
    | _ => exact hp.elim
  · rintro e W2 ⟨⟨v, rfl⟩, xs, hS, hi, hs⟩
    exact ⟨none, _, run_endLoop hs.1 (by simp [r]), hdone D xs _ (Nat.le_refl _) hS (put _ hI hi hs) (World.putObj_heap_other (by omega) |>.trans hs.2)⟩
end Go.Proofs.YtmfcepfagbkceaaGreatDoor
