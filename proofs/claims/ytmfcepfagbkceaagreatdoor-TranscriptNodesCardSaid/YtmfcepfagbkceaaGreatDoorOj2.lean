/- Stage 10 (transcript): TpHoldIn, put together by merge10.py. -/
import Derived.Test.YtmfcepfagbkceaaGreatDoorOj1
import Derived.OrdersIn
import Derived.OwnWalkIn
import Derived.RangeFuncCalls
namespace Go.Proofs.YtmfcepfagbkceaaGreatDoor
open Go
def Nrm (Q : Exit → Act → World → Prop) : Exit → Act → World → Prop
  | .normal, a, w => Q .normal a w
  | _, _, _ => False
theorem rows_wideT {n l : Nat} {P : Program} {row : String} {args : Array Value} {w : World} {R : Value → World → Prop} (h : Rows P row args w R) : RowsIn (Fence.wide.inRound l) n P row args w R :=
  fun c cs _ => let ⟨v, w', r, s⟩ := h c cs; ⟨v, w', r, stepsIn_wide.2 s⟩
theorem upon_roundT {P : Program} {l n : Nat} {o : Oper} {a : Act} {K : Act → World → Prop} {Q : Exit → Act → World → Prop} {r : Result Next} (h : o.upon P a K (Nrm Q) r) : o.uponIn (Fence.wide.inRound l) n P a K Q r := by
  have hd : (Fence.wide.inRound l).depth.isSome = true → 1 ≤ n := fun h => by cases h
  have hl : ¬ LetsOut (Nrm Q) := fun ⟨_, _, h⟩ => h
  cases r with
  | ok x w' =>
    cases x with
    | enter f args =>
      simp only [Oper.upon, Oper.uponIn] at h ⊢
      refine ⟨hd, ?_⟩
      refine CallsIn.inRound (F := Fence.wide) l ((callsIn_wide (n := n - 1)).2 (Calls.mono h ?_))
      intro e w'' he
      cases e with
      | returned v => exact he
      | panicked ch => exact (show False from he).elim
      | outgrown => exact (hl he).elim
    | row row args =>
      simp only [Oper.upon, Oper.uponIn] at h ⊢
      exact ⟨hd, rows_wideT (Rows.mono h (fun _ _ he => he))⟩
    | _ =>
      simp only [Oper.upon, Oper.uponIn] at h ⊢ <;> first | exact h | exact h.elim
  | halt x w' => cases x <;> simp only [Oper.upon, Oper.uponIn] at h ⊢ <;> first | exact h.elim | exact h
theorem wpAnyIn_roundT {P : Program} {md : Region.Mode} {ops : Array Oper} {l n : Nat} {Q : Exit → Act → World → Prop} (hnd : ∀ (j : Nat) (o : Oper), ops[j]? = some o → ∀ c, o.op ≠ .defer c) :
    ∀ (fuel : Nat) (listed : Array Bool) (a : Act) (w : World), wpAny P md ops (Nrm Q) fuel listed a w → wpAnyIn (Fence.wide.inRound l) n P md ops Q fuel listed a w
  | 0, _, _, _, h => h
  | fuel + 1, listed, a, w, h => by
    refine ⟨h.1, fun i hi => ?_⟩
    have hl : ¬ LetsOut (Nrm Q) := fun ⟨_, _, h⟩ => h
    have h2 := wpOp_mono (fun a' w' h' => wpAnyIn_roundT hnd (l := l) (n := n) fuel _ a' w' h') (h.2 i hi)
    unfold wpOp at h2
    unfold wpOpIn
    cases ho : ops[i]? with
    | none => rw [ho] at h2; exact h2
    | some o =>
      rw [ho] at h2
      simp only at h2 ⊢
      split
      · rename_i hw
        rw [if_pos hw] at h2
        rcases h2 with h2 | h2
        · refine ⟨fun _ _ => trivial, ?_⟩
          rw [Oper.semAt_plain _ _ _ (hnd i o ho)]
          exact upon_roundT h2
        · exact (hl h2.2).elim
      · rename_i hw
        rw [if_neg hw] at h2
        exact ⟨fun _ _ => trivial, h2⟩
theorem wpIn_region_roundT {P : Program} {ops : Array Oper} {l n id : Nat} {Q : Exit → Act → World → Prop} {a : Act} {w : World} (hm : P.follows .mixedOrders = true)
    (hnd : (ops.all fun o => match o.op with | .defer _ => false | _ => true) = true)
    (h : wpAny P .any ops (Nrm Q) ops.size (Array.replicate ops.size false) a { w with drawn := w.drawn + 1 }) : (Code.region id ops true).wpIn (Fence.wide.inRound l) n P Q a w :=
  wpIn_region_any hm (wpAnyIn_roundT (fun j o ho c hc => by
    rw [Array.all_eq_true] at hnd
    obtain ⟨hj, hjo⟩ := Array.getElem?_eq_some_iff.1 ho
    have := hnd j hj
    rw [hjo, hc] at this
    cases this) _ _ _ _ h)
end Go.Proofs.YtmfcepfagbkceaaGreatDoor
