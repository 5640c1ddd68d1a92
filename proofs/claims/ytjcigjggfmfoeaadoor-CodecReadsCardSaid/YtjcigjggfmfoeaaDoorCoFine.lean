/- slices.ContainsFunc over values, and fine. -/
import Derived.Test.YtjcigjggfmfoeaaDoorCoGreat
import Derived.Test.YtjcigjggfmfoeaaDoorCoAll
import Derived.Test.YtjcigjggfmfoeaaDoorCoMake
import Derived.Laws.EntriesVeiled
namespace Go.Proofs.YtjcigjggfmfoeaaDoor
set_option linter.unusedSimpArgs false
set_option linter.unusedVariables false
set_option maxRecDepth 100000
open Go.RowKit Go.Deep

/-- a function of a value that says 'no' only where G holds -/
def Test (fe : Nat) (G : Val → Prop) (l : List Val) : Prop := (∀ args W, Sem.run Tryd.prog (callFunc fe args) W = .ok (.enter fe args) W) ∧ ∀ x ∈ l, ∀ (v : Value) (P : Nat → Prop) (W : World), VAt W P v x →
  Calls Tryd.prog fe #[v] W fun e w' => ∃ b : Bool, e = .returned (.bool b) ∧ (b = false → G x) ∧ Below W.heap.size W w'
def IdxPost (G : Val → Prop) (l : List Val) (w : World) (e : Ending) (w' : World) : Prop := ∃ k : Int, e = .returned (intV k) ∧ -1 ≤ k ∧ k ≤ l.length ∧ (k < 0 → ∀ x ∈ l, G x) ∧ Below w.heap.size w w'
set_option maxHeartbeats 1000000 in
theorem indexFunc_any (fe : Nat) (G : Val → Prop) (l : List Val) (v : Value) (P : Nat → Prop) (w : World) (hv : VsAt w P v l) (hl : l.length ≤ 4611686018427387904) (ht : Test fe G l) :
    Calls Tryd.prog 44 #[v, .func (.func fe) #[] #[]] w (IdxPost G l w) := by
  obtain ⟨hce, hte⟩ := ht
  have HTE := Lib.hid hte
  have HV := Lib.hid hv
  obtain ⟨a, c, rfl, _⟩ := hv
  clear hte
  go_enter Tryd.func44, Tryd.ntmps44
  go_wp2
  go_loopw [8] (fun i wr => ∃ j : Nat, j ≤ l.length ∧ i = .int .i64 j ∧ Hid (∀ x ∈ l.take j, G x) ∧ Below w.heap.size w wr) (fun i _ => l.length - (intOf i).toNat)
  case atStart => exact ⟨0, Nat.zero_le _, rfl, Lib.hid (fun x hx => by simp at hx), Below.refl _ _⟩
  case round =>
    obtain ⟨j, hj, rfl, HG, hB⟩ := hrel
    obtain ⟨wk, rfl⟩ : ∃ x, x = wr := ⟨_, rfl⟩
    have HB := Lib.hid hB
    by_cases hlt : j < l.length
    · obtain ⟨b, off, sa, sc, rfl, _, hb, q0, q1, q2, q3, hx⟩ := (HV.out.below hB).elem' hlt
      have HREC := Lib.hid (HTE.out l[j] (List.getElem_mem hlt) _ P wk hx)
      clear hB hx
      go_wp2_with fail
      refine HREC.out.mono ?_
      rintro e w2 ⟨b, rfl, hg, h2⟩
      have HB2 := Lib.hid (HB.out.trans (h2.mono HB.out.size))
      have HG2 := Lib.hid hg
      clear h2 hg q0 q1 q2 q3 HREC
      cases b with
      | true =>
        go_wp2_with fail
        go_ret
        exact ⟨j, rfl, by omega, by omega, fun h => by omega, HB2.out⟩
      | false =>
        go_wp2_with fail
        refine ⟨⟨j + 1, by omega, by go_num, Lib.hid (fun x hx => ?_), HB2.out⟩, by simp [intOf]; omega⟩
        rw [List.take_succ_eq_append_getElem hlt] at hx
        rcases List.mem_append.1 hx with hx | hx
        · exact HG.out x hx
        · rw [List.mem_singleton] at hx; subst hx; exact HG2.out (by trivial)
    · clear hB
      go_wp2_with fail
      go_ret
      obtain rfl : j = l.length := by omega
      have := HG.out
      rw [List.take_length] at this
      exact ⟨-1, rfl, by omega, by omega, fun _ => this, HB.out⟩
def HasPost (G : Val → Prop) (l : List Val) (w : World) (e : Ending) (w' : World) : Prop := ∃ b : Bool, e = .returned (.bool b) ∧ (b = false → ∀ x ∈ l, G x) ∧ Below w.heap.size w w'
set_option maxHeartbeats 1000000 in
theorem containsFunc_any (fe : Nat) (G : Val → Prop) (l : List Val) (v : Value) (P : Nat → Prop) (w : World) (hv : VsAt w P v l) (hl : l.length ≤ 4611686018427387904) (ht : Test fe G l) :
    Calls Tryd.prog 20 #[v, .func (.func fe) #[] #[]] w (HasPost G l w) := by
  have H := Lib.hid (indexFunc_any fe G l v P w hv hl ht)
  obtain ⟨a, c, rfl, _⟩ := hv
  clear ht
  go_enter Tryd.func20, Tryd.ntmps20
  go_wp2_with fail
  refine H.out.mono ?_
  rintro e w1 ⟨k, rfl, h1, h2, hg, hB⟩
  have HG := Lib.hid (And.intro hg hB)
  clear hg hB
  go_wp2_with fail
  go_ret
  exact ⟨_, rfl, fun h => HG.out.1 (by simpa using h), HG.out.2⟩
/-- what fine holds values to -/
def FineV (x : Val) : Prop := SmallV x ∧ chk x = 0
set_option maxHeartbeats 1000000 in
theorem fine1_any (x : Val) (v : Value) (P : Nat → Prop) (w : World) (hv : VAt w P v x) :
    Calls Tryd.prog 48 #[v] w fun e w' => ∃ b : Bool, e = .returned (.bool b) ∧ (b = false → FineV x) ∧ Below w.heap.size w w' := by
  obtain ⟨sa, sc, rfl, hs⟩ := hv.agg
  have HV := Lib.hid (hv.below (below_box0 w (.cells #[intV x.kd, intV x.nm, .string x.tx, .slice sa x.its.length sc] 24)))
  clear hs hv
  go_enter Tryd.func48, Tryd.ntmps48
  go_wp2_with fail
  refine (great_any x _ P _ HV.out).mono ?_
  rintro e w1 ⟨b, rfl, hg, hB⟩
  have hbx := (hB.block _ (by simp)).trans (heap_alloc_new w _)
  obtain ⟨c0, c1, c2, c3⟩ := heap4 hbx
  have HB := Lib.hid (below_seq (below_box0 w _) hB (by simp))
  have HV1 := Lib.hid (HV.out.below hB)
  have HG := Lib.hid hg
  clear hbx hB hg
  cases b with
  | true =>
    go_wp2_with fail
    go_ret
    exact ⟨true, rfl, fun h => (nomatch h), HB.out⟩
  | false =>
    have hsm := HG.out (by trivial)
    obtain ⟨r, hr⟩ : ∃ r, chk x = r := ⟨_, rfl⟩
    have HC := Lib.hid (refCheck_any x _ P w1 HV1.out (by have := hsm.2; omega))
    rw [hr] at HC
    have HR := Lib.hid hr
    clear hr hsm
    go_wp2_with fail
    refine HC.out.mono ?_
    rintro e w2 ⟨rfl, h2⟩
    have HB2 := Lib.hid (HB.out.trans (h2.mono HB.out.size))
    clear h2 c0 c1 c2 c3 HC
    go_wp2_with fail
    go_ret
    exact ⟨_, rfl, fun h => ⟨HG.out (by trivial), HR.out.trans (by simpa using h)⟩, HB2.out⟩
def FinePost (l : List Val) (w : World) (e : Ending) (w' : World) : Prop := ∃ b : Bool, e = .returned (.bool b) ∧ (b = true → ∀ x ∈ l, FineV x) ∧ Below w.heap.size w w'
set_option maxHeartbeats 1000000 in
theorem fine_any (l : List Val) (v : Value) (P : Nat → Prop) (w : World) (hv : VsAt w P v l) (hl : l.length ≤ 4611686018427387904) :
    Calls Tryd.prog 29 #[v] w (FinePost l w) := by
  have H := Lib.hid (containsFunc_any 48 FineV l v P w hv hl ⟨Tryd.call48, fun x _ v P W h => fine1_any x v P W h⟩)
  obtain ⟨a, c, rfl, _⟩ := hv
  go_enter Tryd.func29, Tryd.ntmps29
  go_wp2_with fail
  refine H.out.mono ?_
  rintro e w1 ⟨b, rfl, hg, hB⟩
  have HG := Lib.hid (And.intro hg hB)
  clear hg hB
  go_wp2_with fail
  go_ret
  exact ⟨_, rfl, fun h => HG.out.1 (by simpa using h), HG.out.2⟩
end Go.Proofs.YtjcigjggfmfoeaaDoor
