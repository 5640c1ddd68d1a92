/- slices.ContainsFunc and slices.Equal over lists of strings. -/
import Derived.Test.YtjjdihkjkmhjnaaGlAwake
import Derived.Test.YtjjdihkjkmhjnaaGlSpecF
namespace Go.Proofs.Ytjjdihkjkmhjnaa
set_option linter.unusedSimpArgs false
set_option linter.unusedVariables false
set_option maxRecDepth 100000
open Go.RowKit Go.Deep

/-- a function of a string that says 'no' only where G holds -/
def Test (fe : Nat) (G : ByteArray → Prop) (l : List ByteArray) : Prop := (∀ args W, Sem.run Try.prog (callFunc fe args) W = .ok (.enter fe args) W) ∧ ∀ x ∈ l, ∀ W : World,
  Calls Try.prog fe #[.string x] W fun e w' => ∃ b : Bool, e = .returned (.bool b) ∧ (b = false → G x) ∧ Below W.heap.size W w'
def IdxPost (G : ByteArray → Prop) (l : List ByteArray) (w : World) (e : Ending) (w' : World) : Prop := ∃ k : Int, e = .returned (intV k) ∧ -1 ≤ k ∧ k ≤ l.length ∧ (k < 0 → ∀ x ∈ l, G x) ∧ Below w.heap.size w w'
set_option maxHeartbeats 1000000 in
theorem indexFunc_any (fe : Nat) (G : ByteArray → Prop) (l : List ByteArray) (v : Value) (w : World) (hv : StrsAt w v l) (hl : l.length ≤ 4611686018427387904) (ht : Test fe G l) :
    Calls Try.prog 43 #[v, .func (.func fe) #[] #[]] w (IdxPost G l w) := by
  obtain ⟨hce, hte⟩ := ht
  have HTE := Lib.hid hte
  have HV := Lib.hid hv
  obtain ⟨a, c, rfl⟩ := hv.slice
  clear hte hv
  go_enter Try.func43, Try.ntmps43
  go_wp2
  go_loopw [8] (fun i wr => ∃ j : Nat, j ≤ l.length ∧ i = .int .i64 j ∧ Hid (∀ x ∈ l.take j, G x) ∧ Below w.heap.size w wr) (fun i _ => l.length - (intOf i).toNat)
  case atStart => exact ⟨0, Nat.zero_le _, rfl, Lib.hid (fun x hx => by simp at hx), Below.refl _ _⟩
  case round =>
    obtain ⟨j, hj, rfl, HG, hB⟩ := hrel
    obtain ⟨wk, rfl⟩ : ∃ x, x = wr := ⟨_, rfl⟩
    have HB := Lib.hid hB
    by_cases hlt : j < l.length
    · obtain ⟨b, off, rfl, hb, hq⟩ := (HV.out.below hB).get hlt
      obtain ⟨x, hx⟩ : ∃ x, l[j] = x := ⟨_, rfl⟩
      rw [hx] at hq
      have HREC := Lib.hid (HTE.out x (by rw [← hx]; exact List.getElem_mem hlt) wk)
      have HX := Lib.hid hx
      clear hB hx
      go_wp2_with fail
      refine HREC.out.mono ?_
      rintro e w2 ⟨b, rfl, hg, h2⟩
      have HB2 := Lib.hid (HB.out.trans (h2.mono HB.out.size))
      have HG2 := Lib.hid hg
      clear h2 hg hq HREC
      cases b with
      | true =>
        go_wp2_with fail
        go_ret
        exact ⟨j, rfl, by omega, by omega, fun h => by omega, HB2.out⟩
      | false =>
        go_wp2_with fail
        refine ⟨⟨j + 1, by omega, by go_num, Lib.hid (fun y hy => ?_), HB2.out⟩, by simp [intOf]; omega⟩
        rw [List.take_succ_eq_append_getElem hlt] at hy
        rcases List.mem_append.1 hy with hy | hy
        · exact HG.out y hy
        · rw [List.mem_singleton] at hy; rw [hy, HX.out]; exact HG2.out (by trivial)
    · clear hB
      go_wp2_with fail
      go_ret
      obtain rfl : j = l.length := by omega
      have := HG.out
      rw [List.take_length] at this
      exact ⟨-1, rfl, by omega, by omega, fun _ => this, HB.out⟩
def HasPost (G : ByteArray → Prop) (l : List ByteArray) (w : World) (e : Ending) (w' : World) : Prop := ∃ b : Bool, e = .returned (.bool b) ∧ (b = false → ∀ x ∈ l, G x) ∧ Below w.heap.size w w'
set_option maxHeartbeats 1000000 in
theorem containsFunc_any (fe : Nat) (G : ByteArray → Prop) (l : List ByteArray) (v : Value) (w : World) (hv : StrsAt w v l) (hl : l.length ≤ 4611686018427387904) (ht : Test fe G l) :
    Calls Try.prog 21 #[v, .func (.func fe) #[] #[]] w (HasPost G l w) := by
  have H := Lib.hid (indexFunc_any fe G l v w hv hl ht)
  obtain ⟨a, c, rfl⟩ := hv.slice
  clear ht hv
  go_enter Try.func21, Try.ntmps21
  go_wp2_with fail
  refine H.out.mono ?_
  rintro e w1 ⟨k, rfl, h1, h2, hg, hB⟩
  have HG := Lib.hid (And.intro hg hB)
  clear hg hB
  go_wp2_with fail
  go_ret
  exact ⟨_, rfl, fun h => HG.out.1 (by simpa using h), HG.out.2⟩
set_option maxHeartbeats 2000000 in
/-- two slices of the same strings are equal -/
theorem equal_same (l : List ByteArray) (v v' : Value) (w : World) (hv : StrsAt w v l) (hv' : StrsAt w v' l) (hl : l.length ≤ 4611686018427387904) :
    Calls Try.prog 26 #[v, v'] w fun e w' => e = .returned (.bool true) ∧ Below w.heap.size w w' := by
  have HV := Lib.hid hv
  have HV' := Lib.hid hv'
  obtain ⟨a, c, rfl⟩ := hv.slice
  obtain ⟨a', c', rfl⟩ := hv'.slice
  clear hv hv'
  go_enter Try.func26, Try.ntmps26
  go_wp2_with fail
  go_loopw [13] (fun i wr => ∃ j : Nat, j ≤ l.length ∧ i = .int .i64 j ∧ Below w.heap.size w wr) (fun i _ => l.length - (intOf i).toNat)
  case atStart => exact ⟨0, Nat.zero_le _, rfl, Below.refl _ _⟩
  case round =>
    obtain ⟨j, hj, rfl, hB⟩ := hrel
    obtain ⟨wk, rfl⟩ : ∃ x, x = wr := ⟨_, rfl⟩
    have HB := Lib.hid hB
    by_cases hlt : j < l.length
    · obtain ⟨b, off, rfl, hb, hq⟩ := (HV.out.below hB).get hlt
      obtain ⟨b', off', rfl, hb', hq'⟩ := (HV'.out.below hB).get hlt
      obtain ⟨x, hx⟩ : ∃ x, l[j] = x := ⟨_, rfl⟩
      rw [hx] at hq hq'
      have hj0 : (0 : Int) ≤ j := by omega
      have hj1 : (j : Int) < l.length := by omega
      clear hB hx
      go_wp2_with fail
      go_quiet (fail)
      go_wp2_with fail
      refine ⟨⟨j + 1, by omega, by go_num, HB.out.trans ((below_drewN wk _).mono HB.out.size)⟩, by simp [intOf]; omega⟩
    · clear hB
      go_wp2_with fail
      go_ret
      exact ⟨rfl, HB.out⟩
end Go.Proofs.Ytjjdihkjkmhjnaa
