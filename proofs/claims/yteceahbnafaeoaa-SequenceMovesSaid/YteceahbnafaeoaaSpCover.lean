/- Cover. -/
import Derived.Test.YteceahbnafaeoaaSqPiles
import Derived.Test.YteceahbnafaeoaaSpSmall
import Derived.Test.YteceahbnafaeoaaSqHold
namespace Go.Proofs.Yteceahbnafaeoaa
set_option linter.unusedSimpArgs false
set_option linter.unusedVariables false
set_option maxRecDepth 100000
open Go.RowKit Go.Deep

/-- what the closure of Cover has: the list and an element -/
structure CvC (l : List Int) (a : Option Addr) (cap : Nat) (x : Int) (bl be : Nat) (W : World) : Prop where
  li : IntsAt W (.slice a l.length cap) l
  cl : W.cell? ⟨bl, 0, none⟩ = some (.slice a l.length cap)
  ce : W.cell? ⟨be, 0, none⟩ = some (intV x)
theorem CvC.below {l : List Int} {a : Option Addr} {cap : Nat} {x : Int} {bl be : Nat} {W W' : World} (h : CvC l a cap x bl be W) (hB : Below W.heap.size W W') : CvC l a cap x bl be W' :=
  ⟨h.li.below hB, (hB.cell (p := ⟨bl, 0, none⟩) (World.block_lt_of_cell? W ⟨bl, 0, none⟩ h.cl)).trans h.cl, (hB.cell (p := ⟨be, 0, none⟩) (World.block_lt_of_cell? W ⟨be, 0, none⟩ h.ce)).trans h.ce⟩
theorem last_ix {p : List Int} (hp : 0 < p.length) : p.getLastD 0 = p[p.length - 1] := by
  rw [List.getLastD_eq_getLast?, List.getLast?_eq_getElem?, List.getElem?_eq_getElem (by omega)]; rfl
set_option maxHeartbeats 2000000 in
theorem cover1_any (l : List Int) (a : Option Addr) (cap : Nat) (x : Int) (bl be : Nat) (p : List Int) (hp : 0 < p.length) (hpl : p.length ≤ 1000000) (hin : inB l (p.getLastD 0) = true) (v : Value) (w : World) (hC : CvC l a cap x bl be w) (hv : IntsAt w v p) (r : Bool) (hr : takes l x p = r) :
    Calls Try.prog 51 #[v, .pointer (some ⟨bl, 0, none⟩), .pointer (some ⟨be, 0, none⟩)] w fun e w' => e = .returned (.bool r) ∧ Below w.heap.size w w' := by
  obtain ⟨n, hn⟩ : ∃ n, p.length = n + 1 := ⟨p.length - 1, by omega⟩
  obtain ⟨ap, cp, rfl⟩ := hv.slice
  have hp1 : n < p.length := by omega
  obtain ⟨b, off, rfl, hbb, c0⟩ := hv.elem hp1
  have hlx := last_ix hp
  have hq : p[p.length - 1] = p[n] := by congr 1; omega
  rw [hq] at hlx
  obtain ⟨k, hk, hkk⟩ := in_nat hin
  rw [hkk] at hlx
  obtain ⟨b2, off2, rfl, hb2, c1⟩ := hC.li.elem hk
  have ccl := hC.cl
  have cce := hC.ce
  rw [← hlx] at c0
  have hat : at0 l (p.getLastD 0) = l[k] := by rw [hkk, at0_get l k hk]
  unfold takes at hr
  rw [hat] at hr
  obtain ⟨y, hy⟩ : ∃ y, l[k] = y := ⟨_, rfl⟩
  rw [hy] at hr c1
  obtain ⟨m, hm⟩ : ∃ m, p.length = m := ⟨_, rfl⟩
  rw [hm] at hn ⊢
  have hwr : IntKind.i64.wrap ((m : Int) - 1) = (n : Int) := by rw [show (m : Int) - 1 = (n : Int) by omega]; exact IntWalk.i64_in _ (by omega)
  have n0 : (0 : Int) ≤ (n : Int) := by omega
  have n1 : (n : Int) < (m : Int) := by omega
  have k0 : (0 : Int) ≤ (k : Int) := by omega
  have k1 : (k : Int) < (l.length : Int) := by omega
  have HB := Lib.hid (fun j => below_drewN w j)
  clear hv hC hin hlx hq hkk hat hy hm hn
  go_enter Try.func51, Try.ntmps51
  go_wp2_with fail
  go_quiet (fail)
  go_wp2
  go_ret
  exact ⟨by first | rfl | (rw [hr]), HB.out _⟩
set_option maxHeartbeats 4000000 in
theorem indexL_any (l : List Int) (a : Option Addr) (cap : Nat) (x : Int) (bl be : Nat) (L : List (List Int)) (hL : L.length ≤ 1000000) (hne : ∀ p ∈ L, 0 < p.length ∧ p.length ≤ 1000000 ∧ inB l (p.getLastD 0) = true) (v : Value) (w : World) (hC : CvC l a cap x bl be w) (hv : ListsAt w v L) :
    Calls Try.prog 50 #[v, .func (.func 51) #[] #[.pointer (some ⟨bl, 0, none⟩), .pointer (some ⟨be, 0, none⟩)]] w fun e w' => ∃ r, e = .returned (intV r) ∧ PickPost (takes l x) L r ∧ Below w.heap.size w w' := by
  have HV := Lib.hid hv
  have HC := Lib.hid hC
  have HNE := Lib.hid hne
  obtain ⟨al, cl, rfl⟩ := hv.slice
  have C1 := Lib.hid (fun p h1 h2 h3 u W (hC : CvC l a cap x bl be W) h4 r hr => cover1_any l a cap x bl be p h1 h2 h3 u W hC h4 r hr)
  clear hv hC hne
  go_enter Try.func50, Try.ntmps50
  go_wp2
  go_loopw [8] (fun i wr => ∃ k : Nat, ∃ hk : k ≤ L.length, i = .int .i64 k ∧ Below w.heap.size w wr ∧ ∀ (j : Nat) (hj : j < k), takes l x (L[j]'(by omega)) = false) (fun i _ => L.length - (intOf i).toNat)
  case atStart => exact ⟨0, Nat.zero_le _, rfl, Below.refl _ _, fun j hj => by omega⟩
  case round =>
    obtain ⟨k, hk, rfl, hB, hno⟩ := hrel
    obtain ⟨wk, rfl⟩ : ∃ x, x = wr := ⟨_, rfl⟩
    have HB := Lib.hid hB
    have HNO := Lib.hid hno
    by_cases hlt : k < L.length
    · obtain ⟨b, off, u, c, rfl, hbb, c0, hu⟩ := HV.out.elem hlt
      have c1 := (hB.cell (p := ⟨b, off + k, none⟩) hbb).trans c0
      obtain ⟨q1, q2, q3⟩ := HNE.out L[k] (List.getElem_mem hlt)
      obtain ⟨r, hr⟩ : ∃ r, takes l x L[k] = r := ⟨_, rfl⟩
      have C2 := Lib.hid (C1.out L[k] q1 q2 q3 _ wk (HC.out.below hB) (hu.below hB) r hr)
      have HR := Lib.hid hr
      obtain ⟨m, hm⟩ : ∃ m, L[k].length = m := ⟨_, rfl⟩
      rw [hm] at c1 C2
      clear hB hno c0 hu q1 q2 q3 hr hm
      cases r with
      | true =>
        go_wp2_with fail
        refine C2.out.mono ?_
        rintro e w2 ⟨rfl, h2⟩
        have HB2 := Lib.hid (below_then HB.out h2)
        clear h2
        go_wp2
        go_ret
        exact ⟨_, rfl, .inl ⟨k, hlt, HNO.out, HR.out, rfl⟩, HB2.out⟩
      | false =>
        go_wp2_with fail
        refine C2.out.mono ?_
        rintro e w2 ⟨rfl, h2⟩
        have HB2 := Lib.hid (below_then HB.out h2)
        clear h2
        go_wp2
        go_roundw
        case rel => exact ⟨k + 1, by omega, by go_num, HB2.out, fun j hj => by
          rcases Nat.lt_or_ge j k with h | h
          · exact HNO.out j h
          · obtain rfl : j = k := by omega
            exact HR.out⟩
        case measure => simp [intOf]; omega
    · obtain rfl : k = L.length := by omega
      clear hB hno
      go_wp2
      go_ret
      refine ⟨_, rfl, .inr ⟨fun p hp => ?_, rfl⟩, HB.out⟩
      obtain ⟨j, hj, rfl⟩ := List.getElem_of_mem hp
      exact HNO.out j hj
end Go.Proofs.Yteceahbnafaeoaa
