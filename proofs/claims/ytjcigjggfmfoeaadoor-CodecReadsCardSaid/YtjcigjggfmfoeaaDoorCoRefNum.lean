/- The reference's number and item. -/
import Derived.Test.YtjcigjggfmfoeaaDoorCoNum
import Derived.Test.YtjcigjggfmfoeaaDoorCoRead
namespace Go.Proofs.YtjcigjggfmfoeaaDoor
set_option linter.unusedSimpArgs false
set_option linter.unusedVariables false
set_option maxRecDepth 100000
open Go.RowKit Go.Deep

theorem cut_find (e : UInt8) (l : List UInt8) : (cutAt e l = none ∧ ∀ (j : Nat) (h : j < l.length), l[j] ≠ e) ∨
    ∃ (k : Nat) (h : k < l.length), cutAt e l = some (l.take k, l.drop (k + 1)) ∧ l[k] = e ∧ ∀ (j : Nat) (h' : j < k), l[j]'(by omega) ≠ e := by
  induction l with
  | nil => exact .inl ⟨rfl, fun j h => by simp at h⟩
  | cons c l ih =>
    by_cases hc : c = e
    · exact .inr ⟨0, by simp, by simp [cutAt, hc], by simpa using hc, fun j h => by omega⟩
    · rcases ih with ⟨h1, h2⟩ | ⟨k, hk, h1, h2, h3⟩
      · refine .inl ⟨by rw [cutAt, if_neg hc, h1], fun j h => ?_⟩
        cases j with
        | zero => exact hc
        | succ j => exact h2 j (by simpa using h)
      · refine .inr ⟨k + 1, by simpa using hk, by rw [cutAt, if_neg hc, h1]; rfl, by simpa using h2, fun j h => ?_⟩
        cases j with
        | zero => exact hc
        | succ j => exact h3 j (by omega)
theorem ba_get (s : ByteArray) (j : Nat) (h : j < s.size) : s.data.toList[j]'(by rw [size_list]; exact h) = s[j] := by
  rw [Array.getElem_toList]; rfl
theorem byte_ne {a e : UInt8} {ev : Int} (hev : (e.toNat : Int) = ev) (h : a ≠ e) : ((a.toNat : Int) == ev) = false := by
  rw [beq_eq_false_iff_ne, ← hev]
  intro hh
  exact h (UInt8.toNat_inj.1 (by omega))
theorem num_find (e : UInt8) (ev : Int) (hev : (e.toNat : Int) = ev) (s : ByteArray) : (num e s.data.toList = none ∧ ∀ (j : Nat) (h : j < s.size), j < 24 → ((s[j].toNat : Int) == ev) = false) ∨
    ∃ (k : Nat) (h : k < s.size), k < 24 ∧ cutAt e s.data.toList = some (s.data.toList.take k, s.data.toList.drop (k + 1)) ∧ ((s[k].toNat : Int) == ev) = true ∧ ∀ (j : Nat) (h' : j < k), ((s[j].toNat : Int) == ev) = false := by
  rcases cut_find e s.data.toList with ⟨h1, h2⟩ | ⟨k, hk, h1, h2, h3⟩
  · refine .inl ⟨by unfold num; rw [h1], fun j h _ => byte_ne hev ?_⟩
    rw [← ba_get]; exact h2 j _
  · rw [size_list] at hk
    by_cases h24 : k < 24
    · refine .inr ⟨k, hk, h24, h1, ?_, fun j h => byte_ne hev ?_⟩
      · rw [← ba_get, h2, hev]; exact beq_self_eq_true _
      · rw [← ba_get]; exact h3 j h
    · refine .inl ⟨?_, fun j h hj => byte_ne hev ?_⟩
      · unfold num; rw [h1]
        simp only
        cases ha : Lib.atoiAll (s.data.toList.take k) with
        | ok n =>
          simp only
          refine if_neg fun hi => ?_
          have hb := Lib.atoiAll_bounds ha
          have := Lib.itoa_length_le n hb.1 hb.2
          rw [hi, List.length_take, size_list] at this
          omega
        | «syntax» => rfl
        | range => rfl
      · rw [← ba_get]; exact h3 j (by omega)
/-- what Atoi gives, its error left aside -/
theorem atoi_num {l : List UInt8} {w w' : World} {e : Ending} (h : AtoiPost l w e w') : ∃ (n : Int) (v : Value), e = .returned (.tuple #[.int .i64 n, v]) ∧ I64 n ∧ (∀ m, Lib.atoiAll l = .ok m → m = n) ∧ Below w.heap.size w w' := by
  rcases h with ⟨n, h1, h2, h3⟩ | ⟨n, t, p, h1, h2, h3, h4, h5⟩
  · exact ⟨n, _, h2, Lib.atoiAll_bounds h1, fun m hm => by rw [h1] at hm; cases hm; rfl, h3⟩
  · exact ⟨n, _, h4, ⟨h2, h3⟩, fun m hm => absurd hm (h1 m), h5⟩
theorem num_of {e : UInt8} {s d r : List UInt8} {n : Int} (hc : cutAt e s = some (d, r)) (hi : I64 n) (h : ∀ m, Lib.atoiAll d = .ok m → m = n) : num e s = if Lib.itoa n = d then some (n, r) else none := by
  unfold num
  rw [hc]
  simp only
  by_cases hd : Lib.itoa n = d
  · rw [if_pos hd, ← hd, atoi_itoa hi]
    simp
  · rw [if_neg hd]
    cases ha : Lib.atoiAll d with
    | ok m => obtain rfl := h m ha; exact if_neg hd
    | «syntax» => rfl
    | range => rfl
/-- what number gives -/
def RNumIs (c : UInt8) (s : ByteArray) (n : Int) (k : Nat) (b : Bool) : Prop := I64 n ∧ k ≤ s.size ∧ ((b = true ∧ 1 ≤ k ∧ num c s.data.toList = some (n, s.data.toList.drop k)) ∨ (b = false ∧ num c s.data.toList = none))
def RNumPost (c : UInt8) (s : ByteArray) (w : World) (e : Ending) (w' : World) : Prop := ∃ n k b, e = .returned (.tuple #[intV n, intV (k : Nat), .bool b]) ∧ RNumIs c s n k b ∧ Below w.heap.size w w'
set_option maxHeartbeats 2000000 in
theorem number_any (c : UInt8) (ev : Int) (hev : (c.toNat : Int) = ev) (s : ByteArray) (hs : s.size ≤ 1048576) (w : World) (hT : Tab w) :
    Calls Tryd.prog 60 #[.string s, .int .u8 ev] w (RNumPost c s w) := by
  have HT := Lib.hid hT
  clear hT
  rcases num_find c ev hev s with ⟨hnum, hne⟩ | ⟨k, hk, h24, hcut, heq, hne⟩
  · have HN := Lib.hid hnum
    have HNE := Lib.hid hne
    clear hnum hne hev
    go_enter Tryd.func60, Tryd.ntmps60
    go_wp2_with fail
    go_loopw [7] (fun i wr => ∃ j : Nat, i = .int .i64 j ∧ j ≤ s.size ∧ j ≤ 24 ∧ Below w.heap.size w wr) (fun i _ => 24 - (intOf i).toNat)
    case atStart => exact ⟨0, rfl, Nat.zero_le _, Nat.zero_le _, Below.refl _ _⟩
    case round =>
      obtain ⟨j, rfl, hj, hj', hB⟩ := hrel
      have HB := Lib.hid hB
      clear hB
      by_cases h1 : j < s.size
      · by_cases h2 : j < 24
        · have hq := HNE.out j h1 h2
          go_wp2_with fail
          refine ⟨⟨j + 1, by go_num, by omega, by omega, HB.out⟩, ?_⟩
          simp [intOf]; omega
        · obtain rfl : j = 24 := by omega
          go_wp2_with fail
          refine bodyPost_ret (v := .tuple #[intV 0, intV 0, .bool false]) (by simp [results, Tryd.results60, go_sem]) rfl ⟨0, 0, false, rfl, ⟨⟨by decide, by decide⟩, Nat.zero_le _, .inr ⟨rfl, HN.out⟩⟩, HB.out⟩
      · go_wp2_with fail
        refine bodyPost_ret (v := .tuple #[intV 0, intV 0, .bool false]) (by simp [results, Tryd.results60, go_sem]) rfl ⟨0, 0, false, rfl, ⟨⟨by decide, by decide⟩, Nat.zero_le _, .inr ⟨rfl, HN.out⟩⟩, HB.out⟩
  · have HNE := Lib.hid hne
    have HCUT := Lib.hid hcut
    clear hne hev hcut
    go_enter Tryd.func60, Tryd.ntmps60
    go_wp2_with fail
    go_loopw [7] (fun i wr => ∃ j : Nat, i = .int .i64 j ∧ j ≤ k ∧ Below w.heap.size w wr) (fun i _ => 24 - (intOf i).toNat)
    case atStart => exact ⟨0, rfl, Nat.zero_le _, Below.refl _ _⟩
    case round =>
      obtain ⟨j, rfl, hj, hB⟩ := hrel
      obtain ⟨wk, rfl⟩ : ∃ x, x = wr := ⟨_, rfl⟩
      have HB := Lib.hid hB
      clear hB
      have h1 : j < s.size := by omega
      have h2 : j < 24 := by omega
      have h3 : (0 : Int) ≤ j := by omega
      have h4 : (j : Int) ≤ s.size := by omega
      by_cases hjk : j < k
      · have hq := HNE.out j hjk
        go_wp2_with fail
        refine ⟨⟨j + 1, by go_num, by omega, HB.out⟩, ?_⟩
        simp [intOf]; omega
      · obtain rfl : j = k := by omega
        have HAT := Lib.hid (atoi_any (s.extract 0 j) (by simp; omega) wk (HT.out.below HB.out))
        clear hjk hj
        go_wp2_with fail
        refine HAT.out.mono ?_
        rintro e w2 hp
        obtain ⟨n, v, rfl, hi, hu, h3⟩ := atoi_num hp
        have HB2 := Lib.hid (below_seq HB.out h3 HB.out.size)
        have HNUM := Lib.hid (num_of HCUT.out hi (fun m hm => hu m (by rw [ext_list]; simpa using hm)))
        have hi0 := hi.1
        have hi1 := hi.2
        obtain ⟨st, hst⟩ : ∃ st : ByteArray, st.data.toList = Lib.itoa n := ⟨⟨(Lib.itoa n).toArray⟩, by simp⟩
        have HST := Lib.hid hst
        have HITO := Lib.hid (itoa_at n hi0 hi1 st hst _ ((HT.out.below HB2.out).below (Below.drew (Below.refl _ _))))
        obtain ⟨q, hq⟩ : ∃ q, (st.toList == (s.extract 0 j).toList) = q := ⟨_, rfl⟩
        have HQ := Lib.hid hq
        clear hp h3 hu hst HAT
        go_wp2_with fail
        go_region_held3 (fun w' => True) (trivial) (first | (go_at_call 55; refine HITO.out.mono ?_; rintro e w3 ⟨rfl, h4⟩; have HB3 := Lib.hid (below_seq HB2.out ((Below.refl _ _).drew.trans h4) HB2.out.size); clear h4))
        all_goals
          go_wp2
          refine bodyPost_ret (v := .tuple #[intV n, intV ((j + 1 : Nat)), .bool q]) (by simp [results, Tryd.results60, go_sem]; exact IntWalk.i64_in _ (by omega)) rfl ⟨n, j + 1, q, rfl, ⟨⟨hi0, hi1⟩, h1, ?_⟩, HB3.out⟩
          have hnn := HNUM.out
          have hqq := HQ.out
          rw [ByteArray.toList_eq, ByteArray.toList_eq, HST.out, ext_list] at hqq
          simp only [Nat.sub_zero, List.drop_zero] at hqq
          cases q with
          | true => exact .inl ⟨rfl, by omega, by rw [hnn, if_pos (by simpa using hqq)]⟩
          | false => exact .inr ⟨rfl, by rw [hnn, if_neg (by simpa using hqq)]⟩
end Go.Proofs.YtjcigjggfmfoeaaDoor
