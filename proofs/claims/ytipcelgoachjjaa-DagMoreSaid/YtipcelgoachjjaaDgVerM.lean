/- What Verify tells; slices.Clone of integers. -/
import Derived.Test.YtipcelgoachjjaaDgAll
import Derived.Test.YtipcelgoachjjaaDgVerify
import Derived.Test.YtipcelgoachjjaaDgRefVer
namespace Go.Proofs.Ytipcelgoachjjaa
set_option linter.unusedSimpArgs false
set_option linter.unusedVariables false
set_option maxRecDepth 100000
open Go.RowKit Go.Deep

theorem pt_tab {m : Nat} {T : Int → Int} {i : Int} (h0 : 0 ≤ i) (h1 : i < m) : pt (tab m T) i = T i := by
  obtain ⟨k, rfl⟩ : ∃ k : Nat, i = k := ⟨i.toNat, by omega⟩
  rw [pt_get (by rw [tab_len]; omega), tab_get]
theorem least_step {n : Int} {ls : List LkV} (hg : Gr n ls) {t : Int} {i : Nat} (hi : i < ls.length) (h : least ls t (lk ls i).t ≠ -1) : least ls t (lk ls i).f ≠ -1 ∧ least ls t (lk ls i).f ≤ (lk ls i).c + least ls t (lk ls i).t := by
  obtain ⟨f1, f2⟩ := first_mem hg t _ h
  have hu := hg.up i hi
  have hle := P_le hg (fun e => by rw [e] at f1; cases f1)
  have hm := (mem_P hg.up (show (lk ls i).f ≠ t by omega)).2 ⟨i, _, rfl, mem_out.2 ⟨hi, rfl⟩, f1⟩
  have h1 := least_le_cst hg hm
  rw [cst, f2] at h1
  exact ⟨(fun e => by rw [(low_P hg).1 e] at hm; cases hm), h1⟩
theorem feas_pots {m : Nat} {ls : List LkV} (hg : Gr m ls) {t : Int} (ht : 0 ≤ t ∧ t < m) : feas m ls t (tab m (least ls t)) = true := by
  rw [feas_iff]
  refine ⟨by rw [tab_len], fun p hp => ?_, by rw [pt_tab ht.1 ht.2, least_end], fun x hx => ?_⟩
  · obtain ⟨j, hj, rfl⟩ := List.mem_iff_getElem.1 hp
    rw [tab_get]
    rcases low_high hg (t := t) (s := (j : Int)) with h | h <;> omega
  · obtain ⟨i, hi, rfl⟩ := List.mem_iff_getElem.1 hx
    rw [← lk_get hi]
    have hk := hg.lk hi
    have h1 := hk.f0; have h2 := hk.lt; have h3 := hk.t1
    intro h
    rw [pt_tab hk.t0 hk.t1] at h ⊢
    rw [pt_tab h1 (by omega)]
    obtain ⟨a, b⟩ := least_step hg hi h
    exact ⟨a, by omega⟩
theorem ver_val {n : Int} {ls : List LkV} {s t : Int} {path pots : List Int} (h0 : nodesR n ls [s, t] = 0) : verR n ls s t path pots = if feas n ls t pots = true ∧ walkA ls s 0 path = some (t, pt pots s) then 0 else 18 := by
  rw [verR, h0, if_neg (show ¬ ((0 : Int) ≠ 0) by decide)]
/-- least paths are accepted -/
theorem ver_least {m : Nat} {ls : List LkV} {s t : Int} (h0 : nodesR m ls [s, t] = 0) (hl : least ls t s ≠ -1) : verR m ls s t (toI (first ls t s)) (tab m (least ls t)) = 0 := by
  obtain ⟨hc, hin⟩ := nodes_zero h0
  have hg := gr_of hc
  have hs := hin s (by simp)
  have ht := hin t (by simp)
  obtain ⟨f1, f2⟩ := first_mem hg t s hl
  rw [ver_val h0, if_pos ⟨feas_pots hg ht, by rw [P_walkA hg t _ s 0 f1, f2, pt_tab hs.1 hs.2, Int.zero_add]⟩]
theorem walkA_app (ls : List LkV) : ∀ (p r : List Int) (s c : Int), walkA ls s c (p ++ r) = (walkA ls s c p).bind fun x => walkA ls x.1 x.2 r
  | [], r, s, c => rfl
  | i :: p, r, s, c => by
    rw [List.cons_append, walkA, walkA]
    split
    · exact walkA_app ls p r _ _
    · rfl
/-- a link less is refused -/
theorem ver_less {m : Nat} {ls : List LkV} {s t : Int} {pots p : List Int} {i : Int} (h0 : nodesR m ls [s, t] = 0) (hp : ∃ c, walkA ls s 0 (p ++ [i]) = some (t, c)) : verR m ls s t p pots = 18 := by
  obtain ⟨hc, hin⟩ := nodes_zero h0
  have hg := gr_of hc
  rw [ver_val h0, if_neg]
  rintro ⟨_, h⟩
  obtain ⟨c, hp⟩ := hp
  rw [walkA_app, h] at hp
  have := (walkA_le hg _ _ _ hp).2 (by simp)
  simp at this
/-- a greater potential of the beginning is refused -/
theorem ver_more {m : Nat} {ls : List LkV} {s t : Int} {path pots : List Int} (h0 : nodesR m ls [s, t] = 0) {c : Int} (hp : walkA ls s 0 path = some (t, c)) (hne : pt pots s ≠ c) : verR m ls s t path pots = 18 := by
  rw [ver_val h0, if_neg]
  rintro ⟨_, h⟩
  rw [hp] at h
  simp at h
  exact hne h.symm
/-- whatever is accepted is a least path -/
theorem ver_zero {m : Nat} {ls : List LkV} {s t : Int} {path pots : List Int} (h0 : nodesR m ls [s, t] = 0) (h : verR m ls s t path pots = 0) : least ls t s ≠ -1 ∧ ∃ q ∈ P ls t s, path = toI q ∧ cst ls q = least ls t s := by
  obtain ⟨hc, hin⟩ := nodes_zero h0
  have hg := gr_of hc
  have hs := hin s (by simp)
  rw [ver_val h0] at h
  split at h
  · rename_i hh
    obtain ⟨hf, hw⟩ := hh
    obtain ⟨q, hq, h1, h2⟩ := walkA_P hg t _ _ _ _ hw
    have hl : least ls t s ≠ -1 := fun e => by rw [(low_P hg).1 e] at hq; cases hq
    obtain ⟨f1, f2⟩ := first_mem hg t s hl
    have h3 := (feas_le hg hf _ s hs.1 hs.2 f1).2
    have h4 := least_le_cst hg hq
    exact ⟨hl, q, hq, h1, by omega⟩
  · cases h
set_option maxHeartbeats 1000000 in
theorem clone_any (xs : List Int) (h0 : 0 < xs.length) (hl : xs.length ≤ 1000000) (v : Value) (w : World) (hv : IntsAt w v xs) :
    Calls Try.prog 35 #[v] w fun e w' => ∃ v', e = .returned v' ∧ w'.ownsRow w.heap.size 3 1 v' xs.length (xs.map intV) ∧ Below w.heap.size w w' := by
  obtain ⟨i0, hi, hz0, hz1, hz2⟩ := info_parts info_int
  have HV := Lib.hid hv
  obtain ⟨b, off, cap, rfl⟩ : ∃ b off cap, v = .slice (some ⟨b, off, none⟩) xs.length cap := by
    obtain ⟨a, cap, rfl, hc⟩ := hv
    obtain ⟨b, off, rfl, _⟩ := hc h0
    exact ⟨b, off, cap, rfl⟩
  have HE := Lib.hid (World.ownsRow_lit (base := w.heap.size) (e := 3) (size := 1) w #[] 0 (Nat.le_refl _) (by simp [maxLen]) rfl)
  have HVA := Lib.hid (hv.below (alloc_below w (.cells #[] 3)))
  have hnil : ∀ W, Sem.run Try.prog (binOp .eql 23 (.slice (some ⟨b, off, none⟩) xs.length cap) (.slice none 0 0)) W = .ok (.bool false) W := fun W => Lib.run_eql_slice_nil W 23 3 _ _ _ 0 0 Try.underlying23
  clear hv
  go_enter Try.func35, Try.ntmps35
  go_wp2_with (at_builtin; refine wpList_append_ints rfl _ _ 23 rfl w.heap.size 3 i0 (.int .i64 0) 8 Try.underlying23 hi hz0 hz1 hz2 rfl (.slice (some ⟨w.heap.size, 0, none⟩) 0 0) 0 [] rfl HE.out (some ⟨b, off, none⟩) cap xs rfl HVA.out (fun h => by cases h) (by unfold maxLen; omega) (by omega) (by simp) ?_
               intro v1 w4 hown1 hgrow1
               have HO := Lib.hid (show w4.ownsRow w.heap.size 3 1 v1 xs.length (xs.map intV) by simpa using hown1)
               have HB := Lib.hid ((alloc_below w (.cells #[] 3)).grown hgrow1 (by simp) (fun k e => by cases e; exact Nat.le_refl _))
               clear hown1 hgrow1)
  go_ret
  exact ⟨_, rfl, HO.out, HB.out⟩
end Go.Proofs.Ytipcelgoachjjaa
