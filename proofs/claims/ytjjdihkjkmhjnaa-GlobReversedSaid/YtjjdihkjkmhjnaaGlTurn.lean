/- slices.Reverse of bytes, and the laws' turned. Written by tools/gen_glturn.py. -/
import Derived.Test.YtjjdihkjkmhjnaaGlSome
import Derived.Test.YtjjdihkjkmhjnaaGlHold
import Derived.Lib.BufferRead
namespace Go.Proofs.Ytjjdihkjkmhjnaa
set_option linter.unusedSimpArgs false
set_option linter.unusedVariables false
set_option maxRecDepth 100000
open Go.RowKit Go.Deep

/-- a row of bytes whose first n are known, its mark behind them -/
def BRow (W : World) (D n : Nat) (f : Nat → UInt8) : Prop := ∃ (cur : Array Value) (m : Nat), W.heap[D]? = some (.cells cur 5 (m, m + 1)) ∧ n ≤ m ∧ n ≤ cur.size ∧ ∀ j, j < n → cur[j]? = some (.int .u8 (f j).toNat)
theorem BRow.cell {W : World} {D n j : Nat} {f : Nat → UInt8} (h : BRow W D n f) (hj : j < n) : W.cell? ⟨D, j, none⟩ = some (.int .u8 (f j).toNat) := by
  obtain ⟨cur, m, hb, _, _, hc⟩ := h
  simp [World.cell?, hb, hc j hj]
theorem BRow.frozen {W : World} {D n j : Nat} {f : Nat → UInt8} (h : BRow W D n f) (hj : j < n) : W.frozen? ⟨D, j, none⟩ = false := by
  obtain ⟨cur, m, hb, hm, _, _⟩ := h
  have : ¬ m ≤ j := by omega
  simp [World.frozen?, hb, this]
theorem BRow.set {W : World} {D n : Nat} {f : Nat → UInt8} (h : BRow W D n f) (i : Nat) (c : UInt8) : BRow (W.setCell ⟨D, i, none⟩ (.int .u8 c.toNat)) D n (fun j => if j = i then c else f j) := by
  obtain ⟨cur, m, hb, hm, hn, hc⟩ := h
  refine ⟨cur.setIfInBounds i (.int .u8 c.toNat), m, ?_, hm, by simpa using hn, fun j hj => ?_⟩
  · simp [World.setCell, Array.getElem?_modify, hb]
  · rw [Array.getElem?_setIfInBounds]
    by_cases e : j = i
    · subst e
      simp
      omega
    · rw [if_neg (fun h => e h.symm), hc j hj]
      simp [e]
theorem BRow.congr {W : World} {D n : Nat} {f g : Nat → UInt8} (h : BRow W D n f) (e : ∀ j, j < n → f j = g j) : BRow W D n g := by
  obtain ⟨cur, m, hb, hm, hn, hc⟩ := h
  exact ⟨cur, m, hb, hm, hn, fun j hj => by rw [hc j hj, e j hj]⟩
theorem BRow.of_block {W W' : World} {D n : Nat} {f : Nat → UInt8} (h : BRow W D n f) (e : W'.heap[D]? = W.heap[D]?) : BRow W' D n f := by
  obtain ⟨cur, m, hb, hr⟩ := h
  exact ⟨cur, m, e.trans hb, hr⟩
/-- the byte at a place -/
def byL (l : List UInt8) (j : Nat) : UInt8 := l.getD j 0
/-- the bytes when i of them have been swapped with the last ones -/
def swp (l : List UInt8) (n i j : Nat) : UInt8 := if j < i ∨ n - 1 - i < j then byL l (n - 1 - j) else byL l j
theorem swp_step {l : List UInt8} {n i jj : Nat} (hj : i + jj = n - 1) (hij : i < jj) (k : Nat) (hk : k < n) :
    (if k = jj then byL l i else if k = i then byL l jj else swp l n i k) = swp l n (i + 1) k := by
  unfold swp
  by_cases h1 : k = jj
  · subst h1
    rw [if_pos rfl, if_pos (by omega)]
    congr 1; omega
  · rw [if_neg h1]
    by_cases h2 : k = i
    · subst h2
      rw [if_pos rfl, if_pos (by omega)]
      congr 1; omega
    · rw [if_neg h2]
      by_cases h3 : k < i ∨ n - 1 - i < k
      · rw [if_pos h3, if_pos (by omega)]
      · rw [if_neg h3, if_neg (by omega)]
theorem swp_end {l : List UInt8} {n i k : Nat} (hi : i + i ≤ n) (h : ¬ i + i + 1 < n) (hk : k < n) : swp l n i k = byL l (n - 1 - k) := by
  unfold swp
  by_cases h3 : k < i ∨ n - 1 - i < k
  · rw [if_pos h3]
  · rw [if_neg h3]; congr 1; omega
set_option maxHeartbeats 4000000 in
theorem reverse_any (l : List UInt8) (n D cap : Nat) (hn : n ≤ 1048576) (w : World) (B : Nat) (hBD : B ≤ D) (hr : BRow w D n (byL l)) :
    Calls Try.prog 52 #[.slice (some ⟨D, 0, none⟩) n cap] w fun e w' => (∃ v, e = .returned v) ∧ BRow w' D n (fun j => byL l (n - 1 - j)) ∧ Below B w w' := by
  have HR := Lib.hid hr
  clear hr
  go_enter Try.func52, Try.ntmps52
  go_wp2_with fail
  go_loopw [2, 3] (fun v2 v3 wr => ∃ i : Nat, i + i ≤ n ∧ v2 = .int .i64 i ∧ v3 = .int .i64 ((n : Int) - 1 - i) ∧ BRow wr D n (swp l n i) ∧ Below B w wr) (fun v2 _ _ => n - (intOf v2).toNat)
  case atStart => exact ⟨0, Nat.zero_le _, rfl, by go_num, HR.out.congr fun j hj => by unfold swp; rw [if_neg (by omega)], Below.refl _ _⟩
  case round =>
    obtain ⟨i, hi, rfl, rfl, hrow, hB⟩ := hrel
    obtain ⟨wk, rfl⟩ : ∃ x, x = wr := ⟨_, rfl⟩
    by_cases hlt : i + i + 1 < n
    · obtain ⟨jj, hjj⟩ : ∃ jj : Nat, i + jj = n - 1 := ⟨n - 1 - i, by omega⟩
      have hjI : (n : Int) - 1 - i = jj := by omega
      rw [hjI]
      have hij : i < jj := by omega
      have hjn : jj < n := by omega
      have hin : i < n := by omega
      have hci := hrow.cell hin
      have hcj := hrow.cell hjn
      have hsi : swp l n i i = byL l i := by unfold swp; rw [if_neg (by omega)]
      have hsj : swp l n i jj = byL l jj := by unfold swp; rw [if_neg (by omega)]
      rw [hsi] at hci
      rw [hsj] at hcj
      obtain ⟨bi, hbi⟩ : ∃ b, byL l i = b := ⟨_, rfl⟩
      obtain ⟨bj, hbj⟩ : ∃ b, byL l jj = b := ⟨_, rfl⟩
      rw [hbi] at hci
      rw [hbj] at hcj
      have hfi := hrow.frozen hin
      have hfj := hrow.frozen hjn
      have HROW := Lib.hid (((hrow.set i bj).set jj bi).congr (g := swp l n (i + 1)) fun k hk => by
        rw [← hbi, ← hbj]
        exact swp_step hjj hij k hk)
      have HB := Lib.hid ((hB.setCell (p := ⟨D, i, none⟩) hBD (.int .u8 bj.toNat)).setCell (p := ⟨D, jj, none⟩) hBD (.int .u8 bi.toNat))
      have HS0 := Lib.hid (show wk.drew.cell? ⟨D, jj, none⟩ = some (.int .u8 bj.toNat) ∧ wk.drew.cell? ⟨D, i, none⟩ = some (.int .u8 bi.toNat) from ⟨hcj, hci⟩)
      have hi0 : (0 : Int) ≤ i := by omega
      have hi1 : (i : Int) < n := by omega
      have hj0 : (0 : Int) ≤ jj := by omega
      have hj1 : (jj : Int) < n := by omega
      have hijI : (i : Int) < jj := by omega
      have hneq : jj ≠ i := by omega
      clear hrow hB hsi hsj hbi hbj
      go_wp2_with fail
      refine wp_region_noPanic ?_
      refine wp_region_any (by kernel_rfl) (wpAny_of_k (S := fun w' => w'.cell? ⟨D, jj, none⟩ = some (.int .u8 bj.toNat) ∧ w'.cell? ⟨D, i, none⟩ = some (.int .u8 bi.toNat)) (S' := fun _ => True) (k := 13) _ _ _ _ ?_)
      change wpAnyK _ _ _ _ _ _ _ 16 _ _ wk.drew
      refine wpAnyK_takeD (i := 0) (v := .slice (some ⟨D, 0, none⟩) n cap) (some 14) rfl rfl (by kernel_rfl) (by kernel_rfl) (by kernel_rfl) (by decide) (fun _ _ _ h => h) (Or.inl ⟨by rfl, fun w' hw' => ?_⟩) (fun _ => HS0.out) trivial ?_
      · go_simp
      (try simp only [Act.put, List.setIfInBounds_toArray, List.set_cons_zero, List.set_cons_succ])
      refine wpAnyK_takeD (i := 1) (v := .int .i64 i) (some 15) rfl rfl (by kernel_rfl) (by kernel_rfl) (by kernel_rfl) (by decide) (fun _ _ _ h => h) (Or.inl ⟨by rfl, fun w' hw' => ?_⟩) (fun _ => HS0.out) trivial ?_
      · go_simp
      (try simp only [Act.put, List.setIfInBounds_toArray, List.set_cons_zero, List.set_cons_succ])
      refine wpAnyK_takeD (i := 2) (v := .slice (some ⟨D, 0, none⟩) n cap) (some 16) rfl rfl (by kernel_rfl) (by kernel_rfl) (by kernel_rfl) (by decide) (fun _ _ _ h => h) (Or.inl ⟨by rfl, fun w' hw' => ?_⟩) (fun _ => HS0.out) trivial ?_
      · go_simp
      (try simp only [Act.put, List.setIfInBounds_toArray, List.set_cons_zero, List.set_cons_succ])
      refine wpAnyK_takeD (i := 3) (v := .int .i64 jj) (some 17) rfl rfl (by kernel_rfl) (by kernel_rfl) (by kernel_rfl) (by decide) (fun _ _ _ h => h) (Or.inl ⟨by rfl, fun w' hw' => ?_⟩) (fun _ => HS0.out) trivial ?_
      · go_simp
      (try simp only [Act.put, List.setIfInBounds_toArray, List.set_cons_zero, List.set_cons_succ])
      refine wpAnyK_takeD (i := 4) (v := .slice (some ⟨D, 0, none⟩) n cap) (some 18) rfl rfl (by kernel_rfl) (by kernel_rfl) (by kernel_rfl) (by decide) (fun _ _ _ h => h) (Or.inl ⟨by rfl, fun w' hw' => ?_⟩) (fun _ => HS0.out) trivial ?_
      · go_simp
      (try simp only [Act.put, List.setIfInBounds_toArray, List.set_cons_zero, List.set_cons_succ])
      refine wpAnyK_takeD (i := 5) (v := .int .i64 jj) (some 19) rfl rfl (by kernel_rfl) (by kernel_rfl) (by kernel_rfl) (by decide) (fun _ _ _ h => h) (Or.inl ⟨by rfl, fun w' hw' => ?_⟩) (fun _ => HS0.out) trivial ?_
      · go_simp
      (try simp only [Act.put, List.setIfInBounds_toArray, List.set_cons_zero, List.set_cons_succ])
      refine wpAnyK_takeD (i := 6) (v := .pointer (some ⟨D, jj, none⟩)) (some 20) rfl rfl (by kernel_rfl) (by kernel_rfl) (by kernel_rfl) (by decide) (fun _ _ _ h => h) (Or.inl ⟨by rfl, fun w' hw' => ?_⟩) (fun _ => HS0.out) trivial ?_
      · go_simp
      (try simp only [Act.put, List.setIfInBounds_toArray, List.set_cons_zero, List.set_cons_succ])
      refine wpAnyK_takeL (i := 7) (v := .int .u8 bj.toNat) (some 21) rfl rfl rfl (by kernel_rfl) (by kernel_rfl) (by kernel_rfl) (by kernel_rfl) (by kernel_rfl) (by decide) (fun _ _ _ h => h) (Or.inl ⟨by rfl, fun w' hw' => ?_⟩) HS0.out trivial ?_
      · obtain ⟨hw1, hw2⟩ := hw'
        go_simp
      (try simp only [Act.put, List.setIfInBounds_toArray, List.set_cons_zero, List.set_cons_succ])
      refine wpAnyK_takeD (i := 8) (v := .slice (some ⟨D, 0, none⟩) n cap) (some 22) rfl rfl (by kernel_rfl) (by kernel_rfl) (by kernel_rfl) (by decide) (fun _ _ _ h => h) (Or.inl ⟨by rfl, fun w' hw' => ?_⟩) (fun _ => HS0.out) trivial ?_
      · go_simp
      (try simp only [Act.put, List.setIfInBounds_toArray, List.set_cons_zero, List.set_cons_succ])
      refine wpAnyK_takeD (i := 9) (v := .int .i64 i) (some 23) rfl rfl (by kernel_rfl) (by kernel_rfl) (by kernel_rfl) (by decide) (fun _ _ _ h => h) (Or.inl ⟨by rfl, fun w' hw' => ?_⟩) (fun _ => HS0.out) trivial ?_
      · go_simp
      (try simp only [Act.put, List.setIfInBounds_toArray, List.set_cons_zero, List.set_cons_succ])
      refine wpAnyK_takeD (i := 10) (v := .pointer (some ⟨D, i, none⟩)) (some 24) rfl rfl (by kernel_rfl) (by kernel_rfl) (by kernel_rfl) (by decide) (fun _ _ _ h => h) (Or.inl ⟨by rfl, fun w' hw' => ?_⟩) (fun _ => HS0.out) trivial ?_
      · go_simp
      (try simp only [Act.put, List.setIfInBounds_toArray, List.set_cons_zero, List.set_cons_succ])
      refine wpAnyK_takeL (i := 11) (v := .int .u8 bi.toNat) (some 25) rfl rfl rfl (by kernel_rfl) (by kernel_rfl) (by kernel_rfl) (by kernel_rfl) (by kernel_rfl) (by decide) (fun _ _ _ h => h) (Or.inl ⟨by rfl, fun w' hw' => ?_⟩) HS0.out trivial ?_
      · obtain ⟨hw1, hw2⟩ := hw'
        go_simp
      (try simp only [Act.put, List.setIfInBounds_toArray, List.set_cons_zero, List.set_cons_succ])
      refine wpAnyK_takeD (i := 12) (v := .pointer (some ⟨D, i, none⟩)) (some 26) rfl rfl (by kernel_rfl) (by kernel_rfl) (by kernel_rfl) (by decide) (fun _ _ _ h => h) (Or.inl ⟨by rfl, fun w' hw' => ?_⟩) (fun _ => HS0.out) trivial ?_
      · go_simp
      (try simp only [Act.put, List.setIfInBounds_toArray, List.set_cons_zero, List.set_cons_succ])
      refine wpAnyK_all (rs := [13]) (by kernel_rfl) (by simp) ?_
      intro i' hi'
      obtain rfl := List.mem_singleton.1 hi'
      clear hi'
      refine wpOp_step rfl fun K hK => ?_
      go_simp
      refine hK _ _ ⟨fun h => (nomatch (h.symm.trans (show _ = true by kernel_rfl))), trivial, ?_⟩
      clear hK K
      (try simp only [Act.put, List.setIfInBounds_toArray, List.set_cons_zero, List.set_cons_succ])
      refine wpAnyK_takeD (i := 14) (v := .pointer (some ⟨D, jj, none⟩)) (some 27) rfl rfl (by kernel_rfl) (by kernel_rfl) (by kernel_rfl) (by decide) (fun _ _ _ h => h) (Or.inl ⟨by rfl, fun w' hw' => ?_⟩) (fun h => (nomatch (h.symm.trans (show _ = true by kernel_rfl)))) trivial ?_
      · go_simp
      (try simp only [Act.put, List.setIfInBounds_toArray, List.set_cons_zero, List.set_cons_succ])
      refine wpAnyK_all (rs := [15]) (by kernel_rfl) (by simp) ?_
      intro i' hi'
      obtain rfl := List.mem_singleton.1 hi'
      clear hi'
      refine wpOp_step rfl fun K hK => ?_
      go_simp
      refine hK _ _ ⟨fun h => (nomatch (h.symm.trans (show _ = true by kernel_rfl))), trivial, ?_⟩
      clear hK K
      refine wpAnyK_done (by kernel_rfl) ?_ _
      refine NoPanic.normal ?_
      go_wp2
      refine ⟨⟨i + 1, by omega, by go_num, ?_, HROW.out.of_block rfl, ⟨HB.out.os, HB.out.tape, HB.out.output, HB.out.size, HB.out.block⟩⟩, ?_⟩
      · show Value.int .i64 _ = Value.int .i64 _
        congr 1
        omega
      · simp [intOf]; omega
    · have hq : decide ((i : Int) < (n : Int) - 1 - i) = false := decide_eq_false (by omega)
      have HROW := Lib.hid (hrow.congr fun k hk => swp_end hi hlt hk)
      have HB := Lib.hid hB
      clear hrow hB
      go_wp2_with fail
      exact ⟨rfl, .tuple #[], by simp [results, Try.f52, go_sem], ⟨_, rfl⟩, HROW.out, HB.out⟩
theorem conv_row (W : World) (s : ByteArray) : BRow (convW W s) W.heap.size s.size (byL s.data.toList) := by
  refine ⟨bytesRow s (grownCap W s.size 0 5), (bytesRow s (grownCap W s.size 0 5)).size, ?_, ?_, ?_, fun j hj => ?_⟩
  · rw [convW]
    simp [World.alloc, World.drew, -World.alloc_eq, -World.drew_eq]
  · simp [bytesRow]
  · simp [bytesRow]
  · have hj' : j < s.data.size := hj
    rw [bytesRow_at s _ j hj']
    have : byL s.data.toList j = s.data[j] := by
      unfold byL
      rw [List.getD_eq_getElem?_getD, List.getElem?_eq_getElem (by rw [size_list]; exact hj)]
      simp
    rw [this]
set_option maxHeartbeats 1000000 in
theorem turned_at (s t : ByteArray) (ht : t.data.toList = s.data.toList.reverse) (hs : s.size ≤ 1048576) (w : World) :
    Calls Try.prog 32 #[.string s] w fun e w' => e = .returned (.string t) ∧ Below w.heap.size w w' := by
  have hrun := conv_run
  have HC := Lib.hid (reverse_any s.data.toList s.size w.heap.size (grownCap w s.size 0 5) hs (convW w s) w.heap.size (Nat.le_refl _) (conv_row w s))
  have HB := Lib.hid (conv_below w s)
  have HT := Lib.hid ht
  clear ht
  go_enter Try.func32, Try.ntmps32
  go_wp2_with fail
  clear hrun
  refine HC.out.mono ?_
  rintro e w2 ⟨⟨v, rfl⟩, hrow, hb⟩
  have HB2 := Lib.hid (below_seq HB.out hb (Nat.le_refl _))
  have hlen : t.data.toList.length = s.size := by rw [HT.out, List.length_reverse, size_list]
  have hcv := run_convert_bytes_back (P := Try.prog) w2 49 9 5 ⟨w.heap.size, 0, none⟩ (grownCap w s.size 0 5) t.data.toList Try.underlying49 Try.underlying5 Try.underlying9 (fun j hj => by
    have hj2 : j < s.size := by rw [← hlen]; exact hj
    have h1 := hrow.cell hj2
    have h2 : byL s.data.toList (s.size - 1 - j) = t.data.toList[j] := by
      unfold byL
      simp only [HT.out]
      rw [List.getElem_reverse, List.getD_eq_getElem?_getD, List.getElem?_eq_getElem (by rw [size_list]; omega)]
      simp only [Option.getD_some]
      congr 1
    rw [← h2]
    rw [show (⟨w.heap.size, 0, none⟩ : Addr).add j = ⟨w.heap.size, j, none⟩ by unfold Addr.add; split <;> simp_all]
    exact h1)
  rw [hlen, show (⟨t.data.toList.toArray⟩ : ByteArray) = t from ba_of (by simp)] at hcv
  clear hrow hb hlen
  go_wp2_with fail
  go_ret
  exact ⟨rfl, HB2.out⟩
end Go.Proofs.Ytjjdihkjkmhjnaa
