/- Stage 10 (transcript): MkPL, put together by merge10.py. -/
import Derived.Test.YtmfcepfagbkceaaGreatDoorShelf
import Derived.Test.YtmfcepfagbkceaaGreatDoorOd1
import Derived.Test.YtmfcepfagbkceaaGreatDoorOc1
import Derived.Laws.Runes
import Derived.Laws.RangeAny
import Derived.Lib.SmallJoins
import Derived.Deep.LoopGhost
import Derived.OwnWalk
import Derived.IntWalk
import Derived.Deep.QuietTactic
import Derived.BigQuiet
namespace Go.Proofs.YtmfcepfagbkceaaGreatDoor
set_option linter.unusedSimpArgs false
set_option linter.unusedVariables false
set_option maxRecDepth 100000
open Go.RowKit Go.Deep
theorem ret_intM {k : IntKind} {a b : Int} (h : a = b) : Ending.returned (.int k a) = .returned (.int k b) := by rw [h]
theorem baL_data (l : Bs) : (baL l).data.toList = l := rfl
theorem baL_cut (l : Bs) (a b : Nat) : (baL l).extract a b = baL ((l.drop a).take (b - a)) := by
  have h : ∀ s t : ByteArray, s.data.toList = t.data.toList → s = t := fun s t e => by rw [← baL_list s, ← baL_list t, e]
  refine h _ _ ?_
  rw [ByteArray.data_extract]
  simp [baL]
theorem prefix_any (s p : Bs) (r : Bool) (h : p.isPrefixOf s = r) (w : World) :
    Calls Tryz.prog 110 #[sV s, sV p] w fun e w' => e = .returned (.bool r) ∧ w' = w := by
  rw [← h]
  exact Tryz.strings_HasPrefix (baL s) (baL p) w
theorem suffix_any (s p : Bs) (r : Bool) (h : p.isSuffixOf s = r) (hs : s.length ≤ maxLen) (w : World) :
    Calls Tryz.prog 131 #[sV s, sV p] w fun e w' => e = .returned (.bool r) ∧ w' = w := by
  rw [← h]
  exact Tryz.strings_HasSuffix (baL s) (baL p) w (by rw [baL_size]; unfold maxLen at hs; omega)
theorem trim_any (s p t : Bs) (h : Lib.trimPrefix s p = t) (w : World) :
    Calls Tryz.prog 135 #[sV s, sV p] w fun e w' => e = .returned (sV t) ∧ w' = w := by
  rw [← h]
  exact Tryz.strings_TrimPrefix (baL s) (baL p) w
theorem index_one (s : Bs) (c : UInt8) (i : Int) (h : Lib.indexByte s c = i) (w : World) :
    Calls Tryz.prog 112 #[sV s, sV [c]] w fun e w' => e = .returned (intV i) ∧ w' = w := by
  rw [← h]
  exact Tryz.strings_Index_one (baL s) c w
theorem indexL_any (s : Bs) (c : UInt8) (i : Int) (h : Lib.indexByte s c = i) (w : World) :
    Calls Tryz.prog 130 #[sV s, sV [c]] w fun e w' => e = .returned (intV i) ∧ w' = w := by
  rw [← h]
  exact Tryz.stringslite_Index_one (baL s) c w
theorem cutL_any (s : Bs) (c : UInt8) (hs : s.length ≤ maxLen) (t : Bs) (ht : s.takeWhile (fun x => decide (x ≠ c)) = t) (w : World) :
    Calls Tryz.prog 129 #[sV s, sV [c]] w fun e w' => (∃ (r : ByteArray) (f : Bool), e = .returned (.tuple #[sV t, .string r, .bool f])) ∧ Below w.heap.size w w' := by
  have hsz : (baL s).size = s.length := baL_size s
  have h1z : (baL [c]).size = 1 := rfl
  unfold maxLen at hs
  have hi := idx_tw c s
  by_cases hd : s.dropWhile (fun x => decide (x ≠ c)) = []
  · rw [if_pos hd] at hi
    have HI := Lib.hid (fun W => indexL_any s c (-1) hi W)
    have hts : t = s := by
      have := List.takeWhile_append_dropWhile (p := fun x => decide (x ≠ c)) (l := s)
      rw [hd, List.append_nil, ht] at this
      exact this
    clear hi hd ht
    subst hts
    go_enter Tryz.func129, Tryz.ntmps129
    go_wp2_with fail
    refine (HI.out w).mono ?_
    rintro e w' ⟨rfl, rfl⟩
    go_wp2
    go_ret3
    exact ⟨⟨_, _, rfl⟩, Below.refl _ _⟩
  · rw [if_neg hd, ht] at hi
    have HI := Lib.hid (fun W => indexL_any s c _ hi W)
    have hlt : t.length < s.length := by
      have := List.takeWhile_append_dropWhile (p := fun x => decide (x ≠ c)) (l := s)
      have h2 := congrArg List.length this
      rw [List.length_append, ht] at h2
      have h3 := List.length_pos_iff.2 hd
      omega
    have hcut : (baL s).extract 0 t.length = baL t := by
      rw [baL_cut, List.drop_zero, Nat.sub_zero]
      congr 1
      rw [← ht]
      exact (List.prefix_iff_eq_take.1 (List.takeWhile_prefix _)).symm
    have HC := Lib.hid hcut
    obtain ⟨n, hn⟩ : ∃ n, t.length = n := ⟨_, rfl⟩
    rw [hn] at hlt HI HC
    clear hi hd ht hn hcut
    have g1 : (0 : Int) ≤ (n : Int) := by omega
    have g2 : (n : Int) ≤ (s.length : Int) := by omega
    have hwk : IntKind.i64.wrap ((n : Int) + 1) = ((n + 1 : Nat) : Int) := by rw [show (n : Int) + 1 = ((n + 1 : Nat) : Int) by omega]; exact IntWalk.i64_in _ (by omega)
    obtain ⟨m, hm⟩ : ∃ m, n + 1 = m := ⟨_, rfl⟩
    rw [hm] at hwk
    have g3 : (m : Int) ≤ (s.length : Int) := by omega
    have g4 : (0 : Int) ≤ (m : Int) := by omega
    clear hm
    go_enter Tryz.func129, Tryz.ntmps129
    go_wp2_with fail
    refine (HI.out w).mono ?_
    rintro e w' ⟨rfl, rfl⟩
    go_wp2
    go_quiet (fail)
    go_wp2
    go_ret3
    have e : sV t = .string ((baL s).extract 0 n) := by rw [HC.out]
    rw [e]
    exact ⟨⟨_, _, rfl⟩, below_drewN _ _⟩
theorem cut_any (s : Bs) (c : UInt8) (hs : s.length ≤ maxLen) (t : Bs) (ht : s.takeWhile (fun x => decide (x ≠ c)) = t) (w : World) :
    Calls Tryz.prog 111 #[sV s, sV [c]] w fun e w' => (∃ (r : ByteArray) (f : Bool), e = .returned (.tuple #[sV t, .string r, .bool f])) ∧ Below w.heap.size w w' := by
  have HC := Lib.hid (fun W => cutL_any s c hs t ht W)
  clear ht hs
  go_enter Tryz.func111, Tryz.ntmps111
  go_wp2_with fail
  refine (HC.out w).mono ?_
  rintro e w' ⟨⟨r, f, rfl⟩, hB⟩
  go_wp2
  go_ret3
  exact ⟨⟨_, _, rfl⟩, hB⟩
theorem skip_high (s : ByteArray) (pos : Nat) (h : pos < s.size) (ha : 128 ≤ (s[pos]'h).toNat) : ∀ j, j < (Utf8.decode s pos).2 → ∃ h2 : pos + j < s.size, 128 ≤ (s[pos + j]'h2).toNat := by
  have hn : ¬ (s[pos]'h).toNat < 128 := by omega
  have hg : ∀ k (h2 : pos + k < s.size), s.get! (pos + k) = s[pos + k]'h2 := fun k h2 => by
    have := get_at s (pos + k) h2
    simpa using this
  have hc : ∀ k, (pos + k < s.size ∧ (s.get! (pos + k)).toNat / 64 = 2) → ∃ h2 : pos + k < s.size, 128 ≤ (s[pos + k]'h2).toNat := fun k ⟨h2, h3⟩ => by
    rw [hg k h2] at h3
    exact ⟨h2, by omega⟩
  have h0 : ∃ h2 : pos + 0 < s.size, 128 ≤ (s[pos + 0]'h2).toNat := ⟨by omega, ha⟩
  intro j
  simp only [Utf8.decode, get_at s pos h, hn, if_false]
  intro hj
  split at hj
  · rename_i q
    simp only [Bool.and_eq_true, decide_eq_true_eq, beq_iff_eq] at q
    split at hj
    · have : j = 0 ∨ j = 1 := by simp only at hj; omega
      rcases this with rfl | rfl
      · exact h0
      · exact hc 1 q.2
    · have : j = 0 := by simp only at hj; omega
      subst this; exact h0
  · split at hj
    · rename_i q
      simp only [Bool.and_eq_true, decide_eq_true_eq, beq_iff_eq] at q
      split at hj
      · have : j = 0 ∨ j = 1 ∨ j = 2 := by simp only at hj; omega
        rcases this with rfl | rfl | rfl
        · exact h0
        · exact hc 1 q.1.2
        · exact hc 2 q.2
      · have : j = 0 := by simp only at hj; omega
        subst this; exact h0
    · split at hj
      · rename_i q
        simp only [Bool.and_eq_true, decide_eq_true_eq, beq_iff_eq] at q
        split at hj
        · have : j = 0 ∨ j = 1 ∨ j = 2 ∨ j = 3 := by simp only at hj; omega
          rcases this with rfl | rfl | rfl | rfl
          · exact h0
          · exact hc 1 q.1.1.2
          · exact hc 2 q.1.2
          · exact hc 3 q.2
        · have : j = 0 := by simp only at hj; omega
          subst this; exact h0
      · have : j = 0 := by simp only at hj; omega
        subst this; exact h0
theorem quiet_idM {P : Program} {f : FuncId} {args : Array Value} {w : World} {n : Nat} {v : Value}
    (h : Calls P f args (w.drewN n) fun e w' => e = .returned v ∧ w' = w.drewN n) : Calls P f args (w.drewN n) fun e w'' => e = .returned v ∧ ∃ m, w'' = w.drewN m :=
  h.mono fun _ _ ⟨he, hm⟩ => ⟨he, n, hm⟩
theorem idx_empty (b : UInt8) (w : World) : Calls Tryz.prog 176 #[.string ByteArray.empty, .int .u8 b.toNat] w fun e w' => e = .returned (.int .i64 (-1)) ∧ w' = w := by
  exact Tryz.strings_IndexByte ByteArray.empty b.toNat w
set_option maxRecDepth 1000000 in
set_option maxHeartbeats 2000000 in
theorem rune_valid (q : ByteArray) (hq : q.size = 2) (h47 : ∀ h : 1 < q.size, q[1]'h = 47) (hx : q.extract 2 2 = ⟨#[]⟩) (c : Nat) (h0 : 128 ≤ c) (h1 : c ≤ 2147483647) (he : ¬ c = 65533) (w : World) :
    Calls Tryz.prog 157 #[.string q, .int .i32 c] w fun e w' => e = .returned (.int .i64 (-1)) ∧ Below w.heap.size w w' := by
  have g1 : decide ((c : Int) < 128) = false := decide_eq_false (by omega)
  have g1b : ¬ (c : Int) < 128 := by omega
  have g0 : decide ((0 : Int) ≤ (c : Int)) = true := decide_eq_true (by omega)
  have g0b : (0 : Int) ≤ (c : Int) := by omega
  have g2 : ((c : Int) == 65533) = false := by rw [beq_eq_false_iff_ne]; omega
  have hq1 : 1 < q.size := by omega
  have h47 := h47 hq1
  have hw2 : IntKind.i64.wrap 2 = 2 := by decide
  cases hv : Lib.validRune (c : Int)
  · have HV := Lib.hid hv
    clear hv
    go_enter Tryz.func157, Tryz.ntmps157
    go_wp2_with fail
    refine (Tryz.utf8_ValidRune _ _).mono ?_
    rw [HV.out]
    rintro e w' ⟨rfl, rfl⟩
    go_wp2
    go_ret
    exact ⟨rfl, Below.refl _ _⟩
  · have HV := Lib.hid hv
    clear hv
    go_enter Tryz.func157, Tryz.ntmps157
    go_wp2_with fail
    refine (Tryz.utf8_ValidRune _ _).mono ?_
    rw [HV.out]
    rintro e w' ⟨rfl, rfl⟩
    obtain ⟨q1, q2, q3⟩ := encode_facts (c : Int) (by rw [validRune_eq]; exact HV.out) (by omega)
    obtain ⟨z, hz⟩ : ∃ z, Utf8.encode (c : Int) = z := ⟨_, rfl⟩
    rw [hz] at q1 q2 q3
    replace q3 := q3 (by omega)
    by_cases hz2 : z.size = 2
    · have hz1 : 1 < z.size := by omega
      obtain ⟨b, hb⟩ : ∃ b, z[1]'hz1 = b := ⟨_, rfl⟩
      have q4 : 128 ≤ b.toNat := by
        have e : ∀ k (hk : k < z.size), k = 1 → z[k]'hk = z[1]'hz1 := fun k hk h => by subst h; rfl
        rw [e _ _ (by omega), hb] at q3; exact q3
      have q5 : ((47 : Int) != (b.toNat : Int)) = true := by rw [bne_iff_ne]; omega
      have HIB := Lib.hid (fun W => idx_empty b W)
      clear q3 q1 q2
      go_wp2
      go_step3
      go_wp2
      go_loopw [9] (fun i wr => i = .int .i64 1 ∧ wr = w') (fun _ _ => 0)
      case atStart => exact ⟨rfl, rfl⟩
      case round =>
        obtain ⟨rfl, rfl⟩ := hrel
        go_wp2
        go_step3
        go_wp2
        go_quiet (fail)
        have hB1 := below_drewN wr nq
        obtain ⟨wz, hwz⟩ : ∃ x, wr.drewN nq = x := ⟨_, rfl⟩
        rw [hwz] at hB1 ⊢
        have HB1 := Lib.hid hB1
        clear hwz hB1
        go_wp2
        go_quiet (first | (go_at_call 176; exact quiet_idM (HIB.out _)))
        go_wp2
        rw [Exit.noGoto_ret]
        iterate 5
          try (show Exit.noGoto _ Exit.ret _ _)
          try rw [Exit.noGoto_ret]
        go_ret
        exact ⟨rfl, below_then HB1.out (below_drewN _ _)⟩
    · have q6 : decide ((z.size : Int) - 1 < 2) = false := decide_eq_false (by omega)
      go_wp2
      go_step3
      go_wp2
      go_loopw [9] (fun i wr => i = .int .i64 ((z.size : Int) - 1) ∧ wr = w') (fun _ _ => 0)
      case atStart => exact ⟨rfl, rfl⟩
      case round =>
        obtain ⟨rfl, rfl⟩ := hrel
        go_wp2
        rw [Exit.noGoto_ret]
        go_ret
        exact ⟨rfl, Below.refl _ _⟩
set_option maxRecDepth 1000000 in
set_option maxHeartbeats 2000000 in
theorem rune_none (c : Nat) (h0 : 128 ≤ c) (h1 : c ≤ 2147483647) (w : World) :
    Calls Tryz.prog 157 #[.string ⟨#[32, 47]⟩, .int .i32 c] w fun e w' => e = .returned (.int .i64 (-1)) ∧ Below w.heap.size w w' := by
  have g1 : decide ((c : Int) < 128) = false := decide_eq_false (by omega)
  have g1b : ¬ (c : Int) < 128 := by omega
  have g0 : decide ((0 : Int) ≤ (c : Int)) = true := decide_eq_true (by omega)
  have g0b : (0 : Int) ≤ (c : Int) := by omega
  by_cases he : c = 65533
  · subst he
    go_enter Tryz.func157, Tryz.ntmps157
    go_wp2
    go_loopg [5, 6] 2 (fun g _ _ wx => ∃ i : Nat, i + g = 2 ∧ wx = w.iter ⟨#[32, 47]⟩ i)
    case atStart => exact ⟨0, rfl, rfl⟩
    case round =>
      obtain ⟨i, hig, rfl⟩ := hrel
      cases gk with
      | zero =>
        obtain rfl : i = 2 := by omega
        have hnx := fun ty => run_next_end (P := Tryz.prog) w ⟨#[32, 47]⟩ 2 ty (by decide)
        go_wp2
        go_ret
        exact ⟨rfl, below_alloc _ _⟩
      | succ g =>
        have h01 : i = 0 ∨ i = 1 := by omega
        rcases h01 with rfl | rfl
        · have hnx : ∀ ty, (Instr.next (.pointer (some ⟨w.heap.size, 0, none⟩)) true ty).run Tryz.prog (w.iter ⟨#[32, 47]⟩ 0) = .ok (.tuple #[.bool true, .int .i64 0, .int .i32 32]) (w.iter ⟨#[32, 47]⟩ 1) := fun ty => run_next_ascii (P := Tryz.prog) w ⟨#[32, 47]⟩ 0 ty (by decide) (by decide)
          go_wp2
          go_roundg g
          case measure => omega
          case rel => exact ⟨1, by omega, rfl⟩
        · have hnx : ∀ ty, (Instr.next (.pointer (some ⟨w.heap.size, 0, none⟩)) true ty).run Tryz.prog (w.iter ⟨#[32, 47]⟩ 1) = .ok (.tuple #[.bool true, .int .i64 1, .int .i32 47]) (w.iter ⟨#[32, 47]⟩ 2) := fun ty => run_next_ascii (P := Tryz.prog) w ⟨#[32, 47]⟩ 1 ty (by decide) (by decide)
          go_wp2
          go_roundg g
          case measure => omega
          case rel => exact ⟨2, by omega, rfl⟩
  · exact rune_valid ⟨#[32, 47]⟩ rfl (fun h => rfl) (by rfl) c h0 h1 he w
def nextW (w : World) (p : Nat) (s : ByteArray) (pos : Nat) : World := { w with heap := w.heap.setIfInBounds p (.stringIter s pos) }
theorem nextW_at {w : World} {p : Nat} (h : p < w.heap.size) (s : ByteArray) (pos : Nat) : (nextW w p s pos).heap[p]? = some (.stringIter s pos) := by
  simp [nextW, h]
theorem nextW_below (w : World) (N p : Nat) (h : N ≤ p) (s : ByteArray) (pos : Nat) : Below N w (nextW w p s pos) := by
  refine ⟨rfl, rfl, rfl, by simp [nextW], fun k hk => ?_⟩
  show (w.heap.setIfInBounds p _)[k]? = w.heap[k]?
  rw [Array.getElem?_setIfInBounds_ne (by omega)]
theorem run_next_at {P : Program} (w : World) (p : Nat) (s : ByteArray) (pos : Nat) (ty : TypeId) (hp : w.heap[p]? = some (.stringIter s pos)) (h : pos < s.size) :
    (Instr.next (.pointer (some ⟨p, 0, none⟩)) true ty).run P w = .ok (.tuple #[.bool true, .int .i64 pos, .int .i32 (Utf8.decode s pos).1]) (nextW w p s (pos + (Utf8.decode s pos).2)) := by
  simp only [Instr.next, getObj, setObj, Sem.run_bind, Sem.run, hp, Result.andThen, h, if_true]
  simp [goInt, Sem.run, hp, nextW]
theorem run_next_over {P : Program} (w : World) (p : Nat) (s : ByteArray) (pos : Nat) (ty : TypeId) (hp : w.heap[p]? = some (.stringIter s pos)) (h : ¬ pos < s.size) :
    (Instr.next (.pointer (some ⟨p, 0, none⟩)) true ty).run P w = .ok (.tuple #[.bool false]) w := by
  simp [Instr.next, getObj, Sem.run, hp, h]
theorem lt_of_iter {w : World} {p : Nat} {o : Obj} (h : w.heap[p]? = some o) : p < w.heap.size := (Array.getElem?_eq_some_iff.1 h).1
set_option maxRecDepth 1000000 in
set_option maxHeartbeats 2000000 in
theorem anyS_any (s : ByteArray) (h8 : s.size ≤ 8) (r : Int) (hr : Lib.indexAny s.data.toList [32, 47] = r) (w : World) :
    Calls Tryz.prog 133 #[.string s, .string ⟨#[32, 47]⟩] w fun e w' => e = .returned (.int .i64 r) ∧ Below w.heap.size w w' := by
  have HR := Lib.hid hr
  have h8z : decide ((8 : Int) < (s.size : Int)) = false := decide_eq_false (by omega)
  clear hr
  go_enter Tryz.func133, Tryz.ntmps133
  go_wp2_with fail
  refine (Tryz.strings_shouldUseASCIISet _ _).mono ?_
  rintro e w' ⟨rfl, rfl⟩
  go_wp2
  go_loopg [9, 10] s.size (fun g _ _ wx => ∃ i : Nat, s.size ≤ i + g ∧ i ≤ s.size ∧ wx.heap[w'.heap.size]? = some (.stringIter s i) ∧ Below w'.heap.size w' wx ∧ Lib.NoAny s.data.toList [32, 47] i)
  case atStart => exact ⟨0, by omega, Nat.zero_le _, World.iter_heap _ _ _, below_alloc _ _, Lib.NoAny.zero _ _⟩
  case round =>
    obtain ⟨i, hg, hi, hp, hB, hno⟩ := hrel
    have HN := Lib.hid hno
    have HB := Lib.hid hB
    have HP := Lib.hid hp
    clear hno hB
    by_cases hlt : i < s.size
    · obtain ⟨x, hx⟩ : ∃ x : UInt8, s[i]'hlt = x := ⟨_, rfl⟩
      have hxl : s.data.toList[i]? = some x := by rw [← hx]; exact Lib.data_getElem? s i hlt
      obtain ⟨g, rfl⟩ : ∃ g, gk = g + 1 := ⟨gk - 1, by omega⟩
      have hnx := fun ty => run_next_at (P := Tryz.prog) wr w'.heap.size s i ty hp hlt
      by_cases h128 : x.toNat < 128
      · have hd := decode_ascii s i hlt (by rw [hx]; exact h128)
        rw [hx] at hd
        rw [hd] at hnx
        have HX := Lib.hid hxl
        clear hd hx hxl hp
        have hcon := Lib.contains_iff_indexByte [32, 47] x
        have hback : ((x.toNat : Int)).toNat.toUInt8 = x := by simp
        have HI := Lib.hid (fun W => Tryz.strings_IndexRune_ascii ⟨#[32, 47]⟩ (x.toNat : Int) W (by omega) (by omega))
        rw [hback] at HI
        obtain ⟨wn, hwn⟩ : ∃ wn, nextW wr w'.heap.size s (i + 1) = wn := ⟨_, rfl⟩
        have HW := Lib.hid (And.intro (show wn.heap[w'.heap.size]? = some (.stringIter s (i + 1)) by rw [← hwn]; exact nextW_at (lt_of_iter HP.out) s (i + 1)) (show Below w'.heap.size w' wn by rw [← hwn]; exact HB.out.trans (nextW_below wr _ _ (Nat.le_refl _) s (i + 1))))
        simp only [hwn] at hnx
        obtain ⟨v, hv⟩ : ∃ v : Int, Lib.indexByte (⟨#[32, 47]⟩ : ByteArray).data.toList x = v := ⟨_, rfl⟩
        have hv2 : Lib.indexByte [32, 47] x = v := hv
        rw [hv] at HI
        rw [hv2] at hcon
        have HC := Lib.hid hcon
        clear hwn hv hv2 hcon
        cases hin : ([32, 47] : Bs).contains x
        · have hneg : decide ((0 : Int) ≤ v) = false := by rw [← HC.out, hin]
          have HI2 := Lib.hid hin
          clear hin
          go_wp2_with fail
          refine (HI.out wn).mono ?_
          rintro e w3 ⟨rfl, rfl⟩
          go_wp2
          go_roundg g
          case measure => omega
          case rel => exact ⟨i + 1, by omega, by omega, HW.out.1, HW.out.2, HN.out.succ HX.out HI2.out⟩
        · have hpos : decide ((0 : Int) ≤ v) = true := by rw [← HC.out, hin]
          have HI2 := Lib.hid hin
          clear hin
          go_wp2_with fail
          refine (HI.out wn).mono ?_
          rintro e w3 ⟨rfl, rfl⟩
          go_wp2
          go_ret
          exact ⟨ret_intM (by rw [← HR.out, Lib.indexAny_hit HN.out HX.out HI2.out]), HW.out.2⟩
      · obtain ⟨d1, d2⟩ := decode_high s i hlt (by rw [hx]; omega)
        have hsk := skip_high s i hlt (by rw [hx]; omega)
        have hdl := decode_le s i
        obtain ⟨c, k, hd⟩ : ∃ c k, Utf8.decode s i = (c, k) := ⟨_, _, rfl⟩
        rw [hd] at d1 d2 hsk hdl hnx
        simp only at d1 d2 hsk hdl hnx
        have hik : i + k ≤ s.size := by
          obtain ⟨q, _⟩ := hsk (k - 1) (by omega)
          omega
        have hno2 : Lib.NoAny s.data.toList [32, 47] (i + k) := fun j b hj hb => by
          by_cases hji : j < i
          · exact HN.out j b hji hb
          · obtain ⟨d, rfl⟩ : ∃ d, j = i + d := ⟨j - i, by omega⟩
            obtain ⟨q, q2⟩ := hsk d (by omega)
            have e := Lib.data_getElem? s (i + d) q
            rw [hb] at e
            cases e
            simp only [List.contains_cons, List.contains_nil, Bool.or_false, Bool.or_eq_false_iff, beq_eq_false_iff_ne]
            exact ⟨fun e => by rw [e] at q2; simp at q2, fun e => by rw [e] at q2; simp at q2⟩
        have HN2 := Lib.hid hno2
        have HI := Lib.hid (fun W => rune_none c d1 hdl W)
        obtain ⟨wn, hwn⟩ : ∃ wn, nextW wr w'.heap.size s (i + k) = wn := ⟨_, rfl⟩
        have HW := Lib.hid (And.intro (show wn.heap[w'.heap.size]? = some (.stringIter s (i + k)) by rw [← hwn]; exact nextW_at (lt_of_iter HP.out) s (i + k)) (show Below w'.heap.size w' wn by rw [← hwn]; exact HB.out.trans (nextW_below wr _ _ (Nat.le_refl _) s (i + k))))
        simp only [hwn] at hnx
        clear hwn hno2 hsk hd hdl hx hxl hp
        go_wp2_with fail
        refine (HI.out wn).mono ?_
        rintro e w3 ⟨rfl, h3⟩
        have H3 := Lib.hid h3
        clear h3
        go_wp2
        go_roundg g
        case measure => omega
        case rel => exact ⟨i + k, by omega, hik, (H3.out.block _ (lt_of_iter HW.out.1)).trans HW.out.1, below_then HW.out.2 H3.out, HN2.out⟩
    · obtain rfl : i = s.size := by omega
      have hnx := fun ty => run_next_over (P := Tryz.prog) wr w'.heap.size s s.size ty hp hlt
      clear hp
      go_wp2
      go_ret
      exact ⟨ret_intM (by rw [← HR.out, Lib.indexAny_none (by rw [← Lib.size_eq]; exact HN.out)]), HB.out⟩
theorem any_any (s : Bs) (i : Int) (h : Lib.indexAny s [32, 47] = i) (hs : s.length ≤ 100000) (w : World) :
    Calls Tryz.prog 133 #[sV s, sV [32, 47]] w fun e w' => e = .returned (intV i) ∧ Below w.heap.size w w' := by
  by_cases h8 : s.length ≤ 8
  · exact anyS_any (baL s) (by rw [baL_size]; exact h8) i h w
  · have hc : ∀ (j : Nat) b, (baL [32, 47]).data.toList[j]? = some b → b.toNat < 128 := fun j b hb => by
      have hm : b ∈ ([32, 47] : Bs) := List.mem_of_getElem? hb
      simp only [List.mem_cons, List.not_mem_nil, or_false] at hm
      rcases hm with rfl | rfl <;> decide
    refine (Tryz.strings_IndexAny_long Tryz.zeroValue162 (baL s) (baL [32, 47]) w (by decide) (by rw [baL_size]; omega) (by rw [baL_size]; omega) (by decide) hc).mono ?_
    rintro e w' ⟨rfl, rfl⟩
    refine ⟨ret_intM h, (Below.refl _ _).alloc (Nat.le_refl _) _ |>.alloc (by simp) _⟩
end Go.Proofs.YtmfcepfagbkceaaGreatDoor
