/- charset.Fold, charset.Plain and their references: strings that are made byte by byte. -/
import Derived.Lib.BufferRead
import Derived.Laws.IdiomStrings
import Derived.Lib.ConvBytes
import Derived.Test.YtelpgjlcagbcjaaLetters
namespace Go.Proofs.Ytelpgjlcagbcjaa
set_option linter.unusedSimpArgs false
set_option linter.unusedVariables false
open Go.RowKit

abbrev byteV (c : UInt8) : Value := .int .u8 c.toNat
theorem info_u8 : (Try.prog.info? 5).map (fun i => (i.zero, i.size, i.bytes)) = some (some (.int .u8 0), 1, 1) := by kernel_rfl

/-- string(b) of bytes that the call made -/
theorem conv_own {P : Program} {w : World} {base src dst e : TypeId} {v : Value} {n : Nat} {l : List UInt8} (hs : P.underlying src = some (.slice e)) (he : P.underlying e = some (.int .u8)) (hd : P.underlying dst = some .string)
    (h : w.ownsRow base e 1 v n (l.map byteV)) : (convert src dst v).run P w = .ok (.string ⟨l.toArray⟩) w := by
  have hl := h.1
  rw [List.length_map, Nat.mul_one] at hl
  subst hl
  have hc := fun g hg => h.cells (g := g) hg
  rcases h.2 with ⟨rfl, hn⟩ | ⟨g, cap, cur, rfl, _⟩
  · have : l = [] := List.length_eq_zero_iff.1 hn
    subst this
    exact Lib.run_convert_nil_bytes w src dst e 0 hs he hd
  · exact run_convert_bytes_back w src dst e ⟨g, 0, none⟩ cap l hs he hd (fun j hj => hc g rfl j _ (by simp [hj]))

theorem byte_news (W : World) (c : Int) (t : TypeId) (n : Nat) (h : n = W.heap.size) : ∀ j u, [Value.int .u8 c][j]? = some u → (W.alloc (.cells #[.int .u8 c] t)).cell? ((⟨n, 0, none⟩ : Addr).add j) = some u := by
  intro j u hj
  subst h
  match j, hj with
  | 0, hj => simp at hj; subst hj; simp [Addr.add]

theorem own_below {w wr w1 : World} {base : Nat} {e : TypeId} {size n : Nat} {v : Value} {xs : List Value} {o : Obj} (hB : Below base w wr) (hb : base ≤ wr.heap.size) (hown : wr.ownsRow base e size v n xs) (hg : (wr.alloc o).grownBy w1 v.ownBlock) : Below base w w1 :=
  (hB.alloc hb o).grown hg (by simp; omega) (fun k hk => (hown.lt k hk).1)

def plainL (l : List UInt8) : List UInt8 := l.filter fun c => !decide (kd c = 2)
theorem plainL_le (l : List UInt8) : (plainL l).length ≤ l.length := List.length_filter_le _ _
theorem plain_keep (s : ByteArray) (k : Nat) (h : k < s.size) (hk : (kindI s[k].toNat != 2) = true) : plainL (s.data.toList.take (k + 1)) = plainL (s.data.toList.take k) ++ [s[k]] := by
  have h' : ¬ kd s[k] = 2 := by simpa [kd] using hk
  rw [take_snoc s k h, plainL, List.filter_append]; simp [List.filter_cons, h', plainL]
theorem plain_drop (s : ByteArray) (k : Nat) (h : k < s.size) (hk : (kindI s[k].toNat != 2) = false) : plainL (s.data.toList.take (k + 1)) = plainL (s.data.toList.take k) := by
  have h' : kd s[k] = 2 := by simpa [kd] using hk
  rw [take_snoc s k h, plainL, List.filter_append]; simp [List.filter_cons, h', plainL]

set_option maxHeartbeats 1000000 in
theorem refPlain_any (s : ByteArray) (hs : s.size ≤ 140737488351232) (w : World) :
    Calls Try.prog 23 #[.string s] w fun e w' => e = .returned (.string ⟨(plainL s.data.toList).toArray⟩) ∧ Below w.heap.size w w' := by
  obtain ⟨i0, hi, hz0, hz1, hz2⟩ := info_parts info_u8
  go_enter Try.func23, Try.ntmps23
  go_wp2
  go_loopw [3, 4] (fun v i wr => ∃ k : Nat, k ≤ s.size ∧ i = .int .i64 k ∧ wr.ownsRow w.heap.size 5 1 v (plainL (s.data.toList.take k)).length ((plainL (s.data.toList.take k)).map byteV) ∧ Below w.heap.size w wr)
    (fun _ i _ => s.size - (intOf i).toNat)
  case atStart => exact ⟨0, Nat.zero_le _, rfl, World.ownsRow_lit _ #[] 0 (Nat.le_refl _) (by simp [maxLen]) rfl, (Below.refl _ _).alloc (Nat.le_refl _) _⟩
  case round =>
    obtain ⟨k, hk, rfl, hown, hB⟩ := hrel
    have hle := plainL_le (s.data.toList.take k)
    have hl : (s.data.toList.take k).length ≤ k := List.length_take_le _ _
    by_cases hlt : k < s.size
    · have HO := Lib.hid hown
      clear hown
      go_wp2_with (first
        | (go_at_call 13; refine (refKind_any _ _).mono ?_; rintro e w' ⟨rfl, rfl⟩)
        | (at_builtin; refine wpList_append_own _ rfl _ _ 45 rfl w.heap.size 5 i0 (.int .u8 0) 1 1 Try.underlying45 hi hz0 hz1 hz2 rfl (by decide) _ _ _ rfl (HO.out.alloc _) ⟨wr.heap.size, 0, none⟩ 1 1 [byteV s[k]] rfl rfl (byte_news _ _ _ _ rfl) (by simp [Value.oneCell']) (by unfold maxLen; omega) (by omega) (by have := hB.size; simp; omega) ?_; intro v' w1 hown' hgrow hnn; clear hnn; have HO1 := Lib.hid hown'; have HB1 := Lib.hid (own_below hB hB.size HO.out hgrow); clear hown' hgrow))
      · go_roundw
        case rel =>
          have e := plain_keep s k hlt (by assumption)
          refine ⟨k + 1, by omega, by go_num, ?_, HB1.out⟩
          rw [e, List.length_append, List.map_append]; exact HO1.out
        case measure => simp [intOf]; omega
      · go_roundw
        case rel =>
          have e := plain_drop s k hlt (by assumption)
          refine ⟨k + 1, by omega, by go_num, ?_, hB⟩
          rw [e]; exact HO.out
        case measure => simp [intOf]; omega
    · obtain rfl : k = s.size := by omega
      have hcv := conv_own (P := Try.prog) (src := 45) (dst := 9) Try.underlying45 Try.underlying5 Try.underlying9 hown
      clear hown
      go_wp2
      go_ret
      rw [take_all s _ (Nat.le_refl _)] at hcv
      first | exact ⟨rfl, hB⟩ | (rw [take_all s _ (Nat.le_refl _)]; exact ⟨rfl, hB⟩)

set_option maxHeartbeats 1000000 in
theorem plain_any (s : ByteArray) (hs : s.size ≤ 140737488351232) (w : World) :
    Calls Try.prog 22 #[.string s] w fun e w' => e = .returned (.string ⟨(plainL s.data.toList).toArray⟩) ∧ Below w.heap.size w w' := by
  obtain ⟨i0, hi, hz0, hz1, hz2⟩ := info_parts info_u8
  go_enter Try.func22, Try.ntmps22
  go_wp2_with (at_make; refine wpList_make_own _ rfl _ _ 45 rfl w.heap.size 5 i0 (.int .u8 0) 1 Try.underlying45 hi hz0 hz1 .i64 .i64 _ s.size rfl rfl rfl (by rw [hz2]; omega) (by unfold maxLen; omega) (Nat.le_refl _) ?_; intro w1 hown0 hg0)
  have HB0 : Below w.heap.size w w1 := (Below.refl _ _).grown hg0 (Nat.le_refl _) (fun k e => by cases e)
  clear hg0
  go_loopw [3, 10] (fun v i wr => ∃ k : Nat, k ≤ s.size ∧ i = .int .i64 k ∧ wr.ownsRow w.heap.size 5 1 v (plainL (s.data.toList.take k)).length ((plainL (s.data.toList.take k)).map byteV) ∧ Below w.heap.size w wr)
    (fun _ i _ => s.size - (intOf i).toNat)
  case atStart => exact ⟨0, Nat.zero_le _, rfl, hown0, HB0⟩
  case round =>
    obtain ⟨k, hk, rfl, hown, hB⟩ := hrel
    have hle := plainL_le (s.data.toList.take k)
    have hl : (s.data.toList.take k).length ≤ k := List.length_take_le _ _
    by_cases hlt : k < s.size
    · have HO := Lib.hid hown
      clear hown
      go_wp2_with (first
        | (go_at_call 12; refine (kind_any _ _).mono ?_; rintro e w' ⟨rfl, rfl⟩)
        | (at_builtin; refine wpList_append_own _ rfl _ _ 45 rfl w.heap.size 5 i0 (.int .u8 0) 1 1 Try.underlying45 hi hz0 hz1 hz2 rfl (by decide) _ _ _ rfl (HO.out.alloc _) ⟨wr.heap.size, 0, none⟩ 1 1 [byteV s[k]] rfl rfl (byte_news _ _ _ _ rfl) (by simp [Value.oneCell']) (by unfold maxLen; omega) (by omega) (by have := hB.size; simp; omega) ?_; intro v' w1 hown' hgrow hnn; clear hnn; have HO1 := Lib.hid hown'; have HB1 := Lib.hid (own_below hB hB.size HO.out hgrow); clear hown' hgrow))
      · go_roundw
        case rel =>
          have e := plain_keep s k hlt (by assumption)
          refine ⟨k + 1, by omega, by go_num, ?_, HB1.out⟩
          rw [e, List.length_append, List.map_append]; exact HO1.out
        case measure => simp [intOf]; omega
      · go_roundw
        case rel =>
          have e := plain_drop s k hlt (by assumption)
          refine ⟨k + 1, by omega, by go_num, ?_, hB⟩
          rw [e]; exact HO.out
        case measure => simp [intOf]; omega
    · obtain rfl : k = s.size := by omega
      have hcv := conv_own (P := Try.prog) (src := 45) (dst := 9) Try.underlying45 Try.underlying5 Try.underlying9 hown
      clear hown
      rw [take_all s _ (Nat.le_refl _)] at hcv
      go_wp2
      go_ret
      first | exact ⟨rfl, hB⟩ | (rw [take_all s _ (Nat.le_refl _)]; exact ⟨rfl, hB⟩)

def foldB (c : UInt8) : UInt8 := if 65 ≤ c.toNat ∧ c.toNat ≤ 90 then UInt8.ofNat (c.toNat + 32) else c
def foldL (l : List UInt8) : List UInt8 := l.map foldB
theorem foldB_big {c : UInt8} (h1 : (65 : Int) ≤ c.toNat) (h2 : (c.toNat : Int) ≤ 90) : ((foldB c).toNat : Int) = c.toNat + 97 - 65 := by
  have h : 65 ≤ c.toNat ∧ c.toNat ≤ 90 := by omega
  rw [foldB, if_pos h, UInt8.toNat_ofNat']; omega
theorem foldB_low {c : UInt8} (h1 : (c.toNat : Int) < 65) : foldB c = c := by
  rw [foldB, if_neg (by omega)]
theorem foldB_high {c : UInt8} (h1 : (90 : Int) < c.toNat) : foldB c = c := by
  rw [foldB, if_neg (by omega)]
theorem fold_snoc (s : ByteArray) (k : Nat) (h : k < s.size) : foldL (s.data.toList.take (k + 1)) = foldL (s.data.toList.take k) ++ [foldB s[k]] := by
  rw [take_snoc s k h, foldL, List.map_append]; rfl

set_option maxHeartbeats 1000000 in
theorem refFold_any (s : ByteArray) (hs : s.size ≤ 140737488351232) (w : World) :
    Calls Try.prog 21 #[.string s] w fun e w' => e = .returned (.string ⟨(foldL s.data.toList).toArray⟩) ∧ Below w.heap.size w w' := by
  obtain ⟨i0, hi, hz0, hz1, hz2⟩ := info_parts info_u8
  go_enter Try.func21, Try.ntmps21
  go_wp2
  go_loopw [3, 4] (fun v i wr => ∃ k : Nat, k ≤ s.size ∧ i = .int .i64 k ∧ wr.ownsRow w.heap.size 5 1 v (foldL (s.data.toList.take k)).length ((foldL (s.data.toList.take k)).map byteV) ∧ Below w.heap.size w wr)
    (fun _ i _ => s.size - (intOf i).toNat)
  case atStart => exact ⟨0, Nat.zero_le _, rfl, World.ownsRow_lit _ #[] 0 (Nat.le_refl _) (by simp [maxLen]) rfl, (Below.refl _ _).alloc (Nat.le_refl _) _⟩
  case round =>
    obtain ⟨k, hk, rfl, hown, hB⟩ := hrel
    have hl : (s.data.toList.take k).length ≤ k := List.length_take_le _ _
    by_cases hlt : k < s.size
    · have HO := Lib.hid hown
      have hl2 : (foldL (s.data.toList.take k)).length ≤ k := by rw [foldL, List.length_map]; exact hl
      clear hown
      by_cases h1 : (65 : Int) ≤ s[k].toNat ∧ (s[k].toNat : Int) ≤ 90
      · obtain ⟨h1, h2⟩ := h1
        go_wp2_with (at_builtin; refine wpList_append_own _ rfl _ _ 45 rfl w.heap.size 5 i0 (.int .u8 0) 1 1 Try.underlying45 hi hz0 hz1 hz2 rfl (by decide) _ _ _ rfl (HO.out.alloc _) ⟨wr.heap.size, 0, none⟩ 1 1 [.int .u8 _] rfl rfl (byte_news _ _ _ _ rfl) (by simp [Value.oneCell']) (by unfold maxLen; omega) (by omega) (by have := hB.size; simp; omega) ?_; intro v' w1 hown' hgrow hnn; clear hnn; have HO1 := Lib.hid hown'; have HB1 := Lib.hid (own_below hB hB.size HO.out hgrow); clear hown' hgrow)
        go_roundw
        case rel =>
          have e := HO1.out
          refine ⟨k + 1, by omega, by go_num, ?_, HB1.out⟩
          rw [fold_snoc s k hlt, List.length_append, List.map_append]
          simp only [List.map_cons, List.map_nil, byteV]
          rw [foldB_big h1 h2]
          exact e
        case measure => simp [intOf]; omega
      · by_cases h2 : (s[k].toNat : Int) < 65
        · clear h1
          go_wp2_with (at_builtin; refine wpList_append_own _ rfl _ _ 45 rfl w.heap.size 5 i0 (.int .u8 0) 1 1 Try.underlying45 hi hz0 hz1 hz2 rfl (by decide) _ _ _ rfl (HO.out.alloc _) ⟨wr.heap.size, 0, none⟩ 1 1 [.int .u8 _] rfl rfl (byte_news _ _ _ _ rfl) (by simp [Value.oneCell']) (by unfold maxLen; omega) (by omega) (by have := hB.size; simp; omega) ?_; intro v' w1 hown' hgrow hnn; clear hnn; have HO1 := Lib.hid hown'; have HB1 := Lib.hid (own_below hB hB.size HO.out hgrow); clear hown' hgrow)
          go_roundw
          case rel =>
            have e := HO1.out
            refine ⟨k + 1, by omega, by go_num, ?_, HB1.out⟩
            rw [fold_snoc s k hlt, List.length_append, List.map_append]
            simp only [List.map_cons, List.map_nil, byteV]
            rw [foldB_low h2]
            exact e
          case measure => simp [intOf]; omega
        · have h3 : (90 : Int) < s[k].toNat := by omega
          clear h1 h2
          go_wp2_with (at_builtin; refine wpList_append_own _ rfl _ _ 45 rfl w.heap.size 5 i0 (.int .u8 0) 1 1 Try.underlying45 hi hz0 hz1 hz2 rfl (by decide) _ _ _ rfl (HO.out.alloc _) ⟨wr.heap.size, 0, none⟩ 1 1 [.int .u8 _] rfl rfl (byte_news _ _ _ _ rfl) (by simp [Value.oneCell']) (by unfold maxLen; omega) (by omega) (by have := hB.size; simp; omega) ?_; intro v' w1 hown' hgrow hnn; clear hnn; have HO1 := Lib.hid hown'; have HB1 := Lib.hid (own_below hB hB.size HO.out hgrow); clear hown' hgrow)
          go_roundw
          case rel =>
            have e := HO1.out
            refine ⟨k + 1, by omega, by go_num, ?_, HB1.out⟩
            rw [fold_snoc s k hlt, List.length_append, List.map_append]
            simp only [List.map_cons, List.map_nil, byteV]
            rw [foldB_high h3]
            exact e
          case measure => simp [intOf]; omega
    · obtain rfl : k = s.size := by omega
      have hcv := conv_own (P := Try.prog) (src := 45) (dst := 9) Try.underlying45 Try.underlying5 Try.underlying9 hown
      clear hown
      rw [take_all s _ (Nat.le_refl _)] at hcv
      go_wp2
      go_ret
      first | exact ⟨rfl, hB⟩ | (rw [take_all s _ (Nat.le_refl _)]; exact ⟨rfl, hB⟩)

/-- the row at B holds the bytes l, and can be written -/
def BytesAt (W : World) (B : Nat) (l : List UInt8) : Prop := ∀ j (h : j < l.length), W.cell? ⟨B, j, none⟩ = some (byteV l[j]) ∧ W.frozen? ⟨B, j, none⟩ = false
theorem BytesAt.set {W : World} {B k : Nat} {l : List UInt8} (h : BytesAt W B l) (hk : k < l.length) (x : UInt8) : BytesAt (W.setCell ⟨B, k, none⟩ (byteV x)) B (l.set k x) := by
  intro j hj
  have hj' : j < l.length := by simpa using hj
  refine ⟨?_, by rw [World.frozen?_setCell]; exact (h j hj').2⟩
  rw [List.getElem_set]
  by_cases e : k = j
  · subst e
    rw [if_pos rfl]
    exact World.cell?_setCell_same _ _ _ (h k hk).1
  · rw [if_neg e, World.cell?_setCell_other _ _ _ _ (by intro h'; cases h'; exact e rfl)]
    exact (h j hj').1
/-- []byte(s) -/
theorem bytes_new (w : World) (s : ByteArray) (cap : Nat) (e : TypeId) : BytesAt (w.drew.alloc (.cells (bytesRow s cap) e ((bytesRow s cap).size, (bytesRow s cap).size + 1))) w.heap.size s.data.toList := by
  intro j hj
  have hj' : j < s.data.size := by simpa using hj
  have hs : (bytesRow s cap).size = s.data.size + (cap - s.size) := by simp [bytesRow]
  refine ⟨?_, ?_⟩
  · have := World.cell?_alloc_mark w.drew (bytesRow s cap) e ((bytesRow s cap).size, (bytesRow s cap).size + 1) j
    rw [show w.drew.heap.size = w.heap.size from rfl] at this
    rw [this, bytesRow_at s cap j hj']
    simp
  · have := World.frozen?_alloc_mark w.drew (bytesRow s cap) e (bytesRow s cap).size ((bytesRow s cap).size + 1) j
    rw [show w.drew.heap.size = w.heap.size from rfl] at this
    rw [this, hs]
    simp only [Bool.and_eq_false_iff, decide_eq_false_iff_not]; omega
theorem bytes_back {P : Program} {W : World} {src dst e : TypeId} {B cap : Nat} {l : List UInt8} (hs : P.underlying src = some (.slice e)) (he : P.underlying e = some (.int .u8)) (hd : P.underlying dst = some .string)
    (h : BytesAt W B l) : (convert src dst (.slice (some ⟨B, 0, none⟩) l.length cap)).run P W = .ok (.string ⟨l.toArray⟩) W :=
  run_convert_bytes_back W src dst e ⟨B, 0, none⟩ cap l hs he hd (fun j hj => by rw [show (⟨B, 0, none⟩ : Addr).add j = ⟨B, j, none⟩ by unfold Addr.add; split <;> simp_all]; exact (h j hj).1)

def foldK (l : List UInt8) (k : Nat) : List UInt8 := foldL (l.take k) ++ l.drop k
theorem foldK_length (l : List UInt8) (k : Nat) : (foldK l k).length = l.length := by
  simp [foldK, foldL]; omega
theorem foldK_at (l : List UInt8) (k : Nat) (h : k < l.length) : (foldK l k)[k]? = some l[k] := by
  rw [foldK, List.getElem?_append_right (by simp [foldL]; omega)]
  simp [foldL, Nat.min_eq_left (Nat.le_of_lt h), h]
theorem foldK_succ (l : List UInt8) (k : Nat) (h : k < l.length) : (foldK l k).set k (foldB l[k]) = foldK l (k + 1) := by
  have h1 : (foldL (l.take k)).length = k := by simp [foldL]; omega
  rw [foldK, List.set_append_right _ _ (by omega), h1, Nat.sub_self, List.drop_eq_getElem_cons h, List.set_cons_zero, foldK, List.take_succ_eq_append_getElem h, foldL, foldL, List.map_append, List.append_assoc]
  rfl
theorem foldK_same (l : List UInt8) (k : Nat) (h : k < l.length) (he : foldB l[k] = l[k]) : foldK l (k + 1) = foldK l k := by
  rw [foldK, foldK, List.drop_eq_getElem_cons h, List.take_succ_eq_append_getElem h, foldL, foldL, List.map_append, List.append_assoc]
  simp [he]
theorem foldK_end (l : List UInt8) : foldK l l.length = foldL l := by simp [foldK]

set_option maxHeartbeats 1000000 in
theorem fold_any (s : ByteArray) (hs : s.size ≤ 140737488351232) (w : World) :
    Calls Try.prog 20 #[.string s] w fun e w' => e = .returned (.string ⟨(foldL s.data.toList).toArray⟩) ∧ Below w.heap.size w w' := by
  have hrun := run_bytes_of_string (P := Try.prog) w 9 45 5 s Try.underlying9 Try.underlying45 Try.underlying5
  have hnew := bytes_new w s (grownCap w s.size 0 5) 5
  have hbel : Below w.heap.size w (w.drew.alloc (.cells (bytesRow s (grownCap w s.size 0 5)) 5 ((bytesRow s (grownCap w s.size 0 5)).size, (bytesRow s (grownCap w s.size 0 5)).size + 1))) := (Below.refl _ _).drew.alloc (Nat.le_refl _) _
  obtain ⟨w1, hw1⟩ : ∃ w1, w.drew.alloc (.cells (bytesRow s (grownCap w s.size 0 5)) 5 ((bytesRow s (grownCap w s.size 0 5)).size, (bytesRow s (grownCap w s.size 0 5)).size + 1)) = w1 := ⟨_, rfl⟩
  rw [hw1] at hrun hnew hbel
  clear hw1
  obtain ⟨cap, hcap⟩ : ∃ cap, grownCap w s.size 0 5 = cap := ⟨_, rfl⟩
  rw [hcap] at hrun
  clear hcap
  have HN := Lib.hid hnew
  clear hnew
  go_enter Try.func20, Try.ntmps20
  go_wp2
  clear hrun
  go_loopw [10] (fun i wr => ∃ k : Nat, k ≤ s.size ∧ i = .int .i64 k ∧ BytesAt wr w.heap.size (foldK s.data.toList k) ∧ Below w.heap.size w wr)
    (fun i _ => s.size - (intOf i).toNat)
  case atStart => exact ⟨0, Nat.zero_le _, rfl, by simpa [foldK, foldL] using HN.out, hbel⟩
  case round =>
    obtain ⟨k, hk, rfl, hat, hB⟩ := hrel
    have HA := Lib.hid hat
    clear hat
    by_cases hlt : k < s.size
    · have hll : k < s.data.toList.length := by simpa using hlt
      have hcf := HA.out k (by rw [foldK_length]; exact hll)
      have e0 := foldK_at s.data.toList k hll
      rw [List.getElem?_eq_getElem (by rw [foldK_length]; exact hll), Option.some.injEq] at e0
      rw [e0] at hcf
      clear e0
      have hcell : wr.cell? ⟨w.heap.size, k, none⟩ = some (.int .u8 s[k].toNat) := hcf.1
      have hfree := hcf.2
      clear hcf
      by_cases h1 : (65 : Int) ≤ s[k].toNat ∧ (s[k].toNat : Int) ≤ 90
      · obtain ⟨h1, h2⟩ := h1
        go_wp2
        go_roundw
        case rel =>
          refine ⟨k + 1, by omega, by go_num, ?_, hB.setCell (p := ⟨w.heap.size, k, none⟩) (Nat.le_refl _) _⟩
          have e := HA.out.set (by rw [foldK_length]; exact hll) (foldB s.data.toList[k])
          rw [foldK_succ _ _ hll] at e
          have e2 : byteV (foldB s.data.toList[k]) = .int .u8 (s[k].toNat - 65 + 97) := by
            show Value.int .u8 ((foldB s[k]).toNat : Int) = _
            rw [foldB_big h1 h2]; congr 1; omega
          rw [e2] at e
          exact e
        case measure => simp [intOf]; omega
      · by_cases h2 : (s[k].toNat : Int) < 65
        · clear h1
          go_wp2
          go_roundw
          case rel => exact ⟨k + 1, by omega, by go_num, by rw [foldK_same _ _ hll (foldB_low h2)]; exact HA.out, hB⟩
          case measure => simp [intOf]; omega
        · have h3 : (90 : Int) < s[k].toNat := by omega
          clear h1 h2
          go_wp2
          go_roundw
          case rel => exact ⟨k + 1, by omega, by go_num, by rw [foldK_same _ _ hll (foldB_high h3)]; exact HA.out, hB⟩
          case measure => simp [intOf]; omega
    · obtain rfl : k = s.size := by omega
      have hcv := bytes_back (P := Try.prog) (src := 45) (dst := 9) (cap := cap) Try.underlying45 Try.underlying5 Try.underlying9 HA.out
      rw [foldK_length, size_list, show s.size = s.data.toList.length from (size_list s).symm, foldK_end, size_list] at hcv
      go_wp2
      go_ret
      exact ⟨rfl, hB⟩
end Go.Proofs.Ytelpgjlcagbcjaa
