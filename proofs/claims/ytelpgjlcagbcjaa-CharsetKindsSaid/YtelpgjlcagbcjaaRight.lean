/- The reference's right: for each byte, is it a mark that stands right; and what calls it. -/
import Derived.Test.YtelpgjlcagbcjaaParts
namespace Go.Proofs.Ytelpgjlcagbcjaa
set_option linter.unusedSimpArgs false
set_option linter.unusedVariables false
open Go.RowKit

theorem info_bool : (Try.prog.info? 4).map (fun i => (i.zero, i.size, i.bytes)) = some (some (.bool false), 1, 1) := by kernel_rfl

/-- the flag at place k, and what it hangs on -/
def flg (b : Bool) (l : List UInt8) (k : Nat) : Bool := (flagsB b l)[k]?.getD false
def stB (b : Bool) (l : List UInt8) : Nat → Bool
  | 0 => b
  | j + 1 => decide (kd (l[j]?.getD 0) = 1) || flg b l j
theorem flg_eq : ∀ (b : Bool) (l : List UInt8) (k : Nat), k < l.length → flg b l k = (decide (kd (l[k]?.getD 0) = 2) && stB b l k)
  | b, [], k, h => by simp at h
  | b, c :: t, 0, _ => by simp [flg, flagsB, stB]
  | b, c :: t, 1, h => by
    have ih := flg_eq (decide (kd c = 1) || (decide (kd c = 2) && b)) t 0 (by simpa using h)
    simp only [flg, flagsB, stB, List.getElem?_cons_succ, List.getElem?_cons_zero, Option.getD_some] at ih ⊢
    exact ih
  | b, c :: t, j + 2, h => by
    have ih := flg_eq (decide (kd c = 1) || (decide (kd c = 2) && b)) t (j + 1) (by simp only [List.length_cons] at h; omega)
    simp only [flg, flagsB, stB, List.getElem?_cons_succ] at ih ⊢
    exact ih
theorem flg_at (s : ByteArray) (k : Nat) (h : k < s.size) : flg false s.data.toList k = (decide (kindI s[k].toNat = 2) && stB false s.data.toList k) := by
  rw [flg_eq _ _ _ (by simpa using h), List.getElem?_eq_getElem (by simpa using h)]; rfl
theorem st_at (s : ByteArray) (j : Nat) (h : j < s.size) : stB false s.data.toList (j + 1) = (decide (kindI s[j].toNat = 1) || flg false s.data.toList j) := by
  rw [stB, List.getElem?_eq_getElem (by simpa using h)]; rfl
theorem flags_snoc (s : ByteArray) (k : Nat) (h : k < s.size) : (flags s.data.toList).take (k + 1) = (flags s.data.toList).take k ++ [flg false s.data.toList k] := by
  have hl : k < (flags s.data.toList).length := by rw [flags, flagsB_length]; simpa using h
  rw [List.take_succ_eq_append_getElem hl, flg, List.getElem?_eq_getElem (by exact hl)]; rfl
theorem flags_size (s : ByteArray) : (flags s.data.toList).length = s.size := by rw [flags, flagsB_length, size_list]

theorem one_news (W : World) (x : Value) (t : TypeId) (n : Nat) (h : n = W.heap.size) : ∀ j u, [x][j]? = some u → (W.alloc (.cells #[x] t)).cell? ((⟨n, 0, none⟩ : Addr).add j) = some u := by
  intro j u hj
  subst h
  match j, hj with
  | 0, hj => simp at hj; subst hj; simp [Addr.add]

/-- a list that the call owns -/
def OwnPost (e : TypeId) (xs : List Value) (w : World) (en : Ending) (w' : World) : Prop := ∃ v, en = .returned v ∧ w'.ownsRow w.heap.size e 1 v xs.length xs ∧ Below w.heap.size w w'

theorem own_bool {w : World} {b : Nat} {v : Value} {n : Nat} {xs : List Bool} (h : w.ownsRow b 4 1 v n (xs.map Value.bool)) (j : Nat) (hj : j < n) :
    ∃ g cap, v = .slice (some ⟨g, 0, none⟩) n cap ∧ w.cell? ⟨g, j, none⟩ = some (.bool (xs[j]?.getD false)) := by
  have hl : xs.length = n := by have := h.1; simpa using this
  have hc := fun g hg => h.cells (g := g) hg
  rcases h.2 with ⟨_, h0⟩ | ⟨g, cap, cur, rfl, _⟩
  · omega
  · refine ⟨g, cap, rfl, ?_⟩
    have hjx : j < xs.length := by omega
    have := hc g rfl j (.bool (xs[j]?.getD false)) (by rw [List.getElem?_map, List.getElem?_eq_getElem hjx]; rfl)
    rwa [show (⟨g, 0, none⟩ : Addr).add j = ⟨g, j, none⟩ by unfold Addr.add; split <;> simp_all] at this

theorem own_snoc {w : World} {b k : Nat} {e : TypeId} {v : Value} {fl : List Bool} {x y : Bool} (h : w.ownsRow b e 1 v (k + 1) ((fl.take k).map Value.bool ++ [.bool x])) (hs : fl.take (k + 1) = fl.take k ++ [y]) (hx : y = x) : w.ownsRow b e 1 v (k + 1) ((fl.take (k + 1)).map Value.bool) := by
  subst hx; rw [hs, List.map_append]; exact h
theorem flag_yes {c d : Int} {x : Bool} (h : kindI c = 2) (h1 : kindI d = 1) : (decide (kindI c = 2) && (decide (kindI d = 1) || x)) = true := by simp [h, h1]
theorem flag_prev {c d : Int} {x : Bool} (h : kindI c = 2) (h1 : ¬ kindI d = 1) : (decide (kindI c = 2) && (decide (kindI d = 1) || x)) = (kindI d == 1 || x) := by simp [h, h1]
theorem flag_no {c : Int} {x : Bool} (h : ¬ kindI c = 2) : (decide (kindI c = 2) && x) = false := by simp [h]

set_option maxHeartbeats 2000000 in
theorem right_any (s : ByteArray) (hs : s.size ≤ 140737488351232) (w : World) :
    Calls Try.prog 39 #[.string s] w (OwnPost 4 ((flags s.data.toList).map Value.bool) w) := by
  obtain ⟨i0, hi, hz0, hz1, hz2⟩ := info_parts info_bool
  go_enter Try.func39, Try.ntmps39
  go_wp2
  go_loopw [3, 4] (fun v i wr => ∃ k : Nat, k ≤ s.size ∧ i = .int .i64 k ∧ wr.ownsRow w.heap.size 4 1 v k (((flags s.data.toList).take k).map Value.bool) ∧ Below w.heap.size w wr)
    (fun _ i _ => s.size - (intOf i).toNat)
  case atStart => exact ⟨0, Nat.zero_le _, rfl, World.ownsRow_lit _ #[] 0 (Nat.le_refl _) (by simp [maxLen]) rfl, (Below.refl _ _).alloc (Nat.le_refl _) _⟩
  case round =>
    obtain ⟨k, hk, rfl, hown, hB⟩ := hrel
    by_cases hlt : k < s.size
    · have HF := Lib.hid (flg_at s k hlt)
      have HS := Lib.hid (flags_snoc s k hlt)
      cases k with
      | zero =>
        have HO := Lib.hid hown
        clear hown
        go_wp2_with (first
          | (go_at_call 13; refine (refKind_any _ _).mono ?_; rintro e w' ⟨rfl, rfl⟩)
          | (at_builtin; refine wpList_append_own _ rfl _ _ 42 rfl w.heap.size 4 i0 (.bool false) 1 1 Try.underlying42 hi hz0 hz1 hz2 rfl (by decide) _ _ _ rfl (HO.out.alloc _) ⟨wr.heap.size, 0, none⟩ 1 1 [.bool _] rfl rfl (one_news _ _ _ _ rfl) (by simp [Value.oneCell']) (by unfold maxLen; omega) (by omega) (by have := hB.size; simp; omega) ?_; intro v' w1 hown' hgrow hnn; clear hnn; have HO1 := Lib.hid hown'; have HB1 := Lib.hid (own_below hB hB.size HO.out hgrow); clear hown' hgrow))
        · go_roundw
          case rel => exact ⟨1, by omega, rfl, own_snoc HO1.out HS.out (by rw [HF.out, stB, Bool.and_false]), HB1.out⟩
          case measure => simp [intOf]; omega
        · go_roundw
          case rel => exact ⟨1, by omega, rfl, own_snoc HO1.out HS.out (by rw [HF.out, stB, Bool.and_false]), HB1.out⟩
          case measure => simp [intOf]; omega
      | succ j =>
        have hj : j < s.size := by omega
        obtain ⟨g, cap, rfl, hcell⟩ := own_bool hown j (by omega)
        have HT := Lib.hid (st_at s j hj)
        have hjl : ((flags s.data.toList).take (j + 1))[j]?.getD false = flg false s.data.toList j := by
          rw [List.getElem?_take_of_lt (by omega)]; rfl
        rw [hjl] at hcell
        clear hjl
        obtain ⟨fb, hfb⟩ : ∃ fb, flg false s.data.toList j = fb := ⟨_, rfl⟩
        rw [hfb] at hcell
        have HFB := Lib.hid hfb
        have HO := Lib.hid hown
        clear hown hfb
        go_wp2_with (first
          | (go_at_call 13; refine (refKind_any _ _).mono ?_; rintro e w' ⟨rfl, rfl⟩)
          | (at_builtin; refine wpList_append_own _ rfl _ _ 42 rfl w.heap.size 4 i0 (.bool false) 1 1 Try.underlying42 hi hz0 hz1 hz2 rfl (by decide) _ _ _ rfl (HO.out.alloc _) ⟨wr.heap.size, 0, none⟩ 1 1 [.bool _] rfl rfl (one_news _ _ _ _ rfl) (by simp [Value.oneCell']) (by unfold maxLen; omega) (by omega) (by have := hB.size; simp; omega) ?_; intro v' w1 hown' hgrow hnn; clear hnn; have HO1 := Lib.hid hown'; have HB1 := Lib.hid (own_below hB hB.size HO.out hgrow); clear hown' hgrow))
        · go_roundw
          case rel => exact ⟨j + 1 + 1, by omega, by go_num, own_snoc HO1.out HS.out (by rw [HF.out, HT.out]; exact flag_yes (by assumption) (by assumption)), HB1.out⟩
          case measure => simp [intOf]; omega
        · go_roundw
          case rel => exact ⟨j + 1 + 1, by omega, by go_num, own_snoc HO1.out HS.out (by rw [HF.out, HT.out, HFB.out]; exact flag_prev (by assumption) (by assumption)), HB1.out⟩
          case measure => simp [intOf]; omega
        · go_roundw
          case rel => exact ⟨j + 1 + 1, by omega, by go_num, own_snoc HO1.out HS.out (by rw [HF.out]; exact flag_no (by assumption)), HB1.out⟩
          case measure => simp [intOf]; omega
    · obtain rfl : k = s.size := by omega
      have hown2 : wr.ownsRow w.heap.size 4 1 u3 ((flags s.data.toList).map Value.bool).length ((flags s.data.toList).map Value.bool) := by
        rw [List.take_of_length_le (by rw [flags_size]; exact Nat.le_refl _)] at hown
        rw [List.length_map, flags_size]; exact hown
      have HO := Lib.hid hown2
      clear hown hown2
      go_wp2
      go_ret
      exact ⟨_, rfl, HO.out, hB⟩
end Go.Proofs.Ytelpgjlcagbcjaa
