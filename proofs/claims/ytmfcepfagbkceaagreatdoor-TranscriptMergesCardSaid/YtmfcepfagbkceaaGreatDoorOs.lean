/- Stage 10 (transcript): MkRef1, put together by merge10.py. -/
import Derived.Test.YtmfcepfagbkceaaGreatDoorOc1
namespace Go.Proofs.YtmfcepfagbkceaaGreatDoor.R01
set_option linter.unusedSimpArgs false
set_option linter.unusedVariables false
set_option maxRecDepth 100000
open Go.RowKit
theorem size_list (s : ByteArray) : s.data.toList.length = s.size := by simp
theorem ret_int {k : IntKind} {a b : Int} (h : a = b) : Ending.returned (.int k a) = .returned (.int k b) := by rw [h]
theorem of_beq {a b : Int} (h : (a == b) = true) : a = b := by simpa using h
theorem ne_of_beq {a b : Int} (h : (a == b) = false) : a ≠ b := by simpa using h
set_option maxHeartbeats 1000000 in
theorem refKind_any (c : Int) (w : World) :
    Calls Tryz.prog 101 #[.int .u8 c] w fun e w' => e = .returned (.int .i64 (kindI c)) ∧ w = w' := by
  go_enter Tryz.func101, Tryz.ntmps101
  go_wp2
  all_goals go_ret
  all_goals refine ⟨ret_int ?_, rfl⟩
  all_goals try simp only [beq_iff_eq, beq_eq_false_iff_ne, ne_eq] at *
  all_goals unfold kindI
  all_goals omega
theorem beqd (a b : Int) : (a == b) = decide (a = b) := by by_cases h : a = b <;> simp [h]
theorem drop_at (s : ByteArray) (k : Nat) (h : k < s.size) : s.data.toList.drop k = s[k] :: s.data.toList.drop (k + 1) :=
  List.drop_eq_getElem_cons (by simpa using h)
theorem chk_small {s : ByteArray} (h : ¬ 65536 < s.size) : chk s.data.toList = if accB s.data.toList then 0 else 11 := by
  rw [chk, if_neg (by rw [size_list]; exact h)]
theorem lettersN_le (l : List UInt8) : lettersN l ≤ l.length := List.length_filter_le _ _
theorem take_snoc (s : ByteArray) (k : Nat) (h : k < s.size) : s.data.toList.take (k + 1) = s.data.toList.take k ++ [s[k]] := by
  rw [List.take_succ_eq_append_getElem (by simpa using h)]; rfl
theorem take_all (s : ByteArray) (k : Nat) (h : s.size ≤ k) : s.data.toList.take k = s.data.toList := List.take_of_length_le (by simpa using h)
theorem letters_snoc (s : ByteArray) (k : Nat) (h : k < s.size) : lettersN (s.data.toList.take (k + 1)) = lettersN (s.data.toList.take k) + if ldI s[k].toNat = true then 1 else 0 := by
  rw [take_snoc s k h, lettersN, lettersN, List.filter_append, List.length_append]
  by_cases hl : ldI s[k].toNat = true
  · rw [if_pos hl]; simp [List.filter_cons, ldB, hl]
  · rw [if_neg hl]; simp [List.filter_cons, ldB, hl]
theorem ldI_kind (c : Int) : ldI c = ((kindI c == 1) || (kindI c == 3)) := by simp [ldI, beqd]
theorem ldk1 {c : Int} (h : kindI c = 1) : ldI c = true := by simp [ldI, h]
theorem ldk3 {c : Int} (h : (kindI c == 1) = true ∨ (kindI c == 3) = true) : ldI c = true := by
  rw [ldI_kind]; simpa using h
theorem ldkn {c : Int} (h : (kindI c == 1) = false ∧ (kindI c == 3) = false) : ¬ ldI c = true := by
  rw [ldI_kind, h.1, h.2]; simp
set_option maxHeartbeats 400000 in
theorem refLetters_any (s : ByteArray) (hs : s.size ≤ maxLen) (w : World) :
    Calls Tryz.prog 127 #[.string s] w fun e w' => e = .returned (.int .i64 (lettersN s.data.toList)) ∧ w = w' := by
  unfold maxLen at hs
  go_enter Tryz.func127, Tryz.ntmps127
  go_wp2
  go_loop [3, 4] (fun n i => ∃ k : Nat, k ≤ s.size ∧ i = .int .i64 k ∧ n = .int .i64 (lettersN (s.data.toList.take k))) (fun _ i => s.size - (intOf i).toNat)
  case atStart => exact ⟨0, Nat.zero_le _, rfl, rfl⟩
  case round =>
    obtain ⟨k, hk, rfl, rfl⟩ := hrel
    have hd := lettersN_le (s.data.toList.take k)
    have hl : (s.data.toList.take k).length ≤ k := List.length_take_le _ _
    by_cases hlt : k < s.size
    · have HS := Lib.hid (letters_snoc s k hlt)
      go_wp2_with (go_at_call 101; refine (refKind_any _ _).mono ?_; rintro e w' ⟨rfl, rfl⟩)
      all_goals
        go_round
        case rel => first
          | exact ⟨k + 1, by omega, by go_num, by rw [HS.out, if_pos (ldk1 (by assumption))]; go_num⟩
          | exact ⟨k + 1, by omega, by go_num, by rw [HS.out, if_pos (ldk3 (by assumption))]; go_num⟩
          | exact ⟨k + 1, by omega, by go_num, by rw [HS.out, if_neg (ldkn (by assumption))]; rfl⟩
        case measure => simp [intOf]; omega
    · go_wp2
      go_ret
      exact ⟨ret_int (by rw [take_all s k (by omega)]), rfl⟩
theorem headLd_eq {s : ByteArray} (h0 : 0 < s.size) : headLd s.data.toList = ldI s[0].toNat := by
  have e := drop_at s 0 h0
  rw [List.drop_zero] at e
  rw [e]; rfl
def accF : Bool → List UInt8 → Bool
  | _, [] => true
  | b, c :: t => !(badB c (decide (kd c = 2) && b)) && accF (decide (kd c = 1) || (decide (kd c = 2) && b)) t
theorem accF_flags : ∀ (b : Bool) (l : List UInt8), accF b l = !((l.zip (flagsB b l)).any fun x => badB x.1 x.2)
  | _, [] => rfl
  | b, c :: t => by
    simp only [accF, flagsB, List.zip_cons_cons, List.any_cons, Bool.not_or, accF_flags]
theorem acc_accF (l : List UInt8) : accB l = accF false l := by rw [accF_flags]; rfl
theorem chk_zero {l : List UInt8} (h : chk l = 0) : ¬ 65536 < l.length ∧ accB l = true := by
  unfold chk at h
  split at h
  · omega
  · split at h
    · exact ⟨by assumption, by assumption⟩
    · omega
def wF : Bool → List UInt8 → Bool
  | _, [] => true
  | b, c :: t => okW c (decide (kd c = 2) && b) && wF (decide (kd c = 1) || (decide (kd c = 2) && b)) t
theorem wF_flags : ∀ (b : Bool) (l : List UInt8), wF b l = !((l.zip (flagsB b l)).any fun x => !okW x.1 x.2)
  | _, [] => rfl
  | b, c :: t => by
    simp only [wF, flagsB, List.zip_cons_cons, List.any_cons, Bool.not_or, Bool.not_not, wF_flags]
theorem allW_wF (l : List UInt8) : allW l = wF false l := by rw [wF_flags]; rfl
theorem wordB_split {l : List UInt8} (h : wordB l = true) : 0 < l.length ∧ l.length ≤ 64 ∧ headLd l = true ∧ wF false l = true := by
  unfold wordB at h
  simp only [Bool.and_eq_true, decide_eq_true_eq] at h
  rw [allW_wF] at h
  exact ⟨h.1.1.1, h.1.1.2, h.1.2, h.2⟩
theorem okW_bad {c : UInt8} {f : Bool} (h : okW c f = true) : badB c f = false := by
  simp only [okW, Bool.or_eq_true, decide_eq_true_eq, Bool.and_eq_true] at h
  rcases h with ((h | h) | h) | ⟨h, hf⟩
  · simp [badB, h]
  · simp [badB, h]
  · simp [badB, h]
  · simp [badB, h, hf]
theorem wF_accF : ∀ (b : Bool) (l : List UInt8), wF b l = true → accF b l = true
  | _, [], _ => rfl
  | b, c :: t, h => by
    rw [wF, Bool.and_eq_true] at h
    rw [accF, okW_bad h.1, wF_accF _ t h.2]; rfl
theorem word_chk {l : List UInt8} (h : wordB l = true) : chk l = 0 := by
  obtain ⟨l1, l2, l3, l4⟩ := wordB_split h
  rw [chk, if_neg (by omega), acc_accF, wF_accF _ _ l4, if_pos rfl]
theorem wF_kinds : ∀ (b : Bool) (l : List UInt8), wF b l = true → ∀ c ∈ l, ¬ kd c = 5 ∧ ¬ kd c = 6
  | _, [], _ => by simp
  | b, c :: t, h => by
    rw [wF, Bool.and_eq_true] at h
    intro x hx
    rcases List.mem_cons.1 hx with rfl | hx
    · have h1 := h.1
      simp only [okW, Bool.or_eq_true, decide_eq_true_eq, Bool.and_eq_true] at h1
      omega
    · exact wF_kinds _ t h.2 x hx
theorem wF_ld : ∀ (b : Bool) (l : List UInt8), (∀ c ∈ l, ldB c = true) → wF b l = true
  | _, [], _ => rfl
  | b, c :: t, h => by
    have hc := h c (List.mem_cons_self ..)
    rw [wF, wF_ld _ t (fun x hx => h x (List.mem_cons_of_mem _ hx))]
    have h' : kd c = 1 ∨ kd c = 3 := by simpa [ldB, ldI, kd] using hc
    rcases h' with h' | h' <;> simp [okW, h']
theorem name_word {l : List UInt8} (h : nameB l = true) : wordB l = true ∧ lettersN l = l.length ∧ l.length ≤ 16 := by
  unfold nameB at h
  simp only [Bool.and_eq_true, decide_eq_true_eq] at h
  obtain ⟨⟨h0, h16⟩, hl⟩ := h
  have hall : ∀ c ∈ l, ldB c = true := by
    have : l.filter ldB = l := List.filter_eq_self.2 (by
      have := List.length_filter_eq_length_iff.1 hl
      exact this)
    intro c hc
    rw [← this] at hc
    exact (List.mem_filter.1 hc).2
  refine ⟨?_, hl, h16⟩
  have h64 : l.length ≤ 64 := by omega
  have hh : headLd l = true := by
    match l, h0, hall with
    | c :: t, _, hall => exact hall c (List.mem_cons_self ..)
  rw [wordB, allW_wF, wF_ld _ _ hall, hh]; simp [h0, h64]
theorem own_below {w wr w1 : World} {base : Nat} {e : TypeId} {size n : Nat} {v : Value} {xs : List Value} {o : Obj} (hB : Below base w wr) (hb : base ≤ wr.heap.size) (hown : wr.ownsRow base e size v n xs) (hg : (wr.alloc o).grownBy w1 v.ownBlock) : Below base w w1 :=
  (hB.alloc hb o).grown hg (by simp; omega) (fun k hk => (hown.lt k hk).1)
theorem info_bool : (Tryz.prog.info? 4).map (fun i => (i.zero, i.size, i.bytes)) = some (some (.bool false), 1, 1) := by kernel_rfl
def flg (b : Bool) (l : List UInt8) (k : Nat) : Bool := (flagsB b l)[k]?.getD false
def stB (b : Bool) (l : List UInt8) : Nat → Bool
  | 0 => b
  | j + 1 => decide (kd (l[j]?.getD 0) = 1) || flg b l j
theorem flg_eq : ∀ (b : Bool) (l : List UInt8) (k : Nat), k < l.length → flg b l k = (decide (kd (l[k]?.getD 0) = 2) && stB b l k)
  | b, [], k, h => by simp at h
  | b, c :: t, 0, _ => by simp [flg, flagsB, stB]
  | b, c :: t, 1, h => by
    have ih := flg_eq (decide (kd c = 1) || (decide (kd c = 2) && b)) t 0 (by simpa using h)
    simp only [flg, flagsB, stB, List.getElem?_cons_succ, List.getElem?_cons_zero, Option.getD_some] at ih ⊢
    exact ih
  | b, c :: t, j + 2, h => by
    have ih := flg_eq (decide (kd c = 1) || (decide (kd c = 2) && b)) t (j + 1) (by simp only [List.length_cons] at h; omega)
    simp only [flg, flagsB, stB, List.getElem?_cons_succ] at ih ⊢
    exact ih
theorem flg_at (s : ByteArray) (k : Nat) (h : k < s.size) : flg false s.data.toList k = (decide (kindI s[k].toNat = 2) && stB false s.data.toList k) := by
  rw [flg_eq _ _ _ (by simpa using h), List.getElem?_eq_getElem (by simpa using h)]; rfl
theorem st_at (s : ByteArray) (j : Nat) (h : j < s.size) : stB false s.data.toList (j + 1) = (decide (kindI s[j].toNat = 1) || flg false s.data.toList j) := by
  rw [stB, List.getElem?_eq_getElem (by simpa using h)]; rfl
theorem flags_snoc (s : ByteArray) (k : Nat) (h : k < s.size) : (flags s.data.toList).take (k + 1) = (flags s.data.toList).take k ++ [flg false s.data.toList k] := by
  have hl : k < (flags s.data.toList).length := by rw [flags, flagsB_length]; simpa using h
  rw [List.take_succ_eq_append_getElem hl, flg, List.getElem?_eq_getElem (by exact hl)]; rfl
theorem flags_size (s : ByteArray) : (flags s.data.toList).length = s.size := by rw [flags, flagsB_length, size_list]
theorem one_news (W : World) (x : Value) (t : TypeId) (n : Nat) (h : n = W.heap.size) : ∀ j u, [x][j]? = some u → (W.alloc (.cells #[x] t)).cell? ((⟨n, 0, none⟩ : Addr).add j) = some u := by
  intro j u hj
  subst h
  match j, hj with
  | 0, hj => simp at hj; subst hj; simp [Addr.add]
def OwnPost (e : TypeId) (xs : List Value) (w : World) (en : Ending) (w' : World) : Prop := ∃ v, en = .returned v ∧ w'.ownsRow w.heap.size e 1 v xs.length xs ∧ Below w.heap.size w w'
theorem own_bool {w : World} {b : Nat} {v : Value} {n : Nat} {xs : List Bool} (h : w.ownsRow b 4 1 v n (xs.map Value.bool)) (j : Nat) (hj : j < n) :
    ∃ g cap, v = .slice (some ⟨g, 0, none⟩) n cap ∧ w.cell? ⟨g, j, none⟩ = some (.bool (xs[j]?.getD false)) := by
  have hl : xs.length = n := by have := h.1; simpa using this
  have hc := fun g hg => h.cells (g := g) hg
  rcases h.2 with ⟨_, h0⟩ | ⟨g, cap, cur, rfl, _⟩
  · omega
  · refine ⟨g, cap, rfl, ?_⟩
    have hjx : j < xs.length := by omega
    have := hc g rfl j (.bool (xs[j]?.getD false)) (by rw [List.getElem?_map, List.getElem?_eq_getElem hjx]; rfl)
    rwa [show (⟨g, 0, none⟩ : Addr).add j = ⟨g, j, none⟩ by unfold Addr.add; split <;> simp_all] at this
theorem own_snoc {w : World} {b k : Nat} {e : TypeId} {v : Value} {fl : List Bool} {x y : Bool} (h : w.ownsRow b e 1 v (k + 1) ((fl.take k).map Value.bool ++ [.bool x])) (hs : fl.take (k + 1) = fl.take k ++ [y]) (hx : y = x) : w.ownsRow b e 1 v (k + 1) ((fl.take (k + 1)).map Value.bool) := by
  subst hx; rw [hs, List.map_append]; exact h
theorem flag_yes {c d : Int} {x : Bool} (h : kindI c = 2) (h1 : kindI d = 1) : (decide (kindI c = 2) && (decide (kindI d = 1) || x)) = true := by simp [h, h1]
theorem flag_prev {c d : Int} {x : Bool} (h : kindI c = 2) (h1 : ¬ kindI d = 1) : (decide (kindI c = 2) && (decide (kindI d = 1) || x)) = (kindI d == 1 || x) := by simp [h, h1]
theorem flag_no {c : Int} {x : Bool} (h : ¬ kindI c = 2) : (decide (kindI c = 2) && x) = false := by simp [h]
set_option maxHeartbeats 2000000 in
theorem right_any (s : ByteArray) (hs : s.size ≤ 140737488351232) (w : World) :
    Calls Tryz.prog 100 #[.string s] w (OwnPost 4 ((flags s.data.toList).map Value.bool) w) := by
  obtain ⟨i0, hi, hz0, hz1, hz2⟩ := info_parts info_bool
  go_enter Tryz.func100, Tryz.ntmps100
  go_wp2
  go_loopw [3, 4] (fun v i wr => ∃ k : Nat, k ≤ s.size ∧ i = .int .i64 k ∧ wr.ownsRow w.heap.size 4 1 v k (((flags s.data.toList).take k).map Value.bool) ∧ Below w.heap.size w wr)
    (fun _ i _ => s.size - (intOf i).toNat)
  case atStart => exact ⟨0, Nat.zero_le _, rfl, World.ownsRow_lit _ #[] 0 (Nat.le_refl _) (by simp [maxLen]) rfl, (Below.refl _ _).alloc (Nat.le_refl _) _⟩
  case round =>
    obtain ⟨k, hk, rfl, hown, hB⟩ := hrel
    by_cases hlt : k < s.size
    · have HF := Lib.hid (flg_at s k hlt)
      have HS := Lib.hid (flags_snoc s k hlt)
      cases k with
      | zero =>
        have HO := Lib.hid hown
        clear hown
        go_wp2_with (first
          | (go_at_call 101; refine (refKind_any _ _).mono ?_; rintro e w' ⟨rfl, rfl⟩)
          | (at_builtin; refine wpList_append_own _ rfl _ _ 117 rfl w.heap.size 4 i0 (.bool false) 1 1 Tryz.underlying117 hi hz0 hz1 hz2 rfl (by decide) _ _ _ rfl (HO.out.alloc _) ⟨wr.heap.size, 0, none⟩ 1 1 [.bool _] rfl rfl (one_news _ _ _ _ rfl) (by simp [Value.oneCell']) (by unfold maxLen; omega) (by omega) (by have := hB.size; simp; omega) ?_; intro v' w1 hown' hgrow hnn; clear hnn; have HO1 := Lib.hid hown'; have HB1 := Lib.hid (own_below hB hB.size HO.out hgrow); clear hown' hgrow))
        · go_roundw
          case rel => exact ⟨1, by omega, rfl, own_snoc HO1.out HS.out (by rw [HF.out, stB, Bool.and_false]), HB1.out⟩
          case measure => simp [intOf]; omega
        · go_roundw
          case rel => exact ⟨1, by omega, rfl, own_snoc HO1.out HS.out (by rw [HF.out, stB, Bool.and_false]), HB1.out⟩
          case measure => simp [intOf]; omega
      | succ j =>
        have hj : j < s.size := by omega
        obtain ⟨g, cap, rfl, hcell⟩ := own_bool hown j (by omega)
        have HT := Lib.hid (st_at s j hj)
        have hjl : ((flags s.data.toList).take (j + 1))[j]?.getD false = flg false s.data.toList j := by
          rw [List.getElem?_take_of_lt (by omega)]; rfl
        rw [hjl] at hcell
        clear hjl
        obtain ⟨fb, hfb⟩ : ∃ fb, flg false s.data.toList j = fb := ⟨_, rfl⟩
        rw [hfb] at hcell
        have HFB := Lib.hid hfb
        have HO := Lib.hid hown
        clear hown hfb
        go_wp2_with (first
          | (go_at_call 101; refine (refKind_any _ _).mono ?_; rintro e w' ⟨rfl, rfl⟩)
          | (at_builtin; refine wpList_append_own _ rfl _ _ 117 rfl w.heap.size 4 i0 (.bool false) 1 1 Tryz.underlying117 hi hz0 hz1 hz2 rfl (by decide) _ _ _ rfl (HO.out.alloc _) ⟨wr.heap.size, 0, none⟩ 1 1 [.bool _] rfl rfl (one_news _ _ _ _ rfl) (by simp [Value.oneCell']) (by unfold maxLen; omega) (by omega) (by have := hB.size; simp; omega) ?_; intro v' w1 hown' hgrow hnn; clear hnn; have HO1 := Lib.hid hown'; have HB1 := Lib.hid (own_below hB hB.size HO.out hgrow); clear hown' hgrow))
        · go_roundw
          case rel => exact ⟨j + 1 + 1, by omega, by go_num, own_snoc HO1.out HS.out (by rw [HF.out, HT.out]; exact flag_yes (by assumption) (by assumption)), HB1.out⟩
          case measure => simp [intOf]; omega
        · go_roundw
          case rel => exact ⟨j + 1 + 1, by omega, by go_num, own_snoc HO1.out HS.out (by rw [HF.out, HT.out, HFB.out]; exact flag_prev (by assumption) (by assumption)), HB1.out⟩
          case measure => simp [intOf]; omega
        · go_roundw
          case rel => exact ⟨j + 1 + 1, by omega, by go_num, own_snoc HO1.out HS.out (by rw [HF.out]; exact flag_no (by assumption)), HB1.out⟩
          case measure => simp [intOf]; omega
    · obtain rfl : k = s.size := by omega
      have hown2 : wr.ownsRow w.heap.size 4 1 u3 ((flags s.data.toList).map Value.bool).length ((flags s.data.toList).map Value.bool) := by
        rw [List.take_of_length_le (by rw [flags_size]; exact Nat.le_refl _)] at hown
        rw [List.length_map, flags_size]; exact hown
      have HO := Lib.hid hown2
      clear hown hown2
      go_wp2
      go_ret
      exact ⟨_, rfl, HO.out, hB⟩
theorem flag_zip : ∀ (b : Bool) (l : List UInt8) (k : Nat), k < l.length → (l.zip (flagsB b l))[k]? = some (l[k]?.getD 0, flg b l k)
  | _, [], _, h => by simp at h
  | b, c :: t, 0, _ => by simp [flagsB, flg]
  | b, c :: t, k + 1, h => by
    have ih := flag_zip (decide (kd c = 1) || (decide (kd c = 2) && b)) t k (by simpa using h)
    simp only [flagsB, List.zip_cons_cons, List.getElem?_cons_succ, flg] at ih ⊢
    exact ih
def okTo (l : List UInt8) (k : Nat) : Bool := !(((l.zip (flags l)).take k).any fun x => badB x.1 x.2)
theorem okTo_all (l : List UInt8) : okTo l l.length = accB l := by
  rw [okTo, accB, List.take_of_length_le (by simp [flags, flagsB_length])]
theorem okTo_step (s : ByteArray) (k : Nat) (h : k < s.size) : okTo s.data.toList (k + 1) = (okTo s.data.toList k && !badB s[k] (flg false s.data.toList k)) := by
  have hz := flag_zip false s.data.toList k (by simpa using h)
  have e : s.data.toList[k]?.getD 0 = s[k] := by
    rw [List.getElem?_eq_getElem (by simpa using h)]; rfl
  rw [e] at hz
  rw [okTo, okTo, List.take_add_one, flags, hz]
  simp only [Option.toList_some, List.any_append, List.any_cons, List.any_nil, Bool.or_false, Bool.not_or]
theorem okTo_stop {l : List UInt8} {k : Nat} (hk : k ≤ l.length) (h : okTo l k = false) : accB l = false := by
  rw [← okTo_all]
  rw [okTo, Bool.not_eq_false'] at h ⊢
  rw [List.any_eq_true] at h ⊢
  obtain ⟨x, hx, hp⟩ := h
  refine ⟨x, ?_, hp⟩
  exact (List.take_subset_take_left _ hk) hx
theorem chk_bad {s : ByteArray} (h : ¬ 65536 < s.size) {k : Nat} (hk : k < s.size) (hb : okTo s.data.toList (k + 1) = false) : 11 = chk s.data.toList := by
  rw [chk_small h, okTo_stop (by rw [size_list]; omega) hb]; rfl
section
variable {c : UInt8} {f : Bool}
theorem bad_zero (h : kindI c.toNat = 0) : badB c f = true := by simp [badB, kd, h]
theorem bad_mark (h : kindI c.toNat = 2) : badB c false = true := by simp [badB, kd, h]
theorem bad_not (h0 : ¬ kindI c.toNat = 0) (h2 : ¬ kindI c.toNat = 2) : badB c f = false := by simp [badB, kd, h0, h2]
theorem bad_right (h0 : ¬ kindI c.toNat = 0) : badB c true = false := by simp [badB, kd, h0]
end
set_option maxHeartbeats 400000 in
theorem refCheck_big (s : ByteArray) (h : 65536 < s.size) (hs : s.size ≤ maxLen) (w : World) :
    Calls Tryz.prog 71 #[.string s] w fun e w' => e = .returned (.int .i64 (chk s.data.toList)) ∧ Below w.heap.size w w' := by
  unfold maxLen at hs
  go_enter Tryz.func71, Tryz.ntmps71
  go_wp2
  go_ret
  exact ⟨ret_int (by rw [chk, if_pos (by rw [size_list]; exact h)]), Below.refl _ _⟩
set_option maxHeartbeats 1000000 in
theorem refCheck_small (s : ByteArray) (h : ¬ 65536 < s.size) (w : World) :
    Calls Tryz.prog 71 #[.string s] w fun e w' => e = .returned (.int .i64 (chk s.data.toList)) ∧ Below w.heap.size w w' := by
  go_enter Tryz.func71, Tryz.ntmps71
  go_wp2_with fail
  refine (right_any s (by omega) _).mono ?_
  rintro e w1 ⟨v, rfl, ho, h1⟩
  rw [List.length_map, flags_size] at ho
  have HO := Lib.hid ho
  clear ho
  go_wp2_with fail
  go_loop [4] (fun i => ∃ k : Nat, k ≤ s.size ∧ i = .int .i64 k ∧ okTo s.data.toList k = true) (fun i => s.size - (intOf i).toNat)
  case atStart => exact ⟨0, Nat.zero_le _, rfl, rfl⟩
  case round =>
    obtain ⟨k, hk, rfl, hok⟩ := hrel
    have HK := Lib.hid hok
    clear hok
    by_cases hlt : k < s.size
    · obtain ⟨g, cap, rfl, hcell⟩ := own_bool HO.out k hlt
      obtain ⟨fb, hfb⟩ : ∃ fb, flg false s.data.toList k = fb := ⟨_, rfl⟩
      rw [show (flags s.data.toList)[k]?.getD false = fb from hfb] at hcell
      have hst := okTo_step s k hlt
      rw [HK.out, hfb, Bool.true_and] at hst
      have HT := Lib.hid hst
      clear hst hfb
      cases fb with
      | false =>
        go_wp2_with (go_at_call 101; refine (refKind_any _ _).mono ?_; rintro e w' ⟨rfl, rfl⟩)
        · go_ret
          exact ⟨ret_int (chk_bad h hlt (by rw [HT.out, bad_zero (by assumption)]; rfl)), h1⟩
        · go_ret
          exact ⟨ret_int (chk_bad h hlt (by rw [HT.out, bad_mark (by assumption)]; rfl)), h1⟩
        · go_round
          case rel => exact ⟨k + 1, by omega, by go_num, by rw [HT.out, bad_not (by assumption) (by assumption)]; rfl⟩
          case measure => simp [intOf]; omega
      | true =>
        go_wp2_with (go_at_call 101; refine (refKind_any _ _).mono ?_; rintro e w' ⟨rfl, rfl⟩)
        · go_ret
          exact ⟨ret_int (chk_bad h hlt (by rw [HT.out, bad_zero (by assumption)]; rfl)), h1⟩
        · go_round
          case rel => exact ⟨k + 1, by omega, by go_num, by rw [HT.out, bad_right (by assumption)]; rfl⟩
          case measure => simp [intOf]; omega
        · go_round
          case rel => exact ⟨k + 1, by omega, by go_num, by rw [HT.out, bad_not (by assumption) (by assumption)]; rfl⟩
          case measure => simp [intOf]; omega
    · obtain rfl : k = s.size := by omega
      have hacc : accB s.data.toList = true := by
        have := HK.out
        rw [← size_list, okTo_all] at this
        exact this
      have HA := Lib.hid hacc
      clear hacc
      go_wp2
      go_ret
      exact ⟨ret_int (by rw [chk_small h, HA.out]; rfl), h1⟩
theorem refCheck_any (s : ByteArray) (hs : s.size ≤ maxLen) (w : World) :
    Calls Tryz.prog 71 #[.string s] w fun e w' => e = .returned (.int .i64 (chk s.data.toList)) ∧ Below w.heap.size w w' := by
  by_cases h : 65536 < s.size
  · exact refCheck_big s h hs w
  · exact refCheck_small s h w
theorem refCheck_at (s : ByteArray) (r : Int) (h : chk s.data.toList = r) (hs : s.size ≤ maxLen) (w : World) : Calls Tryz.prog 71 #[.string s] w fun e w' => e = .returned (.int .i64 r) ∧ Below w.heap.size w w' := by
  subst h; exact refCheck_any s hs w
theorem accF_wF : ∀ (b : Bool) (l : List UInt8), accF b l = true → (∀ c ∈ l, ¬ 4 < kd c) → wF b l = true
  | _, [], _, _ => rfl
  | b, c :: t, h, hk => by
    rw [accF, Bool.and_eq_true] at h
    have hc := hk c (List.mem_cons_self ..)
    have hb := kindI_bd c.toNat
    have h1 : badB c (decide (kd c = 2) && b) = false := by simpa using h.1
    have h0 : ¬ kd c = 0 := by
      intro e
      simp [badB, e] at h1
    have ho : okW c (decide (kd c = 2) && b) = true := by
      simp only [badB, Bool.or_eq_false_iff, decide_eq_false_iff_not, Bool.and_eq_false_iff, Bool.not_eq_false'] at h1
      by_cases h2 : kd c = 2
      · rcases h1.2 with h3 | h3
        · exact absurd h2 h3
        · have hb2 : b = true := by simpa [h2] using h3
          simp [okW, h2, hb2]
      · have : kd c = 1 ∨ kd c = 3 ∨ kd c = 4 := by
          have e : kd c = kindI c.toNat := rfl
          omega
        rcases this with e | e | e <;> simp [okW, e]
    rw [wF, ho, accF_wF _ t h.2 (fun x hx => hk x (List.mem_cons_of_mem _ hx))]; rfl
theorem not_word_chk {l : List UInt8} (h : ¬ chk l = 0) : wordB l = false := by
  rw [← Bool.not_eq_true]; exact fun e => h (word_chk e)
theorem not_word_head {s : ByteArray} (h0 : 0 < s.size) (hh : ldI s[0].toNat = false) : wordB s.data.toList = false := by
  unfold wordB; rw [headLd_eq h0, hh]; simp
theorem not_word_kind {s : ByteArray} {k : Nat} (hk : k < s.size) (h : 4 < kindI s[k].toNat) : wordB s.data.toList = false := by
  rw [← Bool.not_eq_true]
  intro e
  obtain ⟨_, _, _, h4⟩ := wordB_split e
  have hm : s[k] ∈ s.data.toList := by
    have : s.data.toList[k]'(by simpa using hk) = s[k] := rfl
    rw [← this]; exact List.getElem_mem _
  have := wF_kinds _ _ h4 s[k] hm
  have hb := kindI_bd s[k].toNat
  have e : kd s[k] = kindI s[k].toNat := rfl
  omega
theorem word_of {s : ByteArray} (h0 : 0 < s.size) (h64 : s.size ≤ 64) (hh : ldI s[0].toNat = true) (hc : chk s.data.toList = 0) (hk : ∀ k (h : k < s.size), ¬ 4 < kindI s[k].toNat) : wordB s.data.toList = true := by
  obtain ⟨_, ha⟩ := chk_zero hc
  rw [acc_accF] at ha
  have hw : wF false s.data.toList = true := accF_wF _ _ ha (by
    intro c hc
    obtain ⟨k, hkl, rfl⟩ := List.getElem_of_mem hc
    exact hk k (by simpa using hkl))
  rw [wordB, headLd_eq h0, hh, allW_wF, hw, size_list]; simp [h0, h64]
set_option maxHeartbeats 400000 in
theorem refWord_no (s : ByteArray) (h : s.size = 0 ∨ 64 < s.size) (w : World) :
    Calls Tryz.prog 109 #[.string s] w fun e w' => e = .returned (.bool (wordB s.data.toList)) ∧ Below w.heap.size w w' := by
  have hr : wordB s.data.toList = false := by
    unfold wordB; rw [size_list]
    rcases h with h | h
    · simp [h]
    · have : ¬ s.size ≤ 64 := by omega
      simp [this]
  rw [hr]
  clear hr
  go_enter Tryz.func109, Tryz.ntmps109
  rcases h with h | h
  · have h1 : (s.size : Int) < 1 := by omega
    have H := Lib.hid h
    clear h
    go_wp2
    go_ret
    exact ⟨rfl, Below.refl _ _⟩
  · have h1 : ¬ (s.size : Int) < 1 := by omega
    go_wp2
    go_ret
    exact ⟨rfl, Below.refl _ _⟩
theorem below_step {s : ByteArray} {k : Nat} {hlt : k < s.size} (hall : ∀ j (h : j < s.size), j < k → kindI s[j].toNat ≤ 4) (h4 : kindI s[k].toNat ≤ 4) : ∀ j (h : j < s.size), j < k + 1 → kindI s[j].toNat ≤ 4 := by
  intro j hj hjk
  by_cases e : j = k
  · subst e; exact h4
  · exact hall j hj (by omega)
set_option maxHeartbeats 1000000 in
theorem refWord_some (s : ByteArray) (h0 : 0 < s.size) (h : s.size ≤ 64) (w : World) :
    Calls Tryz.prog 109 #[.string s] w fun e w' => e = .returned (.bool (wordB s.data.toList)) ∧ Below w.heap.size w w' := by
  obtain ⟨r, hr⟩ : ∃ r, chk s.data.toList = r := ⟨_, rfl⟩
  have HR := Lib.hid hr
  clear hr
  have h1 : ¬ (s.size : Int) < 1 := by omega
  go_enter Tryz.func109, Tryz.ntmps109
  go_wp2_with fail
  refine (refCheck_at s r HR.out (by unfold maxLen; omega) _).mono ?_
  rintro e w1 ⟨rfl, B1⟩
  by_cases hr0 : r = 0
  · have hr' : (r != 0) = false := by simp [hr0]
    have HZ := Lib.hid hr0
    clear hr0
    go_wp2_with fail
    refine (refKind_any _ _).mono ?_
    rintro e w2 ⟨rfl, rfl⟩
    have hd : ldI s[0].toNat = true ∧ ((kindI s[0].toNat != 1) = false ∨ (kindI s[0].toNat != 1) = true ∧ (kindI s[0].toNat != 3) = false) ∨ ldI s[0].toNat = false ∧ (kindI s[0].toNat != 1) = true ∧ (kindI s[0].toNat != 3) = true := by
      by_cases a1 : kindI s[0].toNat = 1
      · exact .inl ⟨ldk1 a1, .inl (by simp [a1])⟩
      · by_cases a3 : kindI s[0].toNat = 3
        · exact .inl ⟨ldk3 (.inr (by simp [a3])), .inr ⟨by simp [a1], by simp [a3]⟩⟩
        · exact .inr ⟨by simp [ldI, a1, a3], by simp [a1], by simp [a3]⟩
    rcases hd with ⟨hh, hd⟩ | ⟨hh, d1, d3⟩
    · have HH := Lib.hid hh
      clear hh
      rcases hd with d1 | ⟨d1, d3⟩
      all_goals
        go_wp2_with fail
        go_loop [4] (fun i => ∃ k : Nat, k ≤ s.size ∧ i = .int .i64 k ∧ ∀ j (h : j < s.size), j < k → kindI s[j].toNat ≤ 4) (fun i => s.size - (intOf i).toNat)
        case atStart => exact ⟨0, Nat.zero_le _, rfl, fun j _ h => absurd h (Nat.not_lt_zero _)⟩
        case round =>
          obtain ⟨k, hk, rfl, hall⟩ := hrel
          have HA := Lib.hid hall
          clear hall
          by_cases hlt : k < s.size
          · by_cases h4 : 4 < kindI s[k].toNat
            · have HN := Lib.hid (not_word_kind hlt h4)
              go_wp2_with (go_at_call 101; refine (refKind_any _ _).mono ?_; rintro e w' ⟨rfl, rfl⟩)
              go_ret
              exact ⟨ret_bool HN.out.symm, B1⟩
            · go_wp2_with (go_at_call 101; refine (refKind_any _ _).mono ?_; rintro e w' ⟨rfl, rfl⟩)
              go_round
              case rel => exact ⟨k + 1, by omega, by go_num, fun j hj hjk => below_step HA.out (by omega) j hj hjk⟩
              case measure => simp [intOf]; omega
          · have HW := Lib.hid (word_of h0 h HH.out (by rw [HR.out]; exact HZ.out) (fun j hj => by have := HA.out j hj (by omega); omega))
            go_wp2
            go_ret
            exact ⟨ret_bool HW.out.symm, B1⟩
    · have HN := Lib.hid (not_word_head h0 hh)
      clear hh
      go_wp2_with fail
      go_ret
      exact ⟨ret_bool HN.out.symm, B1⟩
  · have hr' : (r != 0) = true := by simp [hr0]
    have HN := Lib.hid (not_word_chk (l := s.data.toList) (by rw [HR.out]; exact hr0))
    clear hr0
    go_wp2
    go_ret
    exact ⟨ret_bool HN.out.symm, B1⟩
theorem refWord_any (s : ByteArray) (w : World) :
    Calls Tryz.prog 109 #[.string s] w fun e w' => e = .returned (.bool (wordB s.data.toList)) ∧ Below w.heap.size w w' := by
  by_cases h : s.size = 0 ∨ 64 < s.size
  · exact refWord_no s h w
  · exact refWord_some s (by omega) (by omega) w
theorem refWord_at (s : ByteArray) (r : Bool) (h : wordB s.data.toList = r) (w : World) : Calls Tryz.prog 109 #[.string s] w fun e w' => e = .returned (.bool r) ∧ Below w.heap.size w w' := by
  subst h; exact refWord_any s w
theorem refLetters_at (s : ByteArray) (n : Int) (h : (lettersN s.data.toList : Int) = n) (hs : s.size ≤ maxLen) (w : World) :
    Calls Tryz.prog 127 #[.string s] w fun e w' => e = .returned (.int .i64 n) ∧ w = w' := by subst h; exact refLetters_any s hs w
set_option maxHeartbeats 400000 in
theorem refName_any (s : ByteArray) (hs : s.size ≤ maxLen) (w : World) :
    Calls Tryz.prog 108 #[.string s] w fun e w' => e = .returned (.bool (nameB s.data.toList)) ∧ Below w.heap.size w w' := by
  by_cases h16 : s.size ≤ 16
  · obtain ⟨b, hb⟩ : ∃ b, wordB s.data.toList = b := ⟨_, rfl⟩
    obtain ⟨n, hn⟩ : ∃ n, lettersN s.data.toList = n := ⟨_, rfl⟩
    have hname : nameB s.data.toList = (b && ((n : Int) == (s.size : Int))) := by
      rw [Bool.eq_iff_iff]
      constructor
      · intro h
        obtain ⟨h1, h2, _⟩ := name_word h
        rw [← hb, h1, ← hn, h2, size_list]; simp
      · intro h
        simp only [Bool.and_eq_true, beq_iff_eq] at h
        obtain ⟨l1, _, _, _⟩ := wordB_split (hb.trans h.1)
        rw [size_list] at l1
        have e : lettersN s.data.toList = s.size := by rw [hn]; omega
        rw [nameB, size_list, e]; simp [l1, h16]
    have HB := Lib.hid hb
    have HN := Lib.hid hname
    have hi : (s.size : Int) ≤ 16 := by omega
    have hn' : (lettersN s.data.toList : Int) = (n : Int) := by rw [hn]
    have HL := Lib.hid hn'
    clear hb hname hn hn'
    go_enter Tryz.func108, Tryz.ntmps108
    go_wp2_with fail
    refine (refWord_at s b HB.out _).mono ?_
    rintro e w1 ⟨rfl, B1⟩
    cases b with
    | false =>
      go_wp2_with fail
      go_ret
      exact ⟨ret_bool (by rw [HN.out]; rfl), B1⟩
    | true =>
      go_wp2_with fail
      refine (refLetters_at s n HL.out hs _).mono ?_
      rintro e w2 ⟨rfl, rfl⟩
      go_wp2_with fail
      go_ret
      exact ⟨ret_bool (by rw [HN.out]; rfl), B1⟩
  · have hi : ¬ (s.size : Int) ≤ 16 := by omega
    have hr : nameB s.data.toList = false := by rw [nameB, size_list]; simp [h16]
    rw [hr]
    clear hr h16
    go_enter Tryz.func108, Tryz.ntmps108
    go_wp2_with fail
    go_ret
    exact ⟨rfl, Below.refl _ _⟩
end Go.Proofs.YtmfcepfagbkceaaGreatDoor.R01
