/- parseDigits of layer 2: the number of a list of digits, or some number that is too great. -/
import Derived.Test.YtkiaiiepfphllaaDoorFpIter
namespace Go.Proofs.YtkiaiiepfphllaaDoor
set_option linter.unusedSimpArgs false
set_option linter.unusedVariables false
set_option maxRecDepth 100000
open Go.RowKit Go.Shelf
attribute [local go_sem] Oper.semAt_some wide_fn

/-- the number with these digits -/
def numV (l : List UInt8) : Int := l.foldl (fun n c => 10 * n + ((c.toNat : Int) - 48)) 0
theorem numV_snoc (l : List UInt8) (c : UInt8) : numV (l ++ [c]) = 10 * numV l + ((c.toNat : Int) - 48) := by simp [numV]
def allDig (l : List UInt8) : Bool := l.all fun c => digI c.toNat
theorem digI_bd {c : Int} (h : digI c = true) : 48 ≤ c ∧ c ≤ 57 := by simpa [digI] using h
theorem fold_ge : ∀ (l : List UInt8) (n : Int), allDig l = true → 0 ≤ n → n ≤ l.foldl (fun n c => 10 * n + ((c.toNat : Int) - 48)) n := by
  intro l
  induction l with
  | nil => intro n _ _; exact Int.le_refl _
  | cons c l ih =>
    intro n h hn
    rw [allDig, List.all_cons, Bool.and_eq_true] at h
    have hb := digI_bd h.1
    rw [List.foldl_cons]
    exact Int.le_trans (by omega) (ih _ h.2 (by omega))
theorem numV_nonneg {l : List UInt8} (h : allDig l = true) : 0 ≤ numV l := fold_ge l 0 h (Int.le_refl _)
theorem numV_append (a b : List UInt8) : numV (a ++ b) = b.foldl (fun n c => 10 * n + ((c.toNat : Int) - 48)) (numV a) := by simp [numV]
theorem allDig_append {a b : List UInt8} : allDig (a ++ b) = (allDig a && allDig b) := List.all_append
theorem numV_mono {a b : List UInt8} (h : allDig (a ++ b) = true) : numV a ≤ numV (a ++ b) := by
  rw [allDig_append, Bool.and_eq_true] at h
  rw [numV_append]
  exact fold_ge b _ h.2 (numV_nonneg h.1)
theorem prsK_snd (l : List UInt8) (k : Nat) (hk : k ≤ l.length) : (prsK l k).map (·.2) = l.take k := by
  apply List.ext_getElem?
  intro i
  rw [prsK, List.map_map, List.getElem?_map]
  by_cases hi : i < k
  · rw [List.getElem?_take, if_pos hi, List.getElem?_range hi]
    simp [List.getElem?_eq_getElem (show i < l.length by omega)]
  · rw [List.getElem?_take, if_neg hi, List.getElem?_eq_none (by simpa using hi)]
    rfl
theorem prs_snd (l : List UInt8) : (prs l).map (·.2) = l := by rw [prs, prsK_snd l _ (Nat.le_refl _), List.take_length]

/-- a byte less 48, as bytes are subtracted -/
def dB (c : Int) : Int := IntKind.u8.wrap (c - 48)
theorem dB_bd (c : Int) : 0 ≤ dB c ∧ dB c ≤ 255 := by
  have h : dB c = (c - 48) % 256 := by simp [dB, IntKind.wrap, IntKind.signed, IntKind.bits]
  rw [h]; omega
theorem dB_dig {c : Int} (h : digI c = true) : dB c = c - 48 := by
  have hb := digI_bd h
  have h : dB c = (c - 48) % 256 := by simp [dB, IntKind.wrap, IntKind.signed, IntKind.bits]
  rw [h]; omega
def numW (l : List UInt8) : Int := l.foldl (fun n c => 10 * n + dB c.toNat) 0
theorem numW_snoc (l : List UInt8) (c : UInt8) : numW (l ++ [c]) = 10 * numW l + dB c.toNat := by simp [numW]
theorem numW_nonneg : ∀ (l : List UInt8), 0 ≤ numW l := by
  have h : ∀ (l : List UInt8) (n : Int), 0 ≤ n → 0 ≤ l.foldl (fun n c => 10 * n + dB c.toNat) n := by
    intro l
    induction l with
    | nil => intro n h; exact h
    | cons c l ih => intro n h; exact ih _ (by have := dB_bd c.toNat; show 0 ≤ 10 * n + dB c.toNat; omega)
  exact fun l => h l 0 (Int.le_refl _)
theorem numW_dig {l : List UInt8} (h : allDig l = true) : numW l = numV l := by
  have g : ∀ (l : List UInt8) (n : Int), allDig l = true → l.foldl (fun n c => 10 * n + dB c.toNat) n = l.foldl (fun n c => 10 * n + ((c.toNat : Int) - 48)) n := by
    intro l
    induction l with
    | nil => intro n _; rfl
    | cons c l ih =>
      intro n h
      rw [allDig, List.all_cons, Bool.and_eq_true] at h
      rw [List.foldl_cons, List.foldl_cons, dB_dig h.1]
      exact ih _ h.2
  exact g l 0 h
def preV (pre : List (Nat × UInt8)) : Int := numW (pre.map (·.2))
theorem preV_snoc (pre : List (Nat × UInt8)) (x : Nat × UInt8) : preV (pre ++ [x]) = 10 * preV pre + dB x.2.toNat := by rw [preV, List.map_append]; exact numW_snoc _ _
theorem preV_nonneg (pre : List (Nat × UInt8)) : 0 ≤ preV pre := numW_nonneg _
theorem preV_prs {l : List UInt8} (h : allDig l = true) : preV (prs l) = numV l := by rw [preV, prs_snd, numW_dig h]
theorem preV_prefix {l : List UInt8} {pre : List (Nat × UInt8)} (h : allDig l = true) (hp : pre <+: prs l) : preV pre ≤ numV l := by
  obtain ⟨t, ht⟩ := hp
  have e := congrArg (List.map (·.2)) ht
  rw [prs_snd, List.map_append] at e
  rw [← e] at h ⊢
  rw [preV, numW_dig (by rw [allDig_append, Bool.and_eq_true] at h; exact h.1)]
  exact numV_mono h

/-- what parseDigits leaves -/
def DigsPost (l : List UInt8) (w : World) (e : Ending) (w' : World) : Prop :=
  ∃ r : Int, e = .returned (.int .i64 r) ∧ 0 ≤ r ∧ r ≤ 10737418495 ∧ (numV l ≤ 1073741824 → r = numV l) ∧ (1073741824 < numV l → 1073741824 < r) ∧ Below w.heap.size w w'

set_option maxHeartbeats 2000000 in
theorem digits_any (s : ByteArray) (hs : s.size ≤ maxLen) (hd : allDig s.data.toList = true) (w : World) :
    Calls Tryd.prog 35 #[.string s] w (DigsPost s.data.toList w) := by
  have HD := Lib.hid hd
  clear hd
  refine (callsIn_wide (n := 9)).1 ?_
  refine callsIn_of_wp_marks Tryd.func35 rfl trivial ?_ rfl
  simp only [Tryd.ntmps35, List.size_toArray, List.length_cons, List.length_nil, Nat.reduceAdd, Nat.reduceSub, Array.replicate_succ, Array.replicate_zero, List.push_toArray, List.append_toArray, List.nil_append, List.cons_append]
  gi_wp2_with (gi_at_call 54; refine (callsIn_wide.2 (chars_in s _)).mono ?_; rintro e w' ⟨rfl, rfl⟩)
  have bN := Boxed.new w 3 (.int .i64 0)
  have bS := Boxed.new (w.alloc (.cells #[.int .i64 0] 3)) 9 (.string s)
  rw [World.size_alloc] at bS
  refine wpIn_rangeFunc_ownG rfl (by omega) (gf := 71) (lb := #[.pointer (some ⟨w.heap.size + 1, 0, none⟩)]) rfl trivial (enters_of Tryd.func71 (by kernel_rfl) rfl)
    (chars_stops (w.heap.size + 1) w.heap.size s hs _ (by simp) bS.cell) KB.t (KB.b (by simp; omega) (by simp)) (Below.refl _ _) (fun _ => rfl)
    (fun pre W => (Boxed W w.heap.size 3 (.int .i64 (preV pre)) ∧ preV pre ≤ 1073741824) ∧ Below w.heap.size w W)
    (fun c pre W => (Boxed W w.heap.size 3 (.int .i64 (preV pre)) ∧ c = .exit 0 ∧ 1073741824 < preV pre ∧ preV pre ≤ 10737418495) ∧ Below w.heap.size w W)
    (OwnFrom.and (OwnFrom.and (Own.from (boxed_own _ _ _) _) (ownFrom_pure _ _)) (ownFrom_below (Nat.le_refl _) (by simp; omega)))
    (fun c => OwnFrom.and (OwnFrom.and (Own.from (boxed_own _ _ _) _) (ownFrom_pure _ _)) (ownFrom_below (Nat.le_refl _) (by simp; omega)))
    ⟨⟨bN.alloc _, by decide⟩, ((Below.refl _ _).alloc (Nat.le_refl _) _).alloc (by simp) _⟩
    (fun x => { tmps := #[.string s, undef, .int .i64 0, .pointer (some ⟨w.heap.size, 0, none⟩), undef, .int .u8 x.2.toNat, .string s, .func (.func 71) #[] #[.pointer (some ⟨w.heap.size + 1, 0, none⟩)], .int .i64 x.1, .int .u8 x.2.toNat, undef, undef, undef, undef, undef, undef, undef, undef, undef], defers := [] }) ?assign ?body ?done ?stop
  case assign =>
    intro l x W K hK
    gi_wp2
    exact hK
  case body =>
    rintro l pre x W ⟨⟨hb, hle⟩, hB⟩ hlt
    have HSN := Lib.hid (preV_snoc pre x)
    have h0 := preV_nonneg pre
    obtain ⟨v, hv⟩ : ∃ v, preV pre = v := ⟨_, rfl⟩
    rw [hv] at hb hle h0
    have HV := Lib.hid hv
    clear hv
    have hc := hb.cell
    have hf := hb.frozen
    obtain ⟨d, hd⟩ : ∃ d, dB x.2.toNat = d := ⟨_, rfl⟩
    obtain ⟨d0, d1⟩ := dB_bd x.2.toNat
    rw [hd] at d0 d1
    have HD2 := Lib.hid hd
    have hdd : IntKind.u8.wrap ((x.2.toNat : Int) - 48) = d := hd
    clear hd
    have HKB := Lib.hid (show KB (w.heap.size + 1) w.heap.size W (W.setCell ⟨w.heap.size, 0, none⟩ (.int .i64 (10 * v + d))) from ⟨(Below.refl _ _).setCell (p := ⟨w.heap.size, 0, none⟩) (Nat.le_refl _) _, World.cell?_setCell_other _ _ _ _ (fun e => by have := congrArg Addr.block e; simp at this)⟩)
    by_cases hg : 1073741824 < 10 * v + d
    · gi_wp2
      exact ⟨(KeepsOthers.setCell _ _ _).from _, ⟨by rw [HSN.out, HV.out, HD2.out]; exact hb.set _, rfl, by rw [HSN.out, HV.out, HD2.out]; omega, by rw [HSN.out, HV.out, HD2.out]; omega⟩, hB.setCell (p := ⟨w.heap.size, 0, none⟩) (Nat.le_refl _) _⟩
    · gi_wp2
      exact ⟨(KeepsOthers.setCell _ _ _).from _, HKB.out, ⟨by rw [HSN.out, HV.out, HD2.out]; exact hb.set _, by rw [HSN.out, HV.out, HD2.out]; omega⟩, hB.setCell (p := ⟨w.heap.size, 0, none⟩) (Nat.le_refl _) _⟩
  case done =>
    rintro D xs W hD rfl ⟨⟨hb, hle⟩, hB⟩ hK
    rw [preV_prs HD.out] at hb hle
    have h0 := numV_nonneg HD.out
    obtain ⟨v, hv⟩ : ∃ v, numV s.data.toList = v := ⟨_, rfl⟩
    rw [hv] at hb hle h0
    have HV := Lib.hid hv
    clear hv
    have hc := hb.cell
    gi_wp2
    refine ⟨by simp, .inl ⟨_, _, rfl, run_takeDeferred hK, ?_⟩⟩
    exact ⟨.int .i64 v, by simp [results, Tryd.f35, go_sem], ⟨v, rfl, h0, by omega, fun _ => HV.out.symm, fun h => by rw [HV.out] at h; omega, fin_below hB (by simp; omega) hD hK⟩⟩
  case stop =>
    rintro D c pre W hD hpre ⟨⟨hb, rfl, hgt, hle⟩, hB⟩ hK
    have hp := preV_prefix HD.out hpre
    obtain ⟨v, hv⟩ : ∃ v, preV pre = v := ⟨_, rfl⟩
    rw [hv] at hb hle hgt hp
    clear hv
    have HP := Lib.hid hp
    clear hp
    have hc := hb.cell
    gi_wp2
    refine ⟨by simp, .inl ⟨_, _, rfl, run_takeDeferred hK, ?_⟩⟩
    exact ⟨.int .i64 v, by simp [results, Tryd.f35, go_sem], ⟨v, rfl, by omega, by omega, fun h => by have := HP.out; omega, fun _ => hgt, fin_below hB (by simp; omega) hD hK⟩⟩
end Go.Proofs.YtkiaiiepfphllaaDoor
