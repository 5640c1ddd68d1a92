/- Stage 10 (transcript): MkPN, put together by merge10.py. -/
import Derived.Test.YtmfcepfagbkceaaGreatDoorOd2
import Derived.Test.YtmfcepfagbkceaaGreatDoorOd3
namespace Go.Proofs.YtmfcepfagbkceaaGreatDoor
set_option linter.unusedSimpArgs false
set_option linter.unusedVariables false
set_option maxRecDepth 100000
open Go.RowKit Go.Deep
theorem cellT_lt' {w : World} {g i : Nat} {v : Value} (h : w.cell? ⟨g, i, none⟩ = some v) : g < w.heap.size := cellT_lt h
theorem toL (l : Bs) : (baL l).toList = l := by rw [ByteArray.toList_eq]; rfl
def AtoiPost (l : Bs) (w : World) (e : Ending) (w' : World) : Prop :=
  (∃ n : Int, Lib.atoiAll l = .ok n ∧ e = .returned (.tuple #[.int .i64 n, .nilIface]) ∧ Below w.heap.size w w') ∨
  (∃ (n : Int) (t : TypeId) (p : Value), (∀ m, Lib.atoiAll l ≠ .ok m) ∧ e = .returned (.tuple #[.int .i64 n, .iface t p]) ∧ Below w.heap.size w w')
theorem atoi_any (s : Bs) (hs : s.length ≤ 1048576) (w : World) [hT : T w] :
    Calls Tryz.prog 95 #[sV s] w (AtoiPost s w) := by
  cases h : Lib.atoiAll s with
  | ok v =>
    refine (Tryz.strconv_Atoi_ok (baL s) (by rw [baL_size]; omega) v h w).mono fun e w' ⟨h1, h2⟩ => .inl ⟨v, h, h1, ?_⟩
    rcases h2 with rfl | ⟨t, rfl⟩
    · exact Below.refl _ _
    · exact Joins.below_bytesWorld _ _ _ _ (Nat.le_refl _)
  | «syntax» =>
    obtain ⟨te, pe, hv⟩ := hT.syn
    refine (Tryz.strconv_Atoi_syntax (baL s) (by rw [baL_size]; omega) h _ w hv (.inr ⟨_, _, rfl⟩)).mono fun e w' ⟨N, h1, _, _, h2⟩ => .inr ⟨0, _, _, ?_, h1, h2⟩
    intro m hm; rw [h] at hm; cases hm
  | range =>
    obtain ⟨te, pe, hv⟩ := hT.ran
    refine (Tryz.strconv_Atoi_range (baL s) (by rw [baL_size]; omega) h _ w hv (.inr ⟨_, _, rfl⟩)).mono fun e w' ⟨N, h1, _, _, h2⟩ => .inr ⟨_, _, _, ?_, h1, h2⟩
    intro m hm; rw [h] at hm; cases hm
theorem itoa_any (i : Nat) (hi : i < 100) (w : World) : Calls Tryz.prog 74 #[intV i] w fun e w' => e = .returned (sV (ddN i)) ∧ w' = w := by
  have := Tryz.strconv_Itoa_small i hi w
  rw [dd_eq hi] at this
  exact this
set_option maxHeartbeats 1000000 in
theorem isNum_any (m : Nat) (hm : m < 100) (B : Nat) (v : Bs) (r : Bool) (hr : numB m v = r) (hv : v.length ≤ 1048576) (w : World) [T w] (hB : w.cell? ⟨B, 0, none⟩ = some (intV m)) :
    Calls Tryz.prog 183 #[sV v, .pointer (some ⟨B, 0, none⟩)] w fun e w' => e = .returned (.bool r) ∧ Below w.heap.size w w' := by
  have HA := Lib.hid (atoi_any v hv w)
  have HR := Lib.hid hr
  have hvz : (baL v).size = v.length := baL_size v
  have hvl : (baL v).toList = v := toL v
  obtain ⟨z, hz⟩ : ∃ z, baL v = z := ⟨_, rfl⟩
  show Calls Tryz.prog _ #[.string (baL v), _] w _
  rw [show sV v = .string (baL v) from rfl, hz] at HA
  rw [hz] at hvz hvl ⊢
  have HV := Lib.hid hvl
  have HBB := Lib.hid hB
  clear hr hz hB hvl
  go_enter Tryz.func183, Tryz.ntmps183
  go_wp2_with fail
  refine HA.out.mono ?_
  rintro e w1 (⟨n, hn, rfl, h1⟩ | ⟨n, t, p, hn, rfl, h1⟩)
  · have hb1 := (h1.cell (p := ⟨B, 0, none⟩) (cellT_lt HBB.out)).trans HBB.out
    have H1 := Lib.hid h1
    have HN := Lib.hid (num_ok hm hn)
    clear h1 hn
    by_cases g1 : 1 ≤ n
    · by_cases g2 : n ≤ (m : Int)
      · obtain ⟨i, rfl⟩ : ∃ i : Nat, n = (i : Int) := ⟨n.toNat, by omega⟩
        have HI := Lib.hid (itoa_any i (by omega) w1)
        have q1 : decide ((1 : Int) ≤ (i : Int)) = true := decide_eq_true g1
        have q2 : decide ((i : Int) ≤ (m : Int)) = true := decide_eq_true g2
        have q3 : i ≤ m := by omega
        have q4 : 1 ≤ i := by omega
        have hnb := HN.out
        rw [q1, q2, Bool.true_and, Bool.true_and, HR.out, show ((i : Nat) : Int).toNat = i from rfl] at hnb
        obtain ⟨y, hy⟩ : ∃ y, baL (ddN i) = y := ⟨_, rfl⟩
        have hyl : y.toList = ddN i := by rw [← hy]; exact toL _
        have heq : (y.toList == z.toList) = r := by rw [hyl, HV.out, hnb, Bool.eq_iff_iff]; simp
        rw [show sV (ddN i) = .string (baL (ddN i)) from rfl, hy] at HI
        clear hy hyl hnb g1 g2
        go_wp2_with fail
        refine HI.out.mono ?_
        rintro e w2 ⟨rfl, rfl⟩
        go_wp2
        go_ret
        exact ⟨rfl, H1.out⟩
      · have q1 : decide ((1 : Int) ≤ n) = true := decide_eq_true g1
        have q2 : decide (n ≤ (m : Int)) = false := decide_eq_false g2
        have hr : r = false := by rw [← HR.out, HN.out, q2, Bool.false_and, Bool.and_false]
        have HRR := Lib.hid hr
        clear g1 g2 hr
        go_wp2
        go_ret
        exact ⟨ret_bool HRR.out.symm, H1.out⟩
    · have q1 : decide ((1 : Int) ≤ n) = false := decide_eq_false g1
      have hr : r = false := by rw [← HR.out, HN.out, q1, Bool.false_and]
      have HRR := Lib.hid hr
      clear g1 hr
      go_wp2
      go_ret
      exact ⟨ret_bool HRR.out.symm, H1.out⟩
  · have hr : r = false := by rw [← HR.out]; exact num_no hm hn
    have HRR := Lib.hid hr
    have H1 := Lib.hid h1
    clear hn hr h1
    go_wp2
    go_ret
    exact ⟨ret_bool HRR.out.symm, H1.out⟩
set_option maxHeartbeats 400000 in
theorem isNone_any (v : Bs) (r : Bool) (hr : decide (v = []) = r) (w : World) :
    Calls Tryz.prog 165 #[sV v] w fun e w' => e = .returned (.bool r) ∧ w' = w := by
  have hvl : (baL v).toList.isEmpty = r := by rw [toL, ← hr]; cases v <;> simp
  clear hr
  show Calls Tryz.prog _ #[.string (baL v)] w _
  obtain ⟨z, hz⟩ : ∃ z, baL v = z := ⟨_, rfl⟩
  rw [hz] at hvl ⊢
  clear hz
  go_enter Tryz.func165, Tryz.ntmps165
  go_wp2
  go_ret
  exact ⟨rfl, rfl⟩
set_option maxHeartbeats 400000 in
theorem numTo_any (n : Int) (w : World) :
    Calls Tryz.prog 178 #[intV n] w fun e w' => e = .returned (.func (.func 183) #[] #[.pointer (some ⟨w.heap.size, 0, none⟩)]) ∧ w' = w.alloc (.cells #[intV n] 3) := by
  go_enter Tryz.func178, Tryz.ntmps178
  go_wp2
  go_ret
  exact ⟨rfl, rfl⟩
def IsVal (N : Nat) (n : Bs) (fv : Value) (w : World) : Prop :=
  ∃ (f : FuncId) (lb : Array Value) (B : Nat), fv = .func (.func f) #[] lb ∧ (∀ args W, Sem.run Tryz.prog (callFunc f args) W = .ok (.enter f args) W) ∧ N ≤ B ∧
    ∀ (v : Bs) (r : Bool) (W : World) [T W], rightB n v = r → v.length ≤ 1048576 → (∀ c, w.cell? ⟨B, 0, none⟩ = some c → W.cell? ⟨B, 0, none⟩ = some c) → Calls Tryz.prog f (#[sV v] ++ lb) W fun e w' => e = .returned (.bool r) ∧ Below W.heap.size W w'
theorem IsVal.keep {N : Nat} {n : Bs} {fv : Value} {w w' : World} (h : IsVal N n fv w) (hk : ∀ k, N ≤ k → k < w.heap.size → w'.heap[k]? = w.heap[k]?) : IsVal N n fv w' := by
  obtain ⟨f, lb, B, h1, h2, h3, h4⟩ := h
  refine ⟨f, lb, B, h1, h2, h3, fun v r W hT hr hv hb => h4 v r W hr hv (fun c hc => hb c ?_)⟩
  have := hk B h3 (cellT_lt hc)
  unfold World.cell? at hc ⊢
  rw [this]
  exact hc
theorem IsVal.below {N : Nat} {n : Bs} {fv : Value} {w w' : World} (h : IsVal N n fv w) (hB : Below w.heap.size w w') : IsVal N n fv w' := h.keep fun k _ hk => hB.block k hk
theorem IsVal.any {N : Nat} {n : Bs} {fv : Value} {w : World} (h : IsVal N n fv w) : IsVal 0 n fv w := by
  obtain ⟨f, lb, B, h1, h2, h3, h4⟩ := h
  exact ⟨f, lb, B, h1, h2, Nat.zero_le _, h4⟩
theorem val_none {N : Nat} {n : Bs} (h : n = tLb ∨ n = tV ∨ n = tUn) (w : World) : IsVal N n (.func (.func 165) #[] #[]) w :=
  ⟨_, _, N, rfl, Tryz.call165, Nat.le_refl _, fun v r W _ hr hv _ => (isNone_any v r (by rw [← hr, rightB, if_pos h]) W).mono fun e w' ⟨h1, h2⟩ => ⟨h1, by rw [h2]; exact Below.refl _ _⟩⟩
theorem val_word {N : Nat} (w : World) : IsVal N tAb (.func (.func 126) #[] #[]) w :=
  ⟨_, _, N, rfl, Tryz.call126, Nat.le_refl _, fun v r W _ hr hv _ => by
    have := C01.word_any (baL v) W
    rw [baL_data] at this
    rw [← hr, show rightB tAb v = wordB v by rfl]
    exact this⟩
theorem val_name {N : Nat} {n : Bs} (h : n = tName ∨ n = tPb ∨ n = tSec) (w : World) : IsVal N n (.func (.func 125) #[] #[]) w :=
  ⟨_, _, N, rfl, Tryz.call125, Nat.le_refl _, fun v r W _ hr hv _ => by
    have := C01.name_any (baL v) (by rw [baL_size]; unfold maxLen; omega) W
    rw [baL_data] at this
    have e : rightB n v = nameB v := by rcases h with rfl | rfl | rfl <;> rfl
    rw [← hr, e]
    exact this.mono fun e w' ⟨h1, h2⟩ => ⟨h1, by rw [← h2]; exact Below.refl _ _⟩⟩
theorem val_num {N : Nat} {n : Bs} {m : Nat} (h : ((n = tAdd ∨ n = tDel) ∧ m = 8) ∨ (n = tGap ∧ m = 64)) {B : Nat} {w : World} (hN : N ≤ B) (hB : w.cell? ⟨B, 0, none⟩ = some (intV m)) : IsVal N n (.func (.func 183) #[] #[.pointer (some ⟨B, 0, none⟩)]) w :=
  ⟨_, _, B, rfl, Tryz.call183, hN, fun v r W hT hr hv hb => by
    have e : rightB n v = numB m v := by rcases h with ⟨rfl | rfl, rfl⟩ | ⟨rfl, rfl⟩ <;> rfl
    exact isNum_any m (by rcases h with ⟨_, rfl⟩ | ⟨_, rfl⟩ <;> decide) B v r (by rw [← e]; exact hr) hv W (hb _ hB)⟩
def TagsAt (N g : Nat) (w : World) : Prop := g < w.heap.size ∧ ∀ j (h : j < tagsL.length), ∃ fv, w.cell? ⟨g, j * 3, none⟩ = some (sV tagsL[j]) ∧ w.cell? ⟨g, j * 3 + 1, none⟩ = some (.bool (emptyT tagsL[j])) ∧ w.cell? ⟨g, j * 3 + 2, none⟩ = some fv ∧ IsVal N tagsL[j] fv w
def tagCells (n : Nat) : Array Value :=
  #[sV tAb, .bool false, .func (.func 126) #[] #[], sV tAdd, .bool false, .func (.func 183) #[] #[.pointer (some ⟨n, 0, none⟩)],
    sV tDel, .bool false, .func (.func 183) #[] #[.pointer (some ⟨n + 1, 0, none⟩)], sV tGap, .bool true, .func (.func 183) #[] #[.pointer (some ⟨n + 1 + 1, 0, none⟩)],
    sV tLb, .bool true, .func (.func 165) #[] #[], sV tName, .bool false, .func (.func 125) #[] #[], sV tPb, .bool true, .func (.func 125) #[] #[],
    sV tSec, .bool true, .func (.func 125) #[] #[], sV tUn, .bool false, .func (.func 165) #[] #[], sV tV, .bool true, .func (.func 165) #[] #[]]
def tagWorld (w : World) : World := (((w.alloc (.cells #[intV 8] 3)).alloc (.cells #[intV 8] 3)).alloc (.cells #[intV 64] 3)).alloc (.cells (tagCells w.heap.size) 135)
theorem tagWorld_below (w : World) : Below w.heap.size w (tagWorld w) :=
  ((((Below.refl _ w).alloc (Nat.le_refl _) _).alloc (by simp) _).alloc (by simp; omega) _).alloc (by simp; omega) _
theorem cell_new0 (w : World) (cs : Array Value) (t : TypeId) (n j : Nat) (h : n = w.heap.size) : (w.alloc (.cells cs t)).cell? ⟨n, j, none⟩ = cs[j]? := by subst h; exact World.cell?_alloc_new w cs t j
theorem cell_old0 {w : World} {b j : Nat} {v : Value} (h : w.cell? ⟨b, j, none⟩ = some v) (o : Obj) : (w.alloc o).cell? ⟨b, j, none⟩ = some v := ((below_alloc w o).cell (cellT_lt' h)).trans h
theorem tags_at (w : World) : TagsAt w.heap.size (w.heap.size + 1 + 1 + 1) (tagWorld w) := by
  have hc : ∀ j, (tagWorld w).cell? ⟨w.heap.size + 1 + 1 + 1, j, none⟩ = (tagCells w.heap.size)[j]? := fun j => cell_new0 _ _ _ _ _ (by simp)
  have b1 : (tagWorld w).cell? ⟨w.heap.size, 0, none⟩ = some (intV (8 : Nat)) := cell_old0 (cell_old0 (cell_old0 (cell_new0 w _ _ _ 0 rfl) _) _) _
  have b2 : (tagWorld w).cell? ⟨w.heap.size + 1, 0, none⟩ = some (intV (8 : Nat)) := cell_old0 (cell_old0 (cell_new0 _ _ _ _ 0 (by simp)) _) _
  have b3 : (tagWorld w).cell? ⟨w.heap.size + 1 + 1, 0, none⟩ = some (intV (64 : Nat)) := cell_old0 (cell_new0 _ _ _ _ 0 (by simp)) _
  refine ⟨by simp [tagWorld], fun j h => ?_⟩
  match j, h with
  | 0, _ => exact ⟨_, hc 0, hc 1, hc 2, val_word _⟩
  | 1, _ => exact ⟨_, hc 3, hc 4, hc 5, val_num (.inl ⟨.inl rfl, rfl⟩) (Nat.le_refl _) b1⟩
  | 2, _ => exact ⟨_, hc 6, hc 7, hc 8, val_num (.inl ⟨.inr rfl, rfl⟩) (by omega) b2⟩
  | 3, _ => exact ⟨_, hc 9, hc 10, hc 11, val_num (.inr ⟨rfl, rfl⟩) (by omega) b3⟩
  | 4, _ => exact ⟨_, hc 12, hc 13, hc 14, val_none (.inl rfl) _⟩
  | 5, _ => exact ⟨_, hc 15, hc 16, hc 17, val_name (.inl rfl) _⟩
  | 6, _ => exact ⟨_, hc 18, hc 19, hc 20, val_name (.inr (.inl rfl)) _⟩
  | 7, _ => exact ⟨_, hc 21, hc 22, hc 23, val_name (.inr (.inr rfl)) _⟩
  | 8, _ => exact ⟨_, hc 24, hc 25, hc 26, val_none (.inr (.inr rfl)) _⟩
  | 9, _ => exact ⟨_, hc 27, hc 28, hc 29, val_none (.inr (.inl rfl)) _⟩
set_option maxHeartbeats 1000000 in
theorem tags_any (w : World) :
    Calls Tryz.prog 161 #[] w fun e w' => ∃ g, e = .returned (.slice (some ⟨g, 0, none⟩) 10 10) ∧ TagsAt w.heap.size g w' ∧ w.heap.size ≤ g ∧ Below w.heap.size w w' := by
  go_enter Tryz.func161, Tryz.ntmps161
  go_wp2_with fail
  refine (numTo_any _ _).mono ?_
  rintro e w1 ⟨rfl, rfl⟩
  go_wp2_with fail
  refine (numTo_any _ _).mono ?_
  rintro e w2 ⟨rfl, rfl⟩
  go_wp2_with fail
  refine (numTo_any _ _).mono ?_
  rintro e w3 ⟨rfl, rfl⟩
  go_wp2
  go_ret
  exact ⟨_, rfl, tags_at w, by omega, tagWorld_below w⟩
end Go.Proofs.YtmfcepfagbkceaaGreatDoor
