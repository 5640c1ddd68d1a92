/- The reference of Clusters. -/
import Derived.Test.YtelpgjlcagbcjaaRefs
import Derived.IntWalk
namespace Go.Proofs.Ytelpgjlcagbcjaa
set_option linter.unusedSimpArgs false
set_option linter.unusedVariables false
open Go.RowKit

/-- the clusters as the reference grows them -/
def addC (out : List (List UInt8)) (x : UInt8 × Bool) : List (List UInt8) :=
  if x.2 then out.dropLast ++ [out.getLast?.getD [] ++ [x.1]] else out ++ [[x.1]]
def growR (l : List (UInt8 × Bool)) : List (List UInt8) := l.foldl addC []
theorem addC_more (out : List (List UInt8)) (cl : List UInt8) : ∀ ms : List UInt8, (ms.map fun m => (m, true)).foldl addC (out ++ [cl]) = out ++ [cl ++ ms]
  | [] => by simp
  | m :: t => by
    rw [List.map_cons, List.foldl_cons]
    have : addC (out ++ [cl]) (m, true) = out ++ [cl ++ [m]] := by simp [addC]
    rw [this, addC_more out (cl ++ [m]) t]; simp
theorem zip_split {α β : Type} (l : List α) (k : Nat) (a b : List β) (h : (l.take k).length = a.length) : l.zip (a ++ b) = (l.take k).zip a ++ (l.drop k).zip b := by
  rw [← List.zip_append h, List.take_append_drop]
theorem growR_from : ∀ (n : Nat) (l : List UInt8) (out : List (List UInt8)), l.length ≤ n → (l.zip (flags l)).foldl addC out = out ++ clus l
  | 0, l, out, h => by
    have : l = [] := List.length_eq_zero_iff.1 (by omega)
    subst this; simp [clus_nil]
  | n + 1, l, out, h => by
    by_cases hl : l = []
    · subst hl; simp [clus_nil]
    · have hp := fcl_pos hl
      have hle := fcl_le l
      have hlen : (l.take (fcl l)).length = fcl l := by rw [List.length_take]; omega
      have hz : l.zip (flags l) = (l.take (fcl l)).zip (false :: List.replicate (fcl l - 1) true) ++ (l.drop (fcl l)).zip (flags (l.drop (fcl l))) := by
        rw [flags_step hl]
        exact zip_split _ _ _ _ (by rw [hlen, List.length_cons, List.length_replicate]; omega)
      obtain ⟨c, t, hct⟩ := List.exists_cons_of_ne_nil (l := l.take (fcl l)) (by intro e; rw [e] at hlen; simp at hlen; omega)
      have htl : t.length = fcl l - 1 := by rw [hct] at hlen; simp at hlen; omega
      have hzz : ∀ (t : List UInt8), t.zip (List.replicate t.length true) = t.map fun m => (m, true) := by
        intro t
        induction t with
        | nil => rfl
        | cons a r ih => simp [List.replicate_succ, ih]
      rw [hz, List.foldl_append, hct, ← htl, List.zip_cons_cons, List.foldl_cons, hzz]
      have : addC out (c, false) = out ++ [[c]] := by simp [addC]
      rw [this, addC_more, growR_from n _ _ (by rw [List.length_drop]; omega), clus_step hl, hct]; simp
theorem growR_all (l : List UInt8) : growR (l.zip (flags l)) = clus l := by
  rw [growR, growR_from _ l [] (Nat.le_refl _)]; rfl

/-- two rows of different element types lie apart -/
theorem rows_apart {w : World} {b1 b2 : Nat} {e1 e2 : TypeId} {s1 s2 n1 n2 : Nat} {v1 v2 : Value} {x1 x2 : List Value} (h1 : w.ownsRow b1 e1 s1 v1 n1 x1) (h2 : w.ownsRow b2 e2 s2 v2 n2 x2) (hne : e1 ≠ e2) : v1.ownBlock = none ∨ v1.ownBlock ≠ v2.ownBlock := by
  rcases h1.2 with ⟨rfl, _⟩ | ⟨g1, cap1, cur1, rfl, _, hg1, _⟩
  · exact .inl rfl
  · right
    rcases h2.2 with ⟨rfl, _⟩ | ⟨g2, cap2, cur2, rfl, _, hg2, _⟩
    · simp [Value.ownBlock]
    · simp only [Value.ownBlock]
      intro e
      cases e
      rw [hg1] at hg2
      simp only [Option.some.injEq, Obj.cells.injEq] at hg2
      exact hne hg2.2.1

theorem keep_other {w w2 : World} {b1 b2 : Nat} {e1 e2 : TypeId} {s1 s2 n1 n2 : Nat} {v1 v2 : Value} {x1 x2 : List Value} {o : Obj} (h1 : w.ownsRow b1 e1 s1 v1 n1 x1) (h2 : w.ownsRow b2 e2 s2 v2 n2 x2) (hne : e1 ≠ e2) (hg : (w.alloc o).grownBy w2 v2.ownBlock) : w2.ownsRow b1 e1 s1 v1 n1 x1 :=
  (h1.alloc o).kept hg (rows_apart h1 h2 hne)

/-- what has been grown when k bytes are over -/
def grown (l : List UInt8) (k : Nat) : List (List UInt8) := growR ((l.zip (flags l)).take k)
theorem grown_zero (l : List UInt8) : grown l 0 = [] := rfl
theorem grown_all (s : ByteArray) : grown s.data.toList s.size = clus s.data.toList := by
  rw [grown, List.take_of_length_le (by simp [flags, flagsB_length]), growR_all]
theorem grown_succ (s : ByteArray) (k : Nat) (h : k < s.size) : grown s.data.toList (k + 1) = addC (grown s.data.toList k) (s[k], flg false s.data.toList k) := by
  have hz := flag_zip false s.data.toList k (by simpa using h)
  have e : s.data.toList[k]?.getD 0 = s[k] := by
    rw [List.getElem?_eq_getElem (by simpa using h)]; rfl
  rw [e] at hz
  rw [grown, grown, List.take_add_one, flags, hz, growR, growR, List.foldl_append]; rfl
theorem addC_length (out : List (List UInt8)) (x : UInt8 × Bool) : 1 ≤ (addC out x).length := by
  unfold addC; split <;> simp
theorem addC_le (out : List (List UInt8)) (x : UInt8 × Bool) : (addC out x).length ≤ out.length + 1 := by
  unfold addC; split
  · simp
  · simp
theorem grown_pos (s : ByteArray) (k : Nat) (h : k ≤ s.size) (h0 : 0 < k) : 1 ≤ (grown s.data.toList k).length := by
  cases k with
  | zero => omega
  | succ j => rw [grown_succ s j (by omega)]; exact addC_length _ _
theorem grown_le (s : ByteArray) : ∀ k, k ≤ s.size → (grown s.data.toList k).length ≤ k
  | 0, _ => Nat.le_refl _
  | k + 1, h => by
    have ih := grown_le s k (by omega)
    have := addC_le (grown s.data.toList k) (s[k]'(by omega), flg false s.data.toList k)
    rw [grown_succ s k (by omega)]; omega

theorem addC_flat (out : List (List UInt8)) (x : UInt8 × Bool) : (addC out x).flatten = out.flatten ++ [x.1] := by
  unfold addC
  split
  · rcases List.eq_nil_or_concat out with rfl | ⟨a, b, rfl⟩
    · simp
    · simp
  · simp
theorem grown_flat (s : ByteArray) : ∀ k, k ≤ s.size → (grown s.data.toList k).flatten = s.data.toList.take k
  | 0, _ => rfl
  | k + 1, h => by
    rw [grown_succ s k (by omega), addC_flat, grown_flat s k (by omega), take_snoc s k (by omega)]
theorem grown_part (s : ByteArray) (k : Nat) (hk : k ≤ s.size) (j : Nat) : (⟨((grown s.data.toList k)[j]?.getD []).toArray⟩ : ByteArray).size ≤ k := by
  show ((grown s.data.toList k)[j]?.getD []).toArray.size ≤ k
  rw [List.size_toArray]
  cases e : (grown s.data.toList k)[j]? with
  | none => simp
  | some x =>
    have := flat_le (List.mem_of_getElem? e)
    rw [grown_flat s k hk, List.length_take] at this
    simp only [Option.getD_some]; omega
theorem ext_one (s : ByteArray) (k : Nat) (h : k < s.size) : s.extract k (k + 1) = ⟨#[s[k]]⟩ := by
  apply ByteArray.ext
  apply Array.toList_inj.1
  rw [ByteArray.data_extract, Array.toList_extract, List.extract_eq_take_drop, drop_at s k h, Nat.add_sub_cancel_left]
  simp
theorem own_str {w : World} {b : Nat} {v : Value} {n : Nat} {xs : List (List UInt8)} (h : w.ownsRow b 9 1 v n (xs.map strV)) (j : Nat) (hj : j < n) :
    ∃ g cap, v = .slice (some ⟨g, 0, none⟩) n cap ∧ w.cell? ⟨g, j, none⟩ = some (.string ⟨(xs[j]?.getD []).toArray⟩) ∧ w.frozen? ⟨g, j, none⟩ = false ∧ b ≤ g := by
  have hl : xs.length = n := by have := h.1; simpa using this
  have hc := fun g hg => h.cells (g := g) hg
  have hlt := h.lt
  have hfr := fun g cap (e : v = .slice (some ⟨g, 0, none⟩) n cap) => World.ownsRow.frozenAt (e ▸ h) j
  rcases h.2 with ⟨_, h0⟩ | ⟨g, cap, cur, rfl, hb, _⟩
  · omega
  · refine ⟨g, cap, rfl, ?_, hfr g cap rfl, hb⟩
    have hjx : j < xs.length := by omega
    have := hc g rfl j (strV (xs[j]?.getD [])) (by rw [List.getElem?_map, List.getElem?_eq_getElem hjx]; rfl)
    rwa [show (⟨g, 0, none⟩ : Addr).add j = ⟨g, j, none⟩ by unfold Addr.add; split <;> simp_all] at this

theorem grown_set {out : List (List UInt8)} {j : Nat} {c e : ByteArray} {x : UInt8} (hj : out.length = j + 1) (hc : (⟨(out[j]?.getD []).toArray⟩ : ByteArray) = c) (he : e = ⟨#[x]⟩) : (out.map strV).set j (.string (c ++ e)) = (addC out (x, true)).map strV := by
  subst hc he
  rcases List.eq_nil_or_concat out with rfl | ⟨a, b, rfl⟩
  · simp at hj
  · have ha : a.length = j := by simpa using hj
    subst ha
    simp [addC]
    exact ByteArray.mk_append_mk b [x]

set_option maxHeartbeats 2000000 in
theorem refClusters_any (s : ByteArray) (hs : s.size * 16 ≤ 140737488351232) (w : World) :
    Calls Try.prog 28 #[.string s] w (OwnPost 9 ((clus s.data.toList).map strV) w) := by
  obtain ⟨i0, hi, hz0, hz1, hz2⟩ := info_parts info_str
  go_enter Try.func28, Try.ntmps28
  go_wp2_with fail
  refine (right_any s (by omega) _).mono ?_
  rintro e w1 ⟨rv, rfl, hr, h1⟩
  rw [List.length_map, flags_size] at hr
  have hB1 := below_seq ((Below.refl _ w).alloc (Nat.le_refl _) (.cells #[] 9)) h1 (Nat.le_refl _)
  have ho0 := own_below' (World.ownsRow_lit (base := w.heap.size) (e := 9) (size := 1) w #[] 0 (Nat.le_refl _) (by simp [maxLen]) rfl) h1
  have HR := Lib.hid hr
  clear hr h1
  go_wp2_with fail
  go_loopw [3, 5] (fun v i wr => ∃ k : Nat, k ≤ s.size ∧ i = .int .i64 k ∧ wr.ownsRow w.heap.size 9 1 v (grown s.data.toList k).length ((grown s.data.toList k).map strV) ∧ wr.ownsRow (w.heap.size + 1) 4 1 rv s.size ((flags s.data.toList).map Value.bool) ∧ Below w.heap.size w wr)
    (fun _ i _ => s.size - (intOf i).toNat)
  case atStart => exact ⟨0, Nat.zero_le _, rfl, ho0, by simpa using HR.out, hB1⟩
  case round =>
    obtain ⟨k, hk, rfl, hown, hrow, hB⟩ := hrel
    have HO := Lib.hid hown
    have HW := Lib.hid hrow
    clear hown hrow
    have hgl := grown_le s k hk
    by_cases hlt : k < s.size
    · obtain ⟨g, cap, rfl, hcell⟩ := own_bool HW.out k hlt
      obtain ⟨fb, hfb⟩ : ∃ fb, flg false s.data.toList k = fb := ⟨_, rfl⟩
      rw [show (flags s.data.toList)[k]?.getD false = fb from hfb] at hcell
      have hst := grown_succ s k hlt
      rw [hfb] at hst
      have HT := Lib.hid hst
      have HFB := Lib.hid hfb
      clear hst hfb
      cases fb with
      | false =>
        go_wp2_with (at_builtin; refine wpList_append_own _ rfl _ _ 31 rfl w.heap.size 9 i0 (.string ⟨#[]⟩) 1 16 Try.underlying31 hi hz0 hz1 hz2 rfl (by decide) _ _ _ rfl (HO.out.alloc _) ⟨wr.heap.size, 0, none⟩ 1 1 [.string _] rfl rfl (one_news _ _ _ _ rfl) (by simp [Value.oneCell']) (by unfold maxLen; omega) (by omega) (by have := hB.size; simp; omega) ?_; intro v' w2 hown' hgrow hnn; clear hnn; have HO1 := Lib.hid hown'; have HB1 := Lib.hid (own_below hB hB.size HO.out hgrow); have HW1 := Lib.hid (keep_other HW.out HO.out (by decide) hgrow); clear hown' hgrow)
        go_roundw
        case rel =>
          refine ⟨k + 1, by omega, by go_num, ?_, HW1.out, HB1.out⟩
          rw [HT.out]
          have := HO1.out
          rw [ext_one s k hlt] at this
          simpa [addC] using this
        case measure => simp [intOf]; omega
      | true =>
        have hk0 : 0 < k := by
          cases k with
          | zero => have := HFB.out; rw [flg_at s 0 hlt, stB, Bool.and_false] at this; cases this
          | succ j => omega
        obtain ⟨j, hj⟩ : ∃ j, (grown s.data.toList k).length = j + 1 := ⟨(grown s.data.toList k).length - 1, by have := grown_pos s k hk hk0; omega⟩
        have ho := HO.out
        rw [hj] at ho
        obtain ⟨g2, cap2, rfl, hc2, hf2, hg2⟩ := own_str ho j (by omega)
        obtain ⟨c, hc⟩ : ∃ c : ByteArray, (⟨((grown s.data.toList k)[j]?.getD []).toArray⟩ : ByteArray) = c := ⟨_, rfl⟩
        rw [hc] at hc2
        have HC := Lib.hid hc
        have HJ := Lib.hid hj
        have HO' := Lib.hid ho
        have hw1 : IntKind.i64.wrap (j : Int) = (j : Int) := IntWalk.i64_in _ (by omega)
        have hw2 : IntKind.i64.wrap ((k : Int) + 1) = (k : Int) + 1 := IntWalk.i64_in _ (by omega)
        have hjb : 0 ≤ (j : Int) ∧ (j : Int) < (j : Int) + 1 := by omega
        have hcz : c.size ≤ k := by rw [← hc]; exact grown_part s k hk j
        have hadd : ∀ w, (Op.stringOp .add c (s.extract k (k + 1))).run Try.prog w = .ok (.string (c ++ s.extract k (k + 1))) w := fun w => run_string_add_sum w _ _ (by rw [ext_one s k hlt]; show c.size + 1 ≤ _; omega)
        clear hc hj ho HO hgl hg2
        go_wp2_with fail
        go_region
        go_wp2
        go_roundw
        case rel =>
          have st := HO'.out.stored j (.string (c ++ s.extract k (k + 1)))
          refine ⟨k + 1, by omega, by go_num, ?_, ?_, ?_⟩
          · have h1 := World.ownsRow.drew st.1
            have e := grown_set HJ.out HC.out (ext_one s k hlt)
            rw [e] at h1
            have hl : (addC (grown s.data.toList k) (s[k], true)).length = j + 1 := by simp [addC, HJ.out]
            rw [HT.out, hl]
            exact h1
          · exact World.ownsRow.drew (HW.out.kept st.2 (rows_apart HW.out HO'.out (by decide)))
          · exact (hB.grown st.2 hB.size (fun b hb => (HO'.out.lt b hb).1)).drew
        case measure => simp [intOf]; omega
    · obtain rfl : k = s.size := by omega
      have h2 := HO.out
      rw [grown_all] at h2
      have HO2 := Lib.hid h2
      clear h2
      go_wp2
      go_ret
      exact ⟨_, rfl, by rw [List.length_map]; exact HO2.out, hB⟩

theorem refClusters_at (s : ByteArray) (r : List ByteArray) (h : (clus s.data.toList).map (fun c => (⟨c.toArray⟩ : ByteArray)) = r) (hs : s.size * 16 ≤ 140737488351232) (w : World) :
    Calls Try.prog 28 #[.string s] w fun e w' => ∃ v, e = .returned v ∧ w'.ownsRow w.heap.size 9 1 v r.length (r.map Value.string) ∧ Below w.heap.size w w' := by
  subst h
  refine (refClusters_any s hs w).mono fun e w' ⟨v, he, ho, hb⟩ => ⟨v, he, ?_, hb⟩
  rw [List.length_map, List.map_map]; rw [List.length_map] at ho; exact ho
end Go.Proofs.Ytelpgjlcagbcjaa
