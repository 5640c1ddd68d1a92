/- The program of layer 9: the iterator over the lexemes of a string. -/
import Derived.Test.YtdgihkgomfpmoaaGreatDoorMkPR
namespace Go.Proofs.YtdgihkgomfpmoaaGreatDoor
set_option linter.unusedSimpArgs false
set_option linter.unusedVariables false
set_option maxRecDepth 100000
open Go.RowKit Go.Deep Go.Shelf
theorem wide_fnM (k : FuncId) : Fence.wide.fn k = True := rfl
attribute [local go_sem] Oper.semAt_some wide_fnM

abbrev encX (p : Lx × Int) : Array Value := #[.agg #[intV p.1.k, sV p.1.n, sV p.1.v, intV p.1.o], intV p.2]
def items (s : Bs) : List (Lx × Int) := itemsF s.length 0 s
theorem items_enough : ∀ (n m o : Nat) (l : Bs), l.length ≤ n → l.length ≤ m → itemsF n o l = itemsF m o l
  | 0, 0, _, _, _, _ => rfl
  | 0, _ + 1, _, [], _, _ => rfl
  | _ + 1, 0, _, [], _, _ => rfl
  | _ + 1, _ + 1, _, [], _, _ => rfl
  | 0, _ + 1, _, _ :: _, h, _ => by simp at h
  | _ + 1, 0, _, _ :: _, _, h => by simp at h
  | n + 1, m + 1, o, c :: t, hn, hm => by
    rw [itemsF, itemsF]
    have hp := part_pos c t
    rw [items_enough n m _ _ (by rw [List.length_drop]; simp at hn ⊢; omega) (by rw [List.length_drop]; simp at hm ⊢; omega)]
theorem items_len : ∀ (n o : Nat) (l : Bs), (itemsF n o l).length ≤ l.length
  | 0, _, _ => by simp [itemsF]
  | _ + 1, _, [] => by simp [itemsF]
  | n + 1, o, c :: t => by
    rw [itemsF, List.length_cons]
    have hp := part_pos c t
    have hq := part_le (c :: t)
    split
    · have := items_len n (o + (partOf (c :: t)).length) ((c :: t).drop (partOf (c :: t)).length)
      rw [List.length_drop] at this
      omega
    · simp
/-- one item more -/
theorem items_step (s : Bs) (o : Nat) (h : o < s.length) : itemsF (s.length - o) o (s.drop o) =
    (⟨(readR (partOf (s.drop o))).1.1, (readR (partOf (s.drop o))).1.2.1, (readR (partOf (s.drop o))).1.2.2, o⟩, (readR (partOf (s.drop o))).2) ::
      (if (readR (partOf (s.drop o))).2 = 0 then itemsF (s.length - (o + (partOf (s.drop o)).length)) (o + (partOf (s.drop o)).length) (s.drop (o + (partOf (s.drop o)).length)) else []) := by
  obtain ⟨c, t, ht⟩ : ∃ c t, s.drop o = c :: t := by
    cases hh : s.drop o with
    | nil => have := congrArg List.length hh; rw [List.length_drop] at this; simp at this; omega
    | cons c t => exact ⟨c, t, rfl⟩
  have hl : (s.drop o).length = s.length - o := List.length_drop
  obtain ⟨f, hf⟩ : ∃ f, s.length - o = f + 1 := ⟨s.length - o - 1, by omega⟩
  have hp := part_pos c t
  have hq := part_le (c :: t)
  have hd : (c :: t).drop (partOf (c :: t)).length = s.drop (o + (partOf (s.drop o)).length) := by rw [← ht, List.drop_drop]
  rw [hf, ht, itemsF, hd, ht]
  rw [ht] at hl
  rw [items_enough f (s.length - (o + (partOf (c :: t)).length)) _ _ (by rw [List.length_drop]; omega) (by rw [List.length_drop]; omega)]
/-- kept by a round: what lies below, and the string's box -/
def KpX (n₀ B : Nat) (A C : World) : Prop := Below n₀ A C ∧ C.heap[B]? = A.heap[B]?
theorem KpX.refl (n₀ B : Nat) (A : World) : KpX n₀ B A A := ⟨Below.refl _ _, rfl⟩
theorem KpX.trans {n₀ B : Nat} {A C D : World} (h : KpX n₀ B A C) (k : KpX n₀ B C D) : KpX n₀ B A D := ⟨h.1.trans k.1, k.2.trans h.2⟩
theorem KpX.of_below {n₀ B : Nat} {A C : World} (h : Below A.heap.size A C) (hn : n₀ ≤ A.heap.size) (hB : B < A.heap.size) : KpX n₀ B A C := ⟨h.mono hn, h.block B hB⟩
theorem below_grownM {A B : World} (h : Below A.heap.size A B) : A.grownBy B none := ⟨h.os, h.tape, h.output, h.size, fun k hk _ => h.block k hk⟩
theorem KpX.cell {n₀ B : Nat} {A C : World} (h : KpX n₀ B A C) {v : Value} (hc : A.cell? ⟨B, 0, none⟩ = some v) : C.cell? ⟨B, 0, none⟩ = some v := by
  unfold World.cell? at hc ⊢
  rw [h.2]; exact hc

set_option maxRecDepth 100000 in
set_option maxHeartbeats 4000000 in
theorem lexemes1_in (l B : Nat) (w0 : World) [T w0] (s : Bs) (hs : s.length ≤ 65536) (J Jx : List (Lx × Int) → World → Prop) (hJ : ∀ p W W', J p W → Below W.heap.size W W' → J p W')
    (hY : ∀ pre x W, J pre W → pre.length < s.length → YieldAt Fence.wide 7 Tryz.prog l (encX x) W fun e W' =>
      (e = .returned (.bool true) ∧ J (pre ++ [x]) W' ∧ KpX w0.heap.size B W W') ∨ (e = .returned (.bool false) ∧ Jx (pre ++ [x]) W'))
    (W : World) [T W] (hn : w0.heap.size ≤ W.heap.size) (hc : W.cell? ⟨B, 0, none⟩ = some (sV s)) (h0 : J [] W) :
    CallsIn Fence.wide 8 Tryz.prog 36 #[.func (.yield l) #[] #[], .pointer (some ⟨B, 0, none⟩)] W fun e W' => (∃ v, e = .returned v) ∧
      ((∃ ys, ys = items s ∧ J ys W') ∨ (∃ pre, pre <+: items s ∧ Jx pre W')) := by
  have hsz : (baL s).size = s.length := baL_size s
  refine callsIn_of_wp Tryz.func36 rfl trivial ?_ rfl
  simp only [Tryz.ntmps36, List.size_toArray, List.length_cons, List.length_nil, Nat.reduceAdd, Nat.reduceSub, Array.replicate_succ, Array.replicate_zero, List.push_toArray, List.append_toArray, List.nil_append, List.cons_append]
  gi_wp2
  have HL := Lib.hid (items_len s.length 0 s)
  gi_loopw [3, 4] (fun ev av wr => ∃ (pre : List (Lx × Int)) (o : Nat) (z : Int), av = .int .i64 o ∧ ev = .int .i64 z ∧ o ≤ s.length ∧ items s = pre ++ itemsF (s.length - o) o (s.drop o) ∧ J pre wr ∧ KpX w0.heap.size B W wr)
    (fun _ av _ => s.length - (intOf av).toNat)
  case atStart => exact ⟨[], 0, 0, rfl, rfl, Nat.zero_le _, rfl, h0, KpX.refl _ _ _⟩
  case round =>
    obtain ⟨pre, o, z, rfl, rfl, ho, hx, hJ1, hK⟩ := hrel
    obtain ⟨wk, rfl⟩ : ∃ x, x = wr := ⟨_, rfl⟩
    have c1 := hK.cell hc
    have HX := Lib.hid hx
    have HJ1 := Lib.hid hJ1
    have HK := Lib.hid hK
    haveI tk : T wk := T.below (w0 := w0) hK.1
    clear hx hJ1
    by_cases hlt : o < s.length
    · have HIS := Lib.hid (items_step s o hlt)
      obtain ⟨q, hq⟩ : ∃ q, partOf (s.drop o) = q := ⟨_, rfl⟩
      have hpp : 0 < q.length := by
        obtain ⟨c, t, ht⟩ : ∃ c t, s.drop o = c :: t := by
          cases hh : s.drop o with
          | nil => have := congrArg List.length hh; rw [List.length_drop] at this; simp at this; omega
          | cons c t => exact ⟨c, t, rfl⟩
        rw [← hq, ht]; exact part_pos c t
      have hpl : o + q.length ≤ s.length := by
        have := part_le (s.drop o)
        rw [hq, List.length_drop] at this
        omega
      have hcut : (baL s).extract o s.length = baL (s.drop o) := by
        rw [baL_cut]
        congr 1
        exact List.take_of_length_le (by rw [List.length_drop]; omega)
      have HCUT := Lib.hid hcut
      have HFP := Lib.hid (fun W => firstPart_any (s.drop o) q hq (by rw [List.length_drop]; omega) W)
      have HRD := Lib.hid (fun (W : World) [T W] => read_any q (by omega) W)
      rw [hq] at HIS
      have hqz : (baL q).size = q.length := baL_size q
      obtain ⟨⟨⟨k, n, v⟩, e⟩, hr⟩ : ∃ x, readR q = x := ⟨_, rfl⟩
      rw [hr] at HRD HIS
      have g1 : decide ((o : Int) < (s.length : Int)) = true := decide_eq_true (by omega)
      have g2 : (0 : Int) ≤ (o : Int) := by omega
      have g3 : (o : Int) ≤ (s.length : Int) := by omega
      have hwk : IntKind.i64.wrap ((o : Int) + (q.length : Int)) = ((o + q.length : Nat) : Int) := by rw [show (o : Int) + (q.length : Int) = ((o + q.length : Nat) : Int) by omega]; exact IntWalk.i64_in _ (by omega)
      clear hq hcut hr
      gi_wp2_with fail
      rw [HCUT.out]
      refine (callsIn_wide.2 (HFP.out _)).mono ?_
      rintro e' w2 ⟨rfl, h2⟩
      have c2 := (h2.cell (p := ⟨B, 0, none⟩) (cellT_lt c1)).trans c1
      have H2 := Lib.hid h2
      haveI t2 : T w2 := T.below h2
      clear h2
      gi_wp2_with fail
      refine (callsIn_wide.2 (HRD.out _)).mono ?_
      rintro e' w3 ⟨rfl, h3⟩
      simp only
      have h4 : Below w3.heap.size w3 (lexW w3 k n v o) := below_alloc _ _
      have c3 := (h3.cell (p := ⟨B, 0, none⟩) (cellT_lt c2)).trans c2
      have HK4 := Lib.hid (HK.out.trans ((KpX.of_below H2.out (Nat.le_trans hn HK.out.1.size) (cellT_lt c1)).trans ((KpX.of_below h3 (Nat.le_trans hn (Nat.le_trans HK.out.1.size H2.out.size)) (cellT_lt c2)).trans (KpX.of_below h4 (Nat.le_trans hn (Nat.le_trans HK.out.1.size (Nat.le_trans H2.out.size h3.size))) (cellT_lt c3)))))
      have HJ4 := Lib.hid (hJ _ _ _ (hJ _ _ _ (hJ _ _ _ HJ1.out H2.out) h3) h4)
      clear h3 c2 h4 c3
      have hlen : pre.length < s.length := by
        have h1 := congrArg List.length HX.out
        rw [HIS.out, List.length_append, List.length_cons] at h1
        have h2 := HL.out
        have h3 : (items s).length = (itemsF s.length 0 s).length := rfl
        omega
      obtain ⟨fn, tmps, assign, body, hy, hR⟩ := hY pre (⟨k, n, v, o⟩, e) (lexW w3 k n v o) HJ4.out hlen
      dsimp only [encX] at hy
      have HR := Lib.hid hR
      clear hR hlen
      have HIT := Lib.hid (show items s = (pre ++ [(⟨k, n, v, o⟩, e)]) ++ (if e = 0 then itemsF (s.length - (o + q.length)) (o + q.length) (s.drop (o + q.length)) else []) by rw [HX.out, HIS.out, List.append_assoc]; rfl)
      by_cases he : e = 0
      · have he0 : (e != 0) = false := by simp [he]
        have HE := Lib.hid he
        clear he
        gi_wp2
        refine HR.out.mono ?_
        rintro e' W3 (⟨rfl, hJ3, hk3⟩ | ⟨rfl, hJx3⟩)
        · gi_wp2
          go_roundw
          case rel => exact ⟨_, o + q.length, _, by go_num, rfl, hpl, by rw [HIT.out, if_pos HE.out], hJ3, HK4.out.trans hk3⟩
          case measure => simp [intOf]; omega
        · gi_wp2
          refine bodyPost_ret (results_none rfl _ _ _) rfl ?_
          exact ⟨⟨_, rfl⟩, .inr ⟨_, ⟨_, HIT.out.symm⟩, hJx3⟩⟩
      · have he0 : (e != 0) = true := by simpa using he
        have HE := Lib.hid he
        clear he
        gi_wp2
        refine HR.out.mono ?_
        rintro e' W3 (⟨rfl, hJ3, hk3⟩ | ⟨rfl, hJx3⟩)
        · gi_wp2
          refine bodyPost_ret (results_none rfl _ _ _) rfl ?_
          refine ⟨⟨_, rfl⟩, .inl ⟨_, rfl, ?_⟩⟩
          rw [HIT.out, if_neg HE.out, List.append_nil]
          exact hJ3
        · gi_wp2
          refine bodyPost_ret (results_none rfl _ _ _) rfl ?_
          exact ⟨⟨_, rfl⟩, .inr ⟨_, ⟨_, HIT.out.symm⟩, hJx3⟩⟩
    · obtain rfl : o = s.length := by omega
      gi_wp2
      go_end0
      refine ⟨⟨_, rfl⟩, .inl ⟨_, rfl, ?_⟩⟩
      have hx := HX.out
      rw [Nat.sub_self, List.drop_length] at hx
      rw [hx, show itemsF 0 s.length [] = [] from rfl, List.append_nil]
      exact HJ1.out
set_option maxHeartbeats 400000 in
theorem lexemes_any (s : Bs) (w : World) :
    Calls Tryz.prog 24 #[sV s] w fun e w' => e = .returned (.func (.func 36) #[] #[.pointer (some ⟨w.heap.size, 0, none⟩)]) ∧ w' = w.alloc (.cells #[sV s] 9) := by
  go_enter Tryz.func24, Tryz.ntmps24
  go_wp2
  go_ret
  exact ⟨rfl, rfl⟩
theorem lexemes_stops (w0 : World) [T w0] (s : Bs) (hs : s.length ≤ 65536) (B : Nat) (w : World) [T w] (hn : w0.heap.size ≤ w.heap.size) (hc : w.cell? ⟨B, 0, none⟩ = some (sV s)) :
    SeqStopsK Fence.wide 8 Tryz.prog 36 #[.pointer (some ⟨B, 0, none⟩)] encX (KpX w0.heap.size B) (fun ys => ys = items s) (fun pre => pre <+: items s) s.length w := fun l J Jx W hW hJ _ hY h0 =>
  haveI : T W := T.below hW
  lexemes1_in l B w0 s hs J Jx (fun p A C h hB => hJ p A C none h (below_grownM hB) (fun r e => by cases e)) hY W (Nat.le_trans hn hW.size) ((hW.cell (p := ⟨B, 0, none⟩) (cellT_lt hc)).trans hc) h0
end Go.Proofs.YtdgihkgomfpmoaaGreatDoor
