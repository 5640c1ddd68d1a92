/- Stage 10 (transcript): MkPM, put together by merge10.py. -/
import Derived.Test.YtmfcepfagbkceaaGreatDoorOa
import Derived.Lib.AtoiAll
import Derived.Lib.AtoiAllCases
import Derived.Lib.ItoaNum
import Derived.Lib.IndexAny
import Derived.Lib.IndexLaws
import Derived.Lib.Strings
namespace Go.Proofs.YtmfcepfagbkceaaGreatDoor
def ddN (n : Nat) : Bs := if n < 10 then [UInt8.ofNat (48 + n)] else [UInt8.ofNat (48 + n / 10), UInt8.ofNat (48 + n % 10)]
theorem dd_eq {n : Nat} (h : n < 100) : Lib.decDigits n = ddN n := by
  unfold ddN
  by_cases h1 : n < 10
  · rw [if_pos h1, Lib.decDigits_one h1]
  · rw [if_neg h1, Lib.decDigits_two h1 h]
theorem dd_all : ∀ n : Fin 100, Lib.atoiAll (ddN n) = .ok (n.val : Int) ∧ valN (ddN n) = n ∧ (ddN n).all digC = true ∧ (ddN n).length ≤ 4 ∧ (1 ≤ n.val → (ddN n).head? ≠ some 48) := by decide +kernel
theorem dd_num {m n : Nat} (h1 : 1 ≤ n) (h2 : n ≤ m) (hm : m < 100) : numB m (ddN n) = true := by
  obtain ⟨_, e2, e3, e4, e5⟩ := dd_all ⟨n, by omega⟩
  unfold numB
  simp only at e2 e3 e4 e5
  rw [e2, e3, decide_eq_true e4, decide_eq_true (e5 h1), decide_eq_true h1, decide_eq_true h2]; rfl
theorem u8_of {c : UInt8} {k : Nat} (h : c.toNat = k) : UInt8.ofNat k = c := by rw [← h]; simp
theorem num_dd {m : Nat} {v : Bs} (hm : m < 100) (h : numB m v = true) : v = ddN (valN v) ∧ 1 ≤ valN v ∧ valN v ≤ m := by
  unfold numB at h
  simp only [Bool.and_eq_true, decide_eq_true_eq] at h
  obtain ⟨⟨⟨⟨h1, h2⟩, h3⟩, h4⟩, h5⟩ := h
  refine ⟨?_, h4, h5⟩
  have hd : ∀ c ∈ v, 48 ≤ c.toNat ∧ c.toNat ≤ 57 := fun c hc => by
    have := List.all_eq_true.1 h1 c hc
    unfold digC at this
    simpa using this
  have h0 : ∀ c t, v = c :: t → c.toNat ≠ 48 := fun c t e h => h2 (by rw [e]; show some c = some 48; rw [show c = 48 from UInt8.toNat.inj h])
  match v, hd, h0, h4, h5 with
  | [], _, _, h4, _ => simp [valN] at h4
  | [c], hd, _, _, _ =>
    have := hd c (by simp)
    have e : valN [c] = c.toNat - 48 := by simp [valN]
    rw [e, ddN, if_pos (by omega), u8_of (c := c) (by omega)]
  | [c, d], hd, h0, _, _ =>
    have a := hd c (by simp)
    have b := hd d (by simp)
    have z := h0 c _ rfl
    have e : valN [c, d] = 10 * (c.toNat - 48) + (d.toNat - 48) := by simp [valN]
    rw [e, ddN, if_neg (by omega), u8_of (c := c) (by omega), u8_of (c := d) (by omega)]
  | c :: d :: x :: t, hd, h0, h4, h5 =>
    exfalso
    have a := hd c (by simp)
    have z := h0 c _ rfl
    have mono : ∀ (l : Bs) (n k : Nat), k ≤ n → k ≤ l.foldl (fun n c => 10 * n + (c.toNat - 48)) n := by
      intro l
      induction l with
      | nil => intro n k h; exact h
      | cons y l ih => intro n k h; exact ih (10 * n + (y.toNat - 48)) k (by omega)
    have e : valN (c :: d :: x :: t) = t.foldl (fun n c => 10 * n + (c.toNat - 48)) (10 * (10 * (10 * 0 + (c.toNat - 48)) + (d.toNat - 48)) + (x.toNat - 48)) := rfl
    have := mono t (10 * (10 * (10 * 0 + (c.toNat - 48)) + (d.toNat - 48)) + (x.toNat - 48)) 100 (by omega)
    rw [← e] at this
    omega
theorem num_ok {m : Nat} {v : Bs} {n : Int} (hm : m < 100) (h : Lib.atoiAll v = .ok n) : numB m v = (decide (1 ≤ n) && (decide (n ≤ m) && decide (ddN n.toNat = v))) := by
  rw [Bool.eq_iff_iff]
  simp only [Bool.and_eq_true, decide_eq_true_eq]
  constructor
  · intro hn
    obtain ⟨e1, e2, e3⟩ := num_dd hm hn
    have := (dd_all ⟨valN v, by omega⟩).1
    simp only at this
    rw [← e1, h] at this
    cases this
    exact ⟨by omega, by omega, by rw [show ((valN v : Nat) : Int).toNat = valN v from rfl]; exact e1.symm⟩
  · rintro ⟨h1, h2, h3⟩
    rw [← h3]
    exact dd_num (by omega) (by omega) hm
theorem num_no {m : Nat} {v : Bs} (hm : m < 100) (h : ∀ n, Lib.atoiAll v ≠ .ok n) : numB m v = false := by
  rw [Bool.eq_false_iff]
  intro hn
  obtain ⟨e1, e2, e3⟩ := num_dd hm hn
  have := (dd_all ⟨valN v, by omega⟩).1
  simp only at this
  rw [← e1] at this
  exact h _ this
theorem idx_tw (c : UInt8) : ∀ l : Bs, Lib.indexByte l c = if l.dropWhile (fun x => decide (x ≠ c)) = [] then -1 else ((l.takeWhile (fun x => decide (x ≠ c))).length : Int)
  | [] => rfl
  | b :: l => by
    rw [Lib.indexByte, idx_tw c l]
    by_cases h : b = c
    · subst h; simp
    · rw [List.dropWhile_cons, List.takeWhile_cons]
      simp only [h, ne_eq, not_false_eq_true, decide_true, if_true]
      rw [if_neg (by simpa using h)]
      split
      · simp
      · rw [if_neg (by simp)]; simp
theorem any_tw (chars : Bs) : ∀ l : Bs, Lib.indexAny l chars = if l.dropWhile (fun x => !chars.contains x) = [] then -1 else ((l.takeWhile (fun x => !chars.contains x)).length : Int)
  | [] => rfl
  | b :: l => by
    rw [Lib.indexAny, any_tw chars l, List.dropWhile_cons, List.takeWhile_cons]
    cases h : chars.contains b
    · simp only [Bool.not_false, if_true, Bool.false_eq_true, if_false]
      split
      · simp
      · rw [if_neg (by simp)]; simp
    · simp
theorem nmC_in (x : UInt8) : (!([32, 47] : Bs).contains x) = nmC x := by
  unfold nmC
  by_cases h1 : x = 32
  · subst h1; decide
  · by_cases h2 : x = 47
    · subst h2; decide
    · simp [h1, h2]
theorem any_nm (l : Bs) : Lib.indexAny l [32, 47] = if l.dropWhile nmC = [] then -1 else ((l.takeWhile nmC).length : Int) := by
  have e : (fun x => !([32, 47] : Bs).contains x) = nmC := funext nmC_in
  rw [any_tw, e]
def partOf (l : Bs) : Bs := if l.head? = some 60 then (if l.dropWhile not62 = [] then l else l.takeWhile not62 ++ [62]) else l.takeWhile not60
def pkOf (m : Bs) : Int := if m.head? = some 47 then 3 else if m.getLast? = some 47 then 4 else 2
def pin (m : Bs) : Bs := if m.head? = some 47 then m.drop 1 else if m.getLast? = some 47 then m.dropLast else m
def pnm (m : Bs) : Bs := (pin m).takeWhile nmC
def pvl (m : Bs) : Bs := Lib.trimPrefix ((pin m).drop (pnm m).length) [32]
theorem inn_mid (m : Bs) : inn (60 :: (m ++ [62])) = m := by unfold inn; simp
theorem pnm_eq (m : Bs) : nmOf (60 :: (m ++ [62])) = pnm m := by
  unfold nmOf tin cloB pnm pin
  rw [inn_mid]
  by_cases h : m.head? = some 47
  · simp [h]
  · simp only [h, decide_false, Bool.false_eq_true, if_false]
    by_cases h2 : m.getLast? = some 47
    · rw [if_pos h2]
      obtain ⟨a, ha⟩ : ∃ a, m = a ++ [47] := by
        have hne : m ≠ [] := by rintro rfl; cases h2
        refine ⟨m.dropLast, ?_⟩
        have := List.dropLast_concat_getLast hne
        rw [List.getLast?_eq_some_getLast hne] at h2
        rw [Option.some.injEq] at h2
        rw [h2] at this
        exact this.symm
      subst ha
      rw [List.dropLast_concat]
      clear h h2
      induction a with
      | nil => decide
      | cons x a ih =>
        rw [List.cons_append, List.takeWhile_cons, List.takeWhile_cons, ih]
    · rw [if_neg h2]
theorem trim_some (r : Bs) : Lib.trimPrefix (32 :: r) [32] = r := by
  unfold Lib.trimPrefix Lib.hasPrefix
  simp [List.isPrefixOf]
theorem prog_back {k : Int} {n v m : Bs} (h : goodT k n v = true) (hf : formF k n v = 60 :: (m ++ [62])) : pkOf m = k ∧ pnm m = n ∧ pvl m = v := by
  obtain ⟨hk, ht, hv, h3, _⟩ := good_tag h
  obtain ⟨hn0, hn⟩ := tag_plain ht
  have hb : ∀ b : Bs, 60 :: (b ++ [62]) = 60 :: (m ++ [62]) → m = b := fun b e => by simpa using e.symm
  have hbod : ∀ z : Bs, (∀ c r, z = c :: r → nmC c = false) → (bodyL n v ++ z).takeWhile nmC = n ∧ ((bodyL n v ++ z).drop n.length = (if v = [] then z else 32 :: (v ++ z))) := fun z hz => by
    unfold bodyL
    by_cases h0 : v = []
    · rw [if_pos h0, if_pos h0]
      exact ⟨tw_all _ _ (fun c hc => plain_nm (hn c hc)) hz, by simp⟩
    · rw [if_neg h0, if_neg h0]
      rw [List.append_assoc]
      exact ⟨tw_all _ _ (fun c hc => plain_nm (hn c hc)) (fun c r e => by cases e; decide), by simp⟩
  have hh : ∀ z, (bodyL n v ++ z).head? ≠ some 47 := fun z e => by
    obtain ⟨x, t, rfl⟩ : ∃ x t, n = x :: t := by
      cases n with
      | nil => exact absurd rfl hn0
      | cons x t => exact ⟨x, t, rfl⟩
    have hx : x = 47 := by
      unfold bodyL at e
      split at e
      · simpa using e
      · simpa using e
    exact plain_47 (hn x (by simp)) hx
  have hbv : ∀ c ∈ bodyL n v, c ≠ 47 := fun c hc => (body_plain hn hv c hc).2.2
  have hlast : (bodyL n v).getLast? ≠ some 47 := fun e => hbv 47 (List.mem_of_getLast? e) rfl
  rcases hk with rfl | rfl | rfl
  · have := hb _ hf
    subst this
    have e1 : pin (bodyL n v) = bodyL n v := by
      unfold pin
      rw [if_neg (by have := hh []; rwa [List.append_nil] at this), if_neg hlast]
    obtain ⟨b1, b2⟩ := hbod [] (fun c r e => by cases e)
    rw [List.append_nil] at b1 b2
    refine ⟨?_, ?_, ?_⟩
    · unfold pkOf
      rw [if_neg (by have := hh []; rwa [List.append_nil] at this), if_neg hlast]
    · unfold pnm; rw [e1, b1]
    · unfold pvl pnm
      rw [e1, b1, b2]
      by_cases h0 : v = []
      · rw [if_pos h0, h0]; rfl
      · rw [if_neg h0, trim_some, List.append_nil]
  · have hv0 := h3 rfl
    subst hv0
    have hf : (60 :: 47 :: (n ++ [62]) : Bs) = 60 :: (m ++ [62]) := hf
    have := hb (47 :: n) (by rw [← hf]; rfl)
    subst this
    have e1 : pin (47 :: n) = n := by unfold pin; simp
    have e2 : pnm (47 :: n) = n := by
      unfold pnm
      rw [e1]
      have := tw_all (p := nmC) n [] (fun c hc => plain_nm (hn c hc)) (fun c r e => by cases e)
      rwa [List.append_nil] at this
    refine ⟨by unfold pkOf; simp, e2, ?_⟩
    unfold pvl
    rw [e1, e2]; simp [Lib.trimPrefix]
  · have hf : (60 :: (bodyL n v ++ [47, 62]) : Bs) = 60 :: (m ++ [62]) := hf
    have := hb (bodyL n v ++ [47]) (by rw [← hf]; simp)
    subst this
    have e0 : (bodyL n v ++ [47]).getLast? = some 47 := by simp
    have e1 : pin (bodyL n v ++ [47]) = bodyL n v := by
      unfold pin
      rw [if_neg (hh [47]), if_pos e0, List.dropLast_concat]
    obtain ⟨b1, b2⟩ := hbod [] (fun c r e => by cases e)
    rw [List.append_nil] at b1 b2
    refine ⟨?_, ?_, ?_⟩
    · unfold pkOf
      rw [if_neg (hh [47]), if_pos e0]
    · unfold pnm; rw [e1, b1]
    · unfold pvl pnm
      rw [e1, b1, b2]
      by_cases h0 : v = []
      · rw [if_pos h0, h0]; rfl
      · rw [if_neg h0, trim_some, List.append_nil]
def ptagR (m : Bs) : (Int × Bs × Bs) × Int :=
  if isTag (pnm m) then (if goodT (pkOf m) (pnm m) (pvl m) = true ∧ formF (pkOf m) (pnm m) (pvl m) = 60 :: (m ++ [62]) then ((pkOf m, pnm m, pvl m), 0) else ((0, [], []), 3)) else ((0, [], []), 12)
theorem ptag (m : Bs) : ptagR m = tagR (60 :: (m ++ [62])) := by
  unfold ptagR
  by_cases ht : isTag (pnm m) = true
  · rw [if_pos ht]
    by_cases h : goodT (pkOf m) (pnm m) (pvl m) = true ∧ formF (pkOf m) (pnm m) (pvl m) = 60 :: (m ++ [62])
    · rw [if_pos h, ← h.2, tag_back h.1]
    · rw [if_neg h]
      have hn := pnm_eq m
      obtain ⟨x, e, hx⟩ : ∃ x e, tagR (60 :: (m ++ [62])) = (x, e) := ⟨_, _, rfl⟩
      by_cases he : e = 0
      · exfalso
        subst he
        obtain ⟨g1, g2⟩ := tag_of hx
        obtain ⟨q1, q2, q3⟩ := prog_back g2 g1
        exact h (by rw [q1, q2, q3]; exact ⟨g2, g1⟩)
      · unfold tagR at hx ⊢
        rw [hn, if_pos ht] at hx ⊢
        split at hx
        · cases hx; exact absurd rfl he
        · rename_i hc
          rw [if_neg hc]
  · rw [if_neg ht]
    unfold tagR
    rw [pnm_eq, if_neg ht]
def readR (p : Bs) : (Int × Bs × Bs) × Int :=
  if p.head? = some 60 then (if p.getLast? = some 62 then ptagR (p.drop 1).dropLast else ((0, [], []), 3)) else if chk p ≠ 0 then ((0, [], []), 11) else ((1, [], p), 0)
def itemsF : Nat → Nat → Bs → List (Lx × Int)
  | 0, _, _ => []
  | _ + 1, _, [] => []
  | f + 1, o, c :: t =>
    (⟨(readR (partOf (c :: t))).1.1, (readR (partOf (c :: t))).1.2.1, (readR (partOf (c :: t))).1.2.2, o⟩, (readR (partOf (c :: t))).2) ::
      (if (readR (partOf (c :: t))).2 = 0 then itemsF f (o + (partOf (c :: t)).length) ((c :: t).drop (partOf (c :: t)).length) else [])
def foldR : List (Lx × Int) → List Lx × Int
  | [] => ([], 0)
  | x :: r => if x.2 = 0 then consR x.1 (foldR r) else ([], x.2)
theorem tw_dw (p : UInt8 → Bool) (l : Bs) : l.drop (l.takeWhile p).length = l.dropWhile p := by
  have h := List.takeWhile_append_dropWhile (p := p) (l := l)
  have : (l.takeWhile p ++ l.dropWhile p).drop (l.takeWhile p).length = l.dropWhile p := List.drop_left
  rwa [h] at this
theorem part_pos (c : UInt8) (t : Bs) : 0 < (partOf (c :: t)).length := by
  unfold partOf
  split
  · split
    · simp
    · simp
  · rename_i h
    have : c ≠ 60 := by simpa using h
    rw [List.takeWhile_cons, if_pos (by unfold not60; simpa using this)]
    simp
theorem part_le (l : Bs) : (partOf l).length ≤ l.length := by
  unfold partOf
  split
  · split
    · exact Nat.le_refl _
    · rename_i h
      have h1 := List.takeWhile_append_dropWhile (p := not62) (l := l)
      have h2 : 0 < (l.dropWhile not62).length := List.length_pos_iff.2 h
      have h3 := congrArg List.length h1
      rw [List.length_append] at h3
      rw [List.length_append, List.length_singleton]
      omega
  · exact (List.takeWhile_prefix _).length_le
theorem get_last {l : Bs} {x : UInt8} (h : l.getLast? = some x) : x ∈ l := List.mem_of_getLast? h
theorem items_scan : ∀ (f o : Nat) (l : Bs), l.length ≤ 65536 → foldR (itemsF f o l) = scanF f o l
  | 0, _, _, _ => rfl
  | _ + 1, _, [], _ => rfl
  | f + 1, o, c :: t, hl => by
    rw [itemsF, scanF, foldR]
    by_cases hc : c = 60
    · subst hc
      rw [if_pos rfl]
      have hh : (60 :: t : Bs).head? = some 60 := rfl
      by_cases hd : (60 :: t : Bs).dropWhile not62 = []
      · rw [if_pos hd]
        have hp : partOf (60 :: t) = 60 :: t := by unfold partOf; rw [if_pos hh, if_pos hd]
        have hr : readR (partOf (60 :: t)) = ((0, [], []), 3) := by
          rw [hp]
          unfold readR
          rw [if_pos hh, if_neg]
          intro e
          have := List.takeWhile_append_dropWhile (p := not62) (l := (60 :: t : Bs))
          rw [hd, List.append_nil] at this
          have h2 := tw_mem (p := not62) (60 :: t) 62 (by rw [this]; exact get_last e)
          exact absurd h2 (by decide)
        rw [hr]; rfl
      · rw [if_neg hd]
        obtain ⟨m, hm⟩ : ∃ m, (60 :: t : Bs).takeWhile not62 = 60 :: m := ⟨t.takeWhile not62, by rw [List.takeWhile_cons, if_pos (by decide)]⟩
        have hp : partOf (60 :: t) = 60 :: (m ++ [62]) := by unfold partOf; rw [if_pos hh, if_neg hd, hm]; rfl
        have hr : readR (partOf (60 :: t)) = tagR (60 :: (m ++ [62])) := by
          rw [hp, ← ptag]
          unfold readR
          rw [if_pos (show (60 :: (m ++ [62]) : Bs).head? = some 60 from rfl), if_pos (by rw [← List.cons_append, List.getLast?_append]; rfl)]
          congr 1
          simp
        have hdr : (60 :: t : Bs).drop (partOf (60 :: t)).length = ((60 :: t : Bs).dropWhile not62).drop 1 := by
          have h1 := tw_dw not62 (60 :: t)
          rw [← h1, hm, hp, List.drop_drop]
          congr 1
          simp
        have hlen : (partOf (60 :: t)).length = (60 :: m : Bs).length + 1 := by rw [hp]; simp
        rw [hr, hm, List.cons_append, hdr, hlen]
        by_cases he : (tagR (60 :: (m ++ [62]))).2 = 0
        · rw [if_pos he, if_pos he, if_pos he, items_scan f _ _ (by
            have h1 := (List.dropWhile_suffix (p := not62) (l := (60 :: t : Bs))).length_le
            rw [List.length_drop]; omega)]
        · simp only [he, if_false]
    · rw [if_neg hc]
      have hh : ¬ (c :: t : Bs).head? = some 60 := by simpa using hc
      have hp : partOf (c :: t) = (c :: t).takeWhile not60 := by unfold partOf; rw [if_neg hh]
      have hp2 : ¬ ((c :: t : Bs).takeWhile not60).head? = some 60 := by
        rw [List.takeWhile_cons, if_pos (by unfold not60; simpa using hc)]
        simpa using hc
      have hle : ((c :: t : Bs).takeWhile not60).length ≤ 65536 := Nat.le_trans ((List.takeWhile_prefix _).length_le) hl
      rw [hp, tw_dw]
      by_cases ha : accB ((c :: t : Bs).takeWhile not60) = true
      · have hk : chk ((c :: t : Bs).takeWhile not60) = 0 := chk_nil.2 ⟨hle, ha⟩
        have hr : readR ((c :: t : Bs).takeWhile not60) = ((1, [], (c :: t : Bs).takeWhile not60), 0) := by
          unfold readR
          rw [if_neg hp2, if_neg (fun h => h hk)]
        rw [if_pos ha, hr, if_pos rfl, if_pos rfl, items_scan f _ _ (Nat.le_trans ((List.dropWhile_suffix _).length_le) hl)]
      · have hk : chk ((c :: t : Bs).takeWhile not60) ≠ 0 := fun e => ha (chk_nil.1 e).2
        have hr : readR ((c :: t : Bs).takeWhile not60) = ((0, [], []), 11) := by
          unfold readR
          rw [if_neg hp2, if_pos hk]
        rw [if_neg ha, hr]
        rfl
end Go.Proofs.YtmfcepfagbkceaaGreatDoor
