/- Stage 10 (transcript): TrMath TrTree TrBack TrMore TpMath TrWrap TrStack, put together by merge10.py. -/
import Derived.Test.YtmfcepfagbkceaaGreatDoorOa
import Derived.Test.YtmfcepfagbkceaaGreatDoorOb0
import Derived.Lib.AtoiAllCases
import Derived.Lib.ItoaNum
import Derived.Lib.ItoaLen
import Derived.Lib.ItoaMem
namespace Go.Proofs.YtmfcepfagbkceaaGreatDoor
set_option linter.unusedSimpArgs false
set_option linter.unusedVariables false
inductive Nd where
  | mk (k : Int) (t : Bs) (n : Int) (p : List Nd)
theorem Nd.both {P : Nd → Prop} {Q : List Nd → Prop} (h : ∀ k t n p, Q p → P (.mk k t n p)) (h0 : Q []) (h1 : ∀ x l, P x → Q l → Q (x :: l)) : (∀ v, P v) ∧ ∀ l, Q l :=
  ⟨fun v => Nd.rec (motive_1 := P) (motive_2 := Q) h h0 h1 v, fun l => Nd.rec_1 (motive_1 := P) (motive_2 := Q) h h0 h1 l⟩
def Nd.kd : Nd → Int | .mk k _ _ _ => k
def Nd.tx : Nd → Bs | .mk _ t _ _ => t
def Nd.nm : Nd → Int | .mk _ _ n _ => n
def Nd.ps : Nd → List Nd | .mk _ _ _ p => p
def partsK (k : Int) : Bool := decide (7 ≤ k) && decide (k ≤ 11)
def textsK (k : Int) : Bool := decide (k = 1) || (decide (k = 3) || (decide (k = 4) || (decide (k = 10) || decide (k = 11))))
def numsK (k : Int) : Bool := decide (k = 6) || (decide (k = 8) || decide (k = 9))
mutual
def tot : Nd → Nat
  | .mk _ _ _ p => 1 + tots p
def tots : List Nd → Nat
  | [] => 0
  | x :: l => tot x + tots l
end
mutual
def dep : Nd → Nat
  | .mk _ _ _ p => if p.isEmpty then 0 else 1 + deps p
def deps : List Nd → Nat
  | [] => 0
  | x :: l => max (dep x) (deps l)
end
def sgl (k : Int) (t : Bs) (n : Int) (e b w : Bool) : Int :=
  if k < 1 ∨ 11 < k ∨ (t ≠ [] ∧ textsK k = false) ∨ (n ≠ 0 ∧ numsK k = false) ∨ (e = false ∧ partsK k = false) then 8
  else if (k = 1 ∧ t = []) ∨ (partsK k = true ∧ e = true) then 5
  else if k = 1 then (if chk t ≠ 0 then 11 else if b = true then 10 else 0)
  else if k = 3 ∨ k = 4 ∨ k = 11 then (if nameB t = false then 14 else if w = true ∧ k = 4 then 12 else 0)
  else if k = 10 then (if wordB t = false then 14 else 0)
  else if k = 6 then (if n < 1 ∨ 64 < n then 2 else 0)
  else if k = 8 ∨ k = 9 then (if n < 1 ∨ 8 < n then 2 else 0)
  else 0
mutual
def allN (b w : Bool) : Nd → Int
  | .mk k t n p => if sgl k t n p.isEmpty b w ≠ 0 then sgl k t n p.isEmpty b w else allL false true p
def allL (b w : Bool) : List Nd → Int
  | [] => 0
  | x :: l => if allN b w x ≠ 0 then allN b w x else allL (decide (x.kd = 1)) w l
end
def nmK (k : Int) : Bs := if k = 2 then tLb else if k = 3 then tPb else if k = 4 then tSec else if k = 5 then tV else if k = 6 then tGap else if k = 7 then tUn else if k = 8 then tAdd else if k = 9 then tDel else if k = 10 then tAb else if k = 11 then tName else []
def valX (k : Int) (t : Bs) (n : Int) : Bs := if textsK k then t else if numsK k then Lib.itoa n else []
mutual
def lexN : Nd → List Lx
  | .mk k t n p => if k = 1 then [⟨1, [], t, 0⟩] else if partsK k then ⟨2, nmK k, valX k t n, 0⟩ :: (lexL p ++ [⟨3, nmK k, [], 0⟩]) else [⟨4, nmK k, valX k t n, 0⟩]
def lexL : List Nd → List Lx
  | [] => []
  | x :: l => lexN x ++ lexL l
end
def outL (l : List Nd) : Bs := prn (lexL l)
def ckR (l : List Nd) : Int := if tots l ≤ 4096 ∧ deps l ≤ 16 then (if allL false false l ≠ 0 then allL false false l else if 65536 < (outL l).length then 4 else 0) else 4
def Fine (k : Int) (t : Bs) (n : Int) (e b w : Bool) : Prop :=
  (k = 1 ∧ t ≠ [] ∧ chk t = 0 ∧ b = false ∧ n = 0 ∧ e = true) ∨ ((k = 2 ∨ k = 5) ∧ t = [] ∧ n = 0 ∧ e = true) ∨ ((k = 3 ∨ (k = 4 ∧ w = false)) ∧ nameB t = true ∧ n = 0 ∧ e = true) ∨
  (k = 6 ∧ t = [] ∧ 1 ≤ n ∧ n ≤ 64 ∧ e = true) ∨ (k = 7 ∧ t = [] ∧ n = 0 ∧ e = false) ∨ ((k = 8 ∨ k = 9) ∧ t = [] ∧ 1 ≤ n ∧ n ≤ 8 ∧ e = false) ∨ (k = 10 ∧ wordB t = true ∧ n = 0 ∧ e = false) ∨ (k = 11 ∧ nameB t = true ∧ n = 0 ∧ e = false)
theorem sgl_zero {k : Int} {t : Bs} {n : Int} {e b w : Bool} (h : sgl k t n e b w = 0) : Fine k t n e b w := by
  unfold sgl at h
  split at h
  · cases h
  · rename_i h8
    split at h
    · cases h
    · rename_i h5
      unfold Fine
      simp only [not_or, not_and, Int.not_lt, Bool.not_eq_false] at h8 h5
      obtain ⟨ha, hb, ht, hn, he⟩ := h8
      have hk : k = 1 ∨ k = 2 ∨ k = 3 ∨ k = 4 ∨ k = 5 ∨ k = 6 ∨ k = 7 ∨ k = 8 ∨ k = 9 ∨ k = 10 ∨ k = 11 := by omega
      rcases hk with rfl | rfl | rfl | rfl | rfl | rfl | rfl | rfl | rfl | rfl | rfl
      · simp [textsK, numsK, partsK] at ht hn he h5 h
        by_cases hc : chk t = 0
        · cases b <;> simp_all
        · rw [if_neg hc] at h; cases h
      · simp [textsK, numsK, partsK] at ht hn he h5 h
        simp_all
      · simp [textsK, numsK, partsK] at ht hn he h5 h
        simp_all
      · simp [textsK, numsK, partsK] at ht hn he h5 h
        cases hb : nameB t <;> cases w <;> simp_all
      · simp [textsK, numsK, partsK] at ht hn he h5 h
        simp_all
      · simp [textsK, numsK, partsK] at ht hn he h5 h
        simp_all
      · simp [textsK, numsK, partsK] at ht hn he h5 h
        simp_all
      · simp [textsK, numsK, partsK] at ht hn he h5 h
        simp_all
      · simp [textsK, numsK, partsK] at ht hn he h5 h
        simp_all
      · simp [textsK, numsK, partsK] at ht hn he h5 h
        simp_all
      · simp [textsK, numsK, partsK] at ht hn he h5 h
        simp_all
def digs (n : Nat) : Bs := if n < 10 then [UInt8.ofNat (48 + n)] else [UInt8.ofNat (48 + n / 10), UInt8.ofNat (48 + n % 10)]
theorem dig_one {u : Nat} (h : u < 10) : Lib.decDigits u = [UInt8.ofNat (48 + u)] := by
  rw [Lib.decDigits.eq_def, dif_pos h]
theorem dig_two {u : Nat} (h : ¬ u < 10) (h2 : u < 100) : Lib.decDigits u = [UInt8.ofNat (48 + u / 10), UInt8.ofNat (48 + u % 10)] := by
  rw [Lib.decDigits.eq_def, dif_neg h, dig_one (by omega)]
  rfl
theorem itoa_digs {n : Int} (h1 : 1 ≤ n) (h2 : n ≤ 99) : Lib.itoa n = digs n.toNat := by
  unfold Lib.itoa digs
  rw [if_neg (by omega)]
  by_cases h : n.toNat < 10
  · rw [if_pos h, ← dig_one h]
  · rw [if_neg h, ← dig_two h (by omega)]
theorem num64_digs : ∀ n : Fin 65, 1 ≤ n.val → numB 64 (digs n.val) = true := by decide
theorem num8_digs : ∀ n : Fin 9, 1 ≤ n.val → numB 8 (digs n.val) = true := by decide
theorem num64_itoa {n : Int} (h1 : 1 ≤ n) (h2 : n ≤ 64) : numB 64 (Lib.itoa n) = true := by
  rw [itoa_digs h1 (by omega)]
  exact num64_digs ⟨n.toNat, by omega⟩ (by show 1 ≤ n.toNat; omega)
theorem num8_itoa {n : Int} (h1 : 1 ≤ n) (h2 : n ≤ 8) : numB 8 (Lib.itoa n) = true := by
  rw [itoa_digs h1 (by omega)]
  exact num8_digs ⟨n.toNat, by omega⟩ (by show 1 ≤ n.toNat; omega)
theorem good2 {n v : Bs} (h1 : isTag n = true) (h2 : emptyT n = false) (h3 : rightB n v = true) : goodT 2 n v = true := by unfold goodT; simp [h1, h2, h3]
theorem good4 {n v : Bs} (h1 : emptyT n = true) (h3 : rightB n v = true) : goodT 4 n v = true := by unfold goodT; simp [h1, empty_tag h1, h3]
theorem fine_open {k : Int} {t : Bs} {n : Int} {b w : Bool} (h : Fine k t n false b w) : partsK k = true ∧ k ≠ 1 ∧ goodT 2 (nmK k) (valX k t n) = true ∧ goodT 3 (nmK k) [] = true := by
  rcases h with h | h | h | h | ⟨rfl, rfl, rfl, _⟩ | ⟨rfl | rfl, rfl, h1, h2, _⟩ | ⟨rfl, h, rfl, _⟩ | ⟨rfl, h, rfl, _⟩
  · simp at h
  · simp at h
  · simp at h
  · simp at h
  · refine ⟨by decide, by decide, by decide, by decide⟩
  · refine ⟨by decide, by decide, ?_, by decide⟩
    exact good2 (by decide) (by decide) (num8_itoa h1 h2)
  · refine ⟨by decide, by decide, ?_, by decide⟩
    exact good2 (by decide) (by decide) (num8_itoa h1 h2)
  · refine ⟨by decide, by decide, ?_, by decide⟩
    exact good2 (by decide) (by decide) h
  · refine ⟨by decide, by decide, ?_, by decide⟩
    exact good2 (by decide) (by decide) h
theorem fine_empty {k : Int} {t : Bs} {n : Int} {b w : Bool} (h : Fine k t n true b w) (hk : k ≠ 1) : partsK k = false ∧ goodT 4 (nmK k) (valX k t n) = true := by
  rcases h with h | ⟨rfl | rfl, rfl, rfl, _⟩ | ⟨rfl | ⟨rfl, _⟩, h, rfl, _⟩ | ⟨rfl, rfl, h1, h2, _⟩ | h | h | h | h
  · exact absurd h.1 hk
  · exact ⟨by decide, by decide⟩
  · exact ⟨by decide, by decide⟩
  · refine ⟨by decide, ?_⟩
    exact good4 (by decide) h
  · refine ⟨by decide, ?_⟩
    exact good4 (by decide) h
  · refine ⟨by decide, ?_⟩
    exact good4 (by decide) (num64_itoa h1 h2)
  · simp at h
  · simp at h
  · simp at h
  · simp at h
theorem allN_zero {b w : Bool} {k : Int} {t : Bs} {n : Int} {p : List Nd} (h : allN b w (.mk k t n p) = 0) : Fine k t n p.isEmpty b w ∧ allL false true p = 0 := by
  rw [allN] at h
  split at h
  · exact absurd h (by assumption)
  · rename_i h1
    exact ⟨sgl_zero (Classical.not_not.1 h1), h⟩
theorem allL_cons {b w : Bool} {x : Nd} {l : List Nd} (h : allL b w (x :: l) = 0) : allN b w x = 0 ∧ allL (decide (x.kd = 1)) w l = 0 := by
  rw [allL] at h
  split at h
  · exact absurd h (by assumption)
  · rename_i h1
    exact ⟨Classical.not_not.1 h1, h⟩
theorem okL_append : ∀ (A B : List Lx) (p : Bool), okL p (A ++ B) = (okL p A && okL (lastT p A) B)
  | [], _, _ => by simp [okL, lastT]
  | x :: A, B, p => by rw [List.cons_append, okL, okL, okL_append A B, lastT, Bool.and_assoc]
theorem lastT_append (p : Bool) : ∀ (A B : List Lx), lastT p (A ++ B) = lastT (lastT p A) B
  | [], B => rfl
  | x :: A, B => by rw [List.cons_append, lastT, lastT, lastT_append _ A B]
theorem lex_ok : (∀ x, ∀ b w, allN b w x = 0 → okL b (lexN x) = true ∧ lastT b (lexN x) = decide (x.kd = 1)) ∧ ∀ l, ∀ b w, allL b w l = 0 → okL b (lexL l) = true := by
  refine Nd.both (fun k t n p ih b w h => ?_) (fun b w _ => by rw [lexL]; rfl) (fun x l h1 h2 b w h => ?_)
  · obtain ⟨hf, hp⟩ := allN_zero h
    rw [lexN]
    show _ ∧ _ = decide (k = 1)
    by_cases hk : k = 1
    · rw [if_pos hk]
      have hf1 : t ≠ [] ∧ chk t = 0 ∧ b = false := by
        rcases hf with h | h | h | h | h | h | h | h
        · exact ⟨h.2.1, h.2.2.1, h.2.2.2.1⟩
        all_goals omega
      obtain ⟨h1, h2, rfl⟩ := hf1
      refine ⟨?_, by simp [lastT, hk]⟩
      simp [okL, okX, h1, (chk_nil.1 h2).2]
    · rw [if_neg hk, decide_eq_false hk]
      cases he : p.isEmpty
      · rw [he] at hf
        obtain ⟨f1, _, f2, f3⟩ := fine_open hf
        rw [if_pos f1]
        have := ih false true hp
        refine ⟨?_, ?_⟩
        · rw [okL, okL_append, show decide ((2 : Int) = 1) = false from rfl, this]
          simp [okL, okX, f2, f3]
        · rw [lastT, lastT_append]
          simp [lastT]
      · rw [he] at hf
        obtain ⟨f1, f2⟩ := fine_empty hf hk
        rw [f1, if_neg (by decide)]
        exact ⟨by simp [okL, okX, f2], by simp [lastT]⟩
  · obtain ⟨ha, hb⟩ := allL_cons h
    obtain ⟨k1, k2⟩ := h1 b w ha
    rw [lexL, okL_append, k1, k2, h2 _ w hb]
    rfl
theorem lex_run : (∀ x, ∀ b w, allN b w x = 0 → ∀ st, st.length + dep x ≤ 16 → runS st (lexN x) = (0, st)) ∧ ∀ l, ∀ b w, allL b w l = 0 → ∀ st, st.length + deps l ≤ 16 → runS st (lexL l) = (0, st) := by
  refine Nd.both (fun k t n p ih b w h st hs => ?_) (fun b w _ st _ => by rw [lexL]; rfl) (fun x l h1 h2 b w h st hs => ?_)
  · obtain ⟨hf, hp⟩ := allN_zero h
    rw [lexN]
    by_cases hk : k = 1
    · rw [if_pos hk, runS_cons]; rfl
    · rw [if_neg hk]
      rw [dep] at hs
      cases he : p.isEmpty
      · rw [he] at hf hs
        rw [if_neg (by decide)] at hs
        rw [if_pos (fine_open hf).1, runS_cons, if_pos rfl, if_neg (by omega), runS_append, ih false true hp (nmK k :: st) (by rw [List.length_cons]; omega), if_pos rfl, runS_cons, if_neg (show ¬ (3 : Int) = 2 by decide), if_pos rfl]
        show (if nmK k = nmK k then runS st [] else (12, [])) = _
        rw [if_pos rfl]; rfl
      · rw [he] at hf
        rw [(fine_empty hf hk).1, if_neg (by decide), runS_cons]; rfl
  · obtain ⟨ha, hb⟩ := allL_cons h
    rw [deps] at hs
    rw [lexL, runS_append, h1 b w ha st (by omega), if_pos rfl]
    exact h2 _ w hb st (by omega)
end Go.Proofs.YtmfcepfagbkceaaGreatDoor
namespace Go.Proofs.YtmfcepfagbkceaaGreatDoor
set_option linter.unusedSimpArgs false
set_option linter.unusedVariables false
def kOf (n : Bs) : Int := if n = tLb then 2 else if n = tPb then 3 else if n = tSec then 4 else if n = tV then 5 else if n = tGap then 6 else if n = tUn then 7 else if n = tAdd then 8 else if n = tDel then 9 else if n = tAb then 10 else if n = tName then 11 else 0
def atoiV (v : Bs) : Int := match Lib.atoiAll v with | .ok n => n | _ => 0
def nodeX (x : Lx) (p : List Nd) : Nd := if x.k = 1 then .mk 1 x.v 0 p else .mk (kOf x.n) (if textsK (kOf x.n) then x.v else []) (if numsK (kOf x.n) then atoiV x.v else 0) p
def readF : Nat → List Lx → List Nd × List Lx
  | 0, L => ([], L)
  | _ + 1, [] => ([], [])
  | f + 1, x :: L =>
    if x.k = 3 then ([], x :: L)
    else if x.k = 2 then (nodeX x (readF f L).1 :: (readF f ((readF f L).2.drop 1)).1, (readF f ((readF f L).2.drop 1)).2)
    else (nodeX x [] :: (readF f L).1, (readF f L).2)
theorem readF_len : ∀ (f : Nat) (L : List Lx), (readF f L).2.length ≤ L.length
  | 0, L => Nat.le_refl _
  | _ + 1, [] => Nat.le_refl _
  | f + 1, x :: L => by
    rw [readF]
    split
    · exact Nat.le_refl _
    · split
      · have h1 := readF_len f L
        have h2 := readF_len f ((readF f L).2.drop 1)
        rw [List.length_drop] at h2
        show (readF f ((readF f L).2.drop 1)).2.length ≤ _
        rw [List.length_cons]; omega
      · have h1 := readF_len f L
        show (readF f L).2.length ≤ _
        rw [List.length_cons]; omega
theorem readF_fuel : ∀ (f g : Nat) (L : List Lx), L.length ≤ f → L.length ≤ g → readF f L = readF g L
  | 0, 0, L, _, _ => rfl
  | 0, g + 1, L, h, _ => by
    have : L = [] := List.length_eq_zero_iff.1 (by omega)
    subst this; rfl
  | f + 1, 0, L, _, h => by
    have : L = [] := List.length_eq_zero_iff.1 (by omega)
    subst this; rfl
  | f + 1, g + 1, [], _, _ => rfl
  | f + 1, g + 1, x :: L, h1, h2 => by
    rw [List.length_cons] at h1 h2
    have e := readF_fuel f g L (by omega) (by omega)
    have hl := readF_len g L
    rw [readF, readF, e, readF_fuel f g ((readF g L).2.drop 1) (by rw [List.length_drop]; omega) (by rw [List.length_drop]; omega)]
def rd (L : List Lx) : List Nd × List Lx := readF L.length L
theorem rd_nil : rd [] = ([], []) := rfl
theorem rd_close {x : Lx} (h : x.k = 3) (L : List Lx) : rd (x :: L) = ([], x :: L) := by
  show readF (L.length + 1) (x :: L) = _
  rw [readF, if_pos h]
theorem rd_open {x : Lx} (h : x.k = 2) (L : List Lx) : rd (x :: L) = (nodeX x (rd L).1 :: (rd ((rd L).2.drop 1)).1, (rd ((rd L).2.drop 1)).2) := by
  show readF (L.length + 1) (x :: L) = _
  have hl := readF_len L.length L
  rw [readF, if_neg (by omega), if_pos h, show readF L.length L = rd L from rfl, readF_fuel L.length ((rd L).2.drop 1).length ((rd L).2.drop 1) (by rw [List.length_drop]; show (readF L.length L).2.length - 1 ≤ _; omega) (Nat.le_refl _)]
  rfl
theorem rd_other {x : Lx} (h3 : x.k ≠ 3) (h2 : x.k ≠ 2) (L : List Lx) : rd (x :: L) = (nodeX x [] :: (rd L).1, (rd L).2) := by
  show readF (L.length + 1) (x :: L) = _
  rw [readF, if_neg h3, if_neg h2]
  rfl
def er (x : Lx) : Lx := { x with o := 0 }
theorem readF_er : ∀ (f : Nat) (L : List Lx), readF f (L.map er) = ((readF f L).1, (readF f L).2.map er)
  | 0, L => rfl
  | _ + 1, [] => rfl
  | f + 1, x :: L => by
    rw [List.map_cons, readF, readF, readF_er f L]
    show (if x.k = 3 then _ else if x.k = 2 then _ else _) = _
    split
    · rfl
    · split
      · rw [← List.map_drop, readF_er f ((readF f L).2.drop 1)]
        rfl
      · rfl
theorem rd_er (L : List Lx) : rd (L.map er) = ((rd L).1, (rd L).2.map er) := by
  unfold rd
  rw [List.length_map]
  exact readF_er _ _
theorem k_of (k : Int) (h : 2 ≤ k ∧ k ≤ 11) : kOf (nmK k) = k := by
  have : k = 2 ∨ k = 3 ∨ k = 4 ∨ k = 5 ∨ k = 6 ∨ k = 7 ∨ k = 8 ∨ k = 9 ∨ k = 10 ∨ k = 11 := by omega
  rcases this with rfl | rfl | rfl | rfl | rfl | rfl | rfl | rfl | rfl | rfl <;> decide
theorem atoi_small {n : Int} (h1 : 1 ≤ n) (h2 : n ≤ 99) : atoiV (Lib.itoa n) = n := by
  unfold atoiV
  rw [atoi_itoa ⟨by omega, by omega⟩]
theorem node_back {k : Int} {t : Bs} {n : Int} {e b w : Bool} (h : Fine k t n e b w) (hk : k ≠ 1) (c : Int) (hc : c ≠ 1) (p : List Nd) : nodeX ⟨c, nmK k, valX k t n, 0⟩ p = .mk k t n p := by
  unfold nodeX
  rw [if_neg hc]
  rcases h with h | ⟨rfl | rfl, rfl, rfl, _⟩ | ⟨rfl | ⟨rfl, _⟩, h, rfl, _⟩ | ⟨rfl, rfl, h1, h2, _⟩ | ⟨rfl, rfl, rfl, _⟩ | ⟨rfl | rfl, rfl, h1, h2, _⟩ | ⟨rfl, h, rfl, _⟩ | ⟨rfl, h, rfl, _⟩
  · exact absurd h.1 hk
  · rfl
  · rfl
  · rfl
  · rfl
  · show Nd.mk 6 [] (atoiV (Lib.itoa n)) p = _
    rw [atoi_small h1 (by omega)]
  · rfl
  · show Nd.mk 8 [] (atoiV (Lib.itoa n)) p = _
    rw [atoi_small h1 (by omega)]
  · show Nd.mk 9 [] (atoiV (Lib.itoa n)) p = _
    rw [atoi_small h1 (by omega)]
  · rfl
  · rfl
theorem read_back : (∀ x, ∀ b w, allN b w x = 0 → ∀ M, rd (lexN x ++ M) = (x :: (rd M).1, (rd M).2)) ∧ ∀ l, ∀ b w, allL b w l = 0 → ∀ M, rd (lexL l ++ M) = (l ++ (rd M).1, (rd M).2) := by
  refine Nd.both (fun k t n p ih b w h M => ?_) (fun b w _ M => by rw [lexL]; rfl) (fun x l h1 h2 b w h M => ?_)
  · obtain ⟨hf, hp⟩ := allN_zero h
    rw [lexN]
    by_cases hk : k = 1
    · rw [if_pos hk, List.singleton_append, rd_other (by simp) (by simp)]
      have hn : n = 0 ∧ p = [] := by
        rcases hf with h | h | h | h | h | h | h | h
        · exact ⟨h.2.2.2.2.1, List.isEmpty_iff.1 h.2.2.2.2.2⟩
        all_goals omega
      rw [hk, hn.1, hn.2]
      rfl
    · rw [if_neg hk]
      cases he : p.isEmpty
      · have hf' := hf
        rw [he] at hf'
        rw [if_pos (fine_open hf').1, List.cons_append, rd_open rfl, List.append_assoc, ih false true hp, List.singleton_append, rd_close rfl]
        show (nodeX _ (p ++ []) :: (rd M).1, (rd M).2) = _
        rw [List.append_nil, node_back hf hk 2 (by decide)]
      · have hf' := hf
        rw [he] at hf'
        rw [(fine_empty hf' hk).1, if_neg (by decide), List.singleton_append, rd_other (by simp) (by simp), node_back hf hk 4 (by decide), List.isEmpty_iff.1 he]
  · obtain ⟨ha, hb⟩ := allL_cons h
    rw [lexL, List.append_assoc, h1 b w ha, h2 _ w hb]
    rfl
end Go.Proofs.YtmfcepfagbkceaaGreatDoor
namespace Go.Proofs.YtmfcepfagbkceaaGreatDoor
set_option linter.unusedSimpArgs false
set_option linter.unusedVariables false
theorem num_digs {m : Nat} (hm : m ≤ 99) {v : Bs} (h : numB m v = true) : v = digs (valN v) ∧ 1 ≤ valN v ∧ valN v ≤ m := by
  unfold numB at h
  simp only [Bool.and_eq_true, decide_eq_true_eq] at h
  obtain ⟨⟨⟨⟨hd, h0⟩, hl⟩, h1⟩, h2⟩ := h
  refine ⟨?_, h1, h2⟩
  have hdig : ∀ c ∈ v, 48 ≤ c.toNat ∧ c.toNat ≤ 57 := fun c hc => by
    have := List.all_eq_true.1 hd c hc
    unfold digC at this
    simpa using this
  have hof : ∀ c : UInt8, 48 ≤ c.toNat → UInt8.ofNat (48 + (c.toNat - 48)) = c := fun c hc => by
    rw [show 48 + (c.toNat - 48) = c.toNat by omega]; simp
  match v, hdig, h0, hl, h1, h2 with
  | [], _, _, _, h1, _ => simp [valN] at h1
  | [a], hdig, h0, _, h1, h2 =>
    have ha := hdig a (by simp)
    have e : valN [a] = a.toNat - 48 := by simp [valN]
    rw [e]
    unfold digs
    rw [if_pos (by omega), hof a ha.1]
  | [a, b], hdig, h0, _, h1, h2 =>
    have ha := hdig a (by simp)
    have hb := hdig b (by simp)
    have h48 : a.toNat ≠ 48 := fun e => h0 (by rw [List.head?_cons, UInt8.toNat.inj (show a.toNat = (48 : UInt8).toNat from e)])
    have e : valN [a, b] = 10 * (a.toNat - 48) + (b.toNat - 48) := by simp [valN]
    rw [e]
    unfold digs
    rw [if_neg (by omega), show (10 * (a.toNat - 48) + (b.toNat - 48)) / 10 = a.toNat - 48 by omega, show (10 * (a.toNat - 48) + (b.toNat - 48)) % 10 = b.toNat - 48 by omega, hof a ha.1, hof b hb.1]
  | [a, b, c], hdig, h0, _, h1, h2 =>
    have ha := hdig a (by simp)
    have h48 : a.toNat ≠ 48 := fun e => h0 (by rw [List.head?_cons, UInt8.toNat.inj (show a.toNat = (48 : UInt8).toNat from e)])
    have e : valN [a, b, c] = 10 * (10 * (a.toNat - 48) + (b.toNat - 48)) + (c.toNat - 48) := by simp [valN]
    rw [e] at h2; omega
  | [a, b, c, d], hdig, h0, _, h1, h2 =>
    have ha := hdig a (by simp)
    have h48 : a.toNat ≠ 48 := fun e => h0 (by rw [List.head?_cons, UInt8.toNat.inj (show a.toNat = (48 : UInt8).toNat from e)])
    have e : valN [a, b, c, d] = 10 * (10 * (10 * (a.toNat - 48) + (b.toNat - 48)) + (c.toNat - 48)) + (d.toNat - 48) := by simp [valN]
    rw [e] at h2; omega
  | _ :: _ :: _ :: _ :: _ :: _, _, _, hl, _, _ => simp at hl
theorem num_back {m : Nat} (hm : m ≤ 99) {v : Bs} (h : numB m v = true) : Lib.itoa (atoiV v) = v ∧ atoiV v = (valN v : Nat) := by
  obtain ⟨h1, h2, h3⟩ := num_digs hm h
  have e : Lib.itoa (valN v : Nat) = v := by
    rw [itoa_digs (by omega) (by omega), Int.toNat_natCast]; exact h1.symm
  have e2 : atoiV v = (valN v : Nat) := by
    have := atoi_small (n := (valN v : Nat)) (by omega) (by omega)
    rwa [e] at this
  exact ⟨by rw [e2]; exact e, e2⟩
def okT (x : Lx) : Prop := (x.k = 1 ∧ x.n = []) ∨ goodT x.k x.n x.v = true
theorem okT_of {p : Bool} {x : Lx} (h : okX p x = true) : okT x := by
  by_cases hk : x.k = 1
  · exact .inl ⟨hk, (ok_text h hk).1⟩
  · exact .inr (ok_tag h hk)
theorem okL_T : ∀ {L : List Lx} {p : Bool}, okL p L = true → ∀ x ∈ L, okT x
  | [], _, _, _, h => by cases h
  | y :: L, p, h, x, hx => by
    rw [okL, Bool.and_eq_true] at h
    rcases List.mem_cons.1 hx with rfl | hx
    · exact okT_of h.1
    · exact okL_T h.2 x hx
theorem good_open {n v : Bs} (h : goodT 2 n v = true) : partsK (kOf n) = true ∧ kOf n ≠ 1 ∧ nmK (kOf n) = n ∧ valX (kOf n) (if textsK (kOf n) then v else []) (if numsK (kOf n) then atoiV v else 0) = v := by
  unfold goodT at h
  simp only [show decide ((2 : Int) = 2) = true from rfl, show decide ((2 : Int) = 3) = false from rfl, show decide ((2 : Int) = 4) = false from rfl, Bool.true_and, Bool.false_and, Bool.or_false, Bool.and_eq_true, Bool.not_eq_true'] at h
  obtain ⟨_, ⟨g1, h2⟩, h3⟩ := h
  have h1 : isTag n = true := g1
  clear g1
  unfold isTag tagsL at h1
  simp only [List.contains_cons, List.contains_nil, Bool.or_false, Bool.or_eq_true, beq_iff_eq] at h1
  rcases h1 with rfl | rfl | rfl | rfl | rfl | rfl | rfl | rfl | rfl | rfl
  · exact ⟨by decide, by decide, by decide, rfl⟩
  · exact ⟨by decide, by decide, by decide, (num_back (m := 8) (by omega) h3).1⟩
  · exact ⟨by decide, by decide, by decide, (num_back (m := 8) (by omega) h3).1⟩
  · exact absurd h2 (by decide)
  · exact absurd h2 (by decide)
  · exact ⟨by decide, by decide, by decide, rfl⟩
  · exact absurd h2 (by decide)
  · exact absurd h2 (by decide)
  · refine ⟨by decide, by decide, by decide, ?_⟩
    have hv : v = [] := by simpa [rightB, tUn, tLb, tV] using h3
    rw [hv]; rfl
  · exact absurd h2 (by decide)
theorem good_empty {n v : Bs} (h : goodT 4 n v = true) : partsK (kOf n) = false ∧ kOf n ≠ 1 ∧ nmK (kOf n) = n ∧ valX (kOf n) (if textsK (kOf n) then v else []) (if numsK (kOf n) then atoiV v else 0) = v := by
  unfold goodT at h
  simp only [show decide ((4 : Int) = 2) = false from rfl, show decide ((4 : Int) = 3) = false from rfl, show decide ((4 : Int) = 4) = true from rfl, Bool.true_and, Bool.false_and, Bool.false_or, Bool.and_eq_true] at h
  obtain ⟨_, ⟨_, g2⟩, h3⟩ := h
  have h2 : emptyT n = true := g2
  clear g2
  unfold emptyT at h2
  simp only [List.contains_cons, List.contains_nil, Bool.or_false, Bool.or_eq_true, beq_iff_eq] at h2
  rcases h2 with rfl | rfl | rfl | rfl | rfl
  · refine ⟨by decide, by decide, by decide, ?_⟩
    have hv : v = [] := by simpa [rightB, tUn, tLb, tV] using h3
    rw [hv]; rfl
  · refine ⟨by decide, by decide, by decide, ?_⟩
    have hv : v = [] := by simpa [rightB, tUn, tLb, tV] using h3
    rw [hv]; rfl
  · exact ⟨by decide, by decide, by decide, rfl⟩
  · exact ⟨by decide, by decide, by decide, rfl⟩
  · exact ⟨by decide, by decide, by decide, (num_back (m := 64) (by omega) h3).1⟩
theorem good_close {n v : Bs} (h : goodT 3 n v = true) : v = [] := by
  have := (good_tag h).2.2.2.1 rfl
  exact this
theorem lex_node {x : Lx} (hx : okT x) (p : List Nd) (h2 : x.k = 2) : lexN (nodeX x p) = er x :: (lexL p ++ [⟨3, x.n, [], 0⟩]) := by
  have hg : goodT 2 x.n x.v = true := by
    rcases hx with h | h
    · omega
    · rwa [h2] at h
  obtain ⟨g1, g2, g3, g4⟩ := good_open hg
  unfold nodeX
  rw [if_neg (by omega), lexN, if_neg g2, if_pos g1, g3, g4]
  show _ = (⟨x.k, x.n, x.v, 0⟩ : Lx) :: _
  rw [h2]
theorem lex_leaf {x : Lx} (hx : okT x) (h2 : x.k ≠ 2) (h3 : x.k ≠ 3) : lexN (nodeX x []) = [er x] := by
  unfold nodeX er
  rcases hx with ⟨h1, hn⟩ | hg
  · rw [if_pos h1, lexN, if_pos rfl, h1, hn]
  · have h4 : x.k = 4 := by
      rcases (good_tag hg).1 with h | h | h
      · exact absurd h h2
      · exact absurd h h3
      · exact h
    rw [h4] at hg
    obtain ⟨g1, g2, g3, g4⟩ := good_empty hg
    rw [if_neg (by omega), lexN, if_neg g2, g1, if_neg (by decide), g3, g4, h4]
theorem lex_read : ∀ (m : Nat) (L : List Lx) (st : List Bs), L.length ≤ m → (∀ x ∈ L, okT x) → runS st L = (0, []) →
    L.map er = lexL (rd L).1 ++ (rd L).2.map er ∧ (∀ x ∈ (rd L).2, okT x) ∧ (rd L).2.length ≤ L.length ∧ (st = [] → (rd L).2 = []) ∧ (∀ t st', st = t :: st' → ∃ y M, (rd L).2 = y :: M ∧ y.k = 3 ∧ y.n = t ∧ runS st' M = (0, []))
  | _, [], st, _, _, hr => by
    have hst : st = [] := by
      have : runS st [] = (0, st) := by rw [runS.eq_def]
      rw [this] at hr; cases hr; rfl
    rw [rd_nil]
    refine ⟨by simp [lexL], fun _ h => (by cases h), Nat.le_refl _, fun _ => rfl, fun t st' h => ?_⟩
    rw [hst] at h; cases h
  | 0, x :: L, _, h, _, _ => by simp at h
  | m + 1, x :: L, st, hm, hok, hr => by
    rw [List.length_cons] at hm
    have hx := hok x (by simp)
    have hL : ∀ y ∈ L, okT y := fun y hy => hok y (by simp [hy])
    rw [runS_cons] at hr
    by_cases h3 : x.k = 3
    · rw [if_neg (by omega), if_pos h3] at hr
      rw [rd_close h3]
      refine ⟨by simp [lexL], hok, Nat.le_refl _, fun e => ?_, fun t st' e => ?_⟩
      · rw [e] at hr; cases hr
      · rw [e] at hr
        have hr : (if t = x.n then runS st' L else (12, [])) = (0, []) := hr
        by_cases ht : t = x.n
        · rw [if_pos ht] at hr
          exact ⟨x, L, rfl, h3, ht.symm, hr⟩
        · rw [if_neg ht] at hr; cases hr
    · by_cases h2 : x.k = 2
      · rw [if_pos h2] at hr
        split at hr
        · cases hr
        · obtain ⟨a1, a2, a3, _, a5⟩ := lex_read m L (x.n :: st) (by omega) hL hr
          obtain ⟨y, M, e1, e2, e3, e4⟩ := a5 _ _ rfl
          rw [e1] at a1 a2 a3
          rw [List.length_cons] at a3
          have hM : ∀ z ∈ M, okT z := fun z hz => a2 z (by simp [hz])
          obtain ⟨b1, b2, b3, b4, b5⟩ := lex_read m M st (by omega) hM e4
          rw [rd_open h2, e1, List.drop_one, List.tail_cons]
          refine ⟨?_, b2, by rw [List.length_cons]; show (rd M).2.length ≤ _; omega, b4, b5⟩
          have hy : er y = ⟨3, x.n, [], 0⟩ := by
            have hv : y.v = [] := by
              rcases a2 y (by simp) with h | h
              · omega
              · rw [e2] at h; exact good_close h
            unfold er
            rw [e2, e3, hv]
          show er x :: L.map er = lexN (nodeX x (rd L).1) ++ lexL (rd M).1 ++ (rd M).2.map er
          rw [lex_node hx _ h2, a1, List.map_cons, hy, b1]
          simp
      · rw [if_neg h2, if_neg h3] at hr
        obtain ⟨a1, a2, a3, a4, a5⟩ := lex_read m L st (by omega) hL hr
        rw [rd_other h3 h2]
        refine ⟨?_, a2, by rw [List.length_cons]; show (rd L).2.length ≤ _; omega, a4, a5⟩
        show er x :: L.map er = lexN (nodeX x []) ++ lexL (rd L).1 ++ (rd L).2.map er
        rw [lex_leaf hx h2 h3, a1]
        simp
def parseR (s : Bs) : List Nd × Int :=
  if (scanR s).2 ≠ 0 then ([], (scanR s).2) else if nestR (scanR s).1 ≠ 0 then ([], nestR (scanR s).1)
  else if ckR (rd (scanR s).1).1 ≠ 0 then ([], ckR (rd (scanR s).1).1) else ((rd (scanR s).1).1, 0)
def printT (l : List Nd) : Bs × Int := if ckR l = 0 then (outL l, 0) else ([], 1)
theorem prn_er (L : List Lx) : prn (L.map er) = prn L := by
  unfold prn
  rw [List.map_map]
  rfl
theorem ck_zero {l : List Nd} (h : ckR l = 0) : tots l ≤ 4096 ∧ deps l ≤ 16 ∧ allL false false l = 0 ∧ (outL l).length ≤ 65536 := by
  unfold ckR at h
  split at h
  · rename_i h1
    split at h
    · exact absurd h (by assumption)
    · rename_i h2
      split at h
      · cases h
      · exact ⟨h1.1, h1.2, Classical.not_not.1 h2, by omega⟩
  · cases h
theorem er_reAt : ∀ (L : List Lx) (o : Nat), (reAt o L).map er = L.map er
  | [], _ => rfl
  | x :: L, o => by rw [reAt, List.map_cons, List.map_cons, er_reAt L]; rfl
theorem er_lex : (∀ x, (lexN x).map er = lexN x) ∧ ∀ l, (lexL l).map er = lexL l := by
  refine Nd.both (fun k t n p ih => ?_) (by rw [lexL]; rfl) (fun x l h1 h2 => by rw [lexL, List.map_append, h1, h2])
  rw [lexN]
  split
  · rfl
  · split
    · rw [List.map_cons, List.map_append, ih]; rfl
    · rfl
theorem parse_print {l : List Nd} (h : ckR l = 0) : parseR (outL l) = (l, 0) := by
  obtain ⟨h1, h2, h3, h4⟩ := ck_zero h
  have hok := lex_ok.2 l false false h3
  obtain ⟨k1, k2⟩ := okL_val (lexL l) false 0 hok
  have hs : scanR (outL l) = (reAt 0 (lexL l), 0) := scan_iff.2 ⟨h4, k1, k2⟩
  have hn : nestR (reAt 0 (lexL l)) = 0 := by
    unfold nestR
    rw [if_pos (chk_iff.2 ⟨k1, by rw [k2]; exact h4⟩), nest_reAt, nest_zero]
    exact lex_run.2 l false false h3 [] (by simpa using h2)
  have hr : (rd (reAt 0 (lexL l))).1 = l := by
    have e := rd_er (reAt 0 (lexL l))
    rw [er_reAt, er_lex.2 l] at e
    have e2 := read_back.2 l false false h3 []
    rw [List.append_nil, rd_nil] at e2
    rw [e2] at e
    have := congrArg Prod.fst e
    simpa using this.symm
  unfold parseR
  rw [hs]
  show (if (0 : Int) ≠ 0 then _ else if nestR (reAt 0 (lexL l)) ≠ 0 then _ else _) = _
  rw [if_neg (by decide), hn, if_neg (by decide)]
  show (if ckR (rd (reAt 0 (lexL l))).1 ≠ 0 then _ else _) = _
  rw [hr, h, if_neg (by decide)]
theorem print_parse {s : Bs} {l : List Nd} (h : parseR s = (l, 0)) : ckR l = 0 ∧ outL l = s ∧ (scanR s).2 = 0 ∧ nestR (scanR s).1 = 0 ∧ l = (rd (scanR s).1).1 ∧ (scanR s).1.map er = lexL l := by
  unfold parseR at h
  split at h
  · rename_i h0; exact absurd (congrArg Prod.snd h) h0
  · rename_i h0
    split at h
    · rename_i h1; exact absurd (congrArg Prod.snd h) h1
    · rename_i h1
      split at h
      · rename_i h2; exact absurd (congrArg Prod.snd h) h2
      · rename_i h2
        have h0 := Classical.not_not.1 h0
        have h1 := Classical.not_not.1 h1
        have h2 := Classical.not_not.1 h2
        obtain ⟨L, hL⟩ : ∃ L, (scanR s).1 = L := ⟨_, rfl⟩
        have hs : scanR s = (L, 0) := Prod.ext hL h0
        have hl := (congrArg Prod.fst h).symm
        rw [hL] at h1 h2 hl ⊢
        obtain ⟨s1, s2, s3⟩ := scan_iff.1 hs
        have hc : chkR L = 0 := chk_iff.2 ⟨s2, by rw [s3]; exact s1⟩
        have hrun : runS [] L = (0, []) := by
          unfold nestR at h1
          rw [if_pos hc] at h1
          exact nest_zero.1 h1
        obtain ⟨a1, _, _, a4, _⟩ := lex_read L.length L [] (Nat.le_refl _) (okL_T (val_okL L false 0 s2)) hrun
        rw [a4 rfl, List.map_nil, List.append_nil] at a1
        have hl : l = (rd L).1 := hl
        rw [← hl] at a1 h2
        refine ⟨h2, ?_, h0, h1, hl, a1⟩
        unfold outL
        rw [← a1, prn_er, s3]
end Go.Proofs.YtmfcepfagbkceaaGreatDoor
namespace Go.Proofs.YtmfcepfagbkceaaGreatDoor
set_option linter.unusedSimpArgs false
set_option linter.unusedVariables false
mutual
def chrN : Nd → Bs
  | .mk k t _ p => (if k = 1 then t else []) ++ chrL p
def chrL : List Nd → Bs
  | [] => []
  | x :: l => chrN x ++ chrL l
end
mutual
def cntN (c : Int) : Nd → Nat
  | .mk k _ _ p => (if k = c then 1 else 0) + cntL c p
def cntL (c : Int) : List Nd → Nat
  | [] => 0
  | x :: l => cntN c x + cntL c l
end
theorem chr_append : ∀ (a b : List Nd), chrL (a ++ b) = chrL a ++ chrL b
  | [], b => by simp [chrL]
  | x :: a, b => by rw [List.cons_append, chrL, chrL, chr_append a b, List.append_assoc]
theorem cnt_append (c : Int) : ∀ (a b : List Nd), cntL c (a ++ b) = cntL c a + cntL c b
  | [], b => by simp [cntL]
  | x :: a, b => by rw [List.cons_append, cntL, cntL, cnt_append c a b]; omega
theorem deps_append : ∀ (a b : List Nd), deps (a ++ b) = max (deps a) (deps b)
  | [], b => by simp [deps]
  | x :: a, b => by rw [List.cons_append, deps, deps, deps_append a b]; omega
theorem tots_append : ∀ (a b : List Nd), tots (a ++ b) = tots a + tots b
  | [], b => by simp [tots]
  | x :: a, b => by rw [List.cons_append, tots, tots, tots_append a b]; omega
theorem fine_text {k : Int} {t : Bs} {n : Int} {e b w : Bool} (h : Fine k t n e b w) (hk : k = 1) : t ≠ [] ∧ b = false ∧ e = true ∧ n = 0 := by
  rcases h with h | h | h | h | h | h | h | h
  · exact ⟨h.2.1, h.2.2.2.1, h.2.2.2.2.2, h.2.2.2.2.1⟩
  all_goals omega
theorem chr_lex : (∀ x, ∀ b w, allN b w x = 0 → chrN x = strp (lexN x)) ∧ ∀ l, ∀ b w, allL b w l = 0 → chrL l = strp (lexL l) := by
  refine Nd.both (fun k t n p ih b w h => ?_) (fun b w _ => by rw [chrL, lexL]; rfl) (fun x l h1 h2 b w h => ?_)
  · obtain ⟨hf, hp⟩ := allN_zero h
    rw [chrN, lexN]
    by_cases hk : k = 1
    · have := List.isEmpty_iff.1 (fine_text hf hk).2.2.1
      rw [if_pos hk, if_pos hk, this, chrL]
      simp [strp]
    · rw [if_neg hk, if_neg hk, List.nil_append]
      cases he : p.isEmpty
      · rw [he] at hf
        rw [if_pos (fine_open hf).1, ih false true hp, ← List.singleton_append, strp_append, strp_append]
        simp [strp]
      · rw [he] at hf
        rw [(fine_empty hf hk).1, if_neg (by decide), List.isEmpty_iff.1 he, chrL]
        simp [strp]
  · obtain ⟨ha, hb⟩ := allL_cons h
    rw [chrL, lexL, strp_append, h1 b w ha, h2 _ w hb]
def nclL (L : List Lx) : Nat := (L.filter fun x => decide (x.k ≠ 3)).length
theorem ncl_append (A B : List Lx) : nclL (A ++ B) = nclL A + nclL B := by unfold nclL; rw [List.filter_append, List.length_append]
theorem ncl_er (L : List Lx) : nclL (L.map er) = nclL L := by
  unfold nclL
  rw [List.filter_map, List.length_map]
  rfl
theorem ncl_lex : (∀ x, ∀ b w, allN b w x = 0 → nclL (lexN x) = tot x) ∧ ∀ l, ∀ b w, allL b w l = 0 → nclL (lexL l) = tots l := by
  refine Nd.both (fun k t n p ih b w h => ?_) (fun b w _ => by rw [tots, lexL]; rfl) (fun x l h1 h2 b w h => ?_)
  · obtain ⟨hf, hp⟩ := allN_zero h
    rw [tot, lexN]
    by_cases hk : k = 1
    · rw [if_pos hk, List.isEmpty_iff.1 (fine_text hf hk).2.2.1, tots]; rfl
    · rw [if_neg hk]
      cases he : p.isEmpty
      · rw [he] at hf
        rw [if_pos (fine_open hf).1, ← List.singleton_append, ncl_append, ncl_append, ih false true hp]
        simp [nclL]
      · rw [he] at hf
        rw [(fine_empty hf hk).1, if_neg (by decide), List.isEmpty_iff.1 he, tots]; rfl
  · obtain ⟨ha, hb⟩ := allL_cons h
    rw [tots, lexL, ncl_append, h1 b w ha, h2 _ w hb]
def sumK (f : Int → Nat) : Nat := f 1 + f 2 + f 3 + f 4 + f 5 + f 6 + f 7 + f 8 + f 9 + f 10 + f 11
theorem fine_kind {k : Int} {t : Bs} {n : Int} {e b w : Bool} (h : Fine k t n e b w) : 1 ≤ k ∧ k ≤ 11 := by
  rcases h with h | h | h | h | h | h | h | h <;> omega
theorem sum_cnt : (∀ x, ∀ b w, allN b w x = 0 → sumK (fun c => cntN c x) = tot x) ∧ ∀ l, ∀ b w, allL b w l = 0 → sumK (fun c => cntL c l) = tots l := by
  refine Nd.both (fun k t n p ih b w h => ?_) (fun b w _ => by simp [sumK, cntL, tots]) (fun x l h1 h2 b w h => ?_)
  · obtain ⟨hf, hp⟩ := allN_zero h
    have hk := fine_kind hf
    have hi := ih false true hp
    unfold sumK at hi ⊢
    simp only [cntN, tot] at hi ⊢
    have hk : k = 1 ∨ k = 2 ∨ k = 3 ∨ k = 4 ∨ k = 5 ∨ k = 6 ∨ k = 7 ∨ k = 8 ∨ k = 9 ∨ k = 10 ∨ k = 11 := by omega
    rcases hk with rfl | rfl | rfl | rfl | rfl | rfl | rfl | rfl | rfl | rfl | rfl <;> simp <;> omega
  · obtain ⟨ha, hb⟩ := allL_cons h
    have e1 := h1 b w ha
    have e2 := h2 _ w hb
    unfold sumK at e1 e2 ⊢
    dsimp only at e1 e2
    simp only [cntL, tots]
    omega
theorem parse_lexemes {s : Bs} {l : List Nd} (h : parseR s = (l, 0)) : chrL l = (stripR s).1 ∧ sumK (fun c => cntL c l) = nclL (scanR s).1 := by
  obtain ⟨h1, _, _, _, _, h6⟩ := print_parse h
  obtain ⟨_, _, h3, _⟩ := ck_zero h1
  refine ⟨?_, ?_⟩
  · rw [chr_lex.2 l false false h3, ← h6]
    show _ = strp (scanR s).1
    unfold strp
    rw [List.map_map]
    rfl
  · rw [sum_cnt.2 l false false h3, ← ncl_lex.2 l false false h3, ← h6, ncl_er]
def pushM (out : List Nd) (x : Nd) : List Nd := match out.getLast? with
  | some y => if x.kd = 1 ∧ y.kd = 1 then out.dropLast ++ [.mk y.kd (y.tx ++ x.tx) y.nm y.ps] else out ++ [x]
  | none => out ++ [x]
mutual
def mrgN : Nd → Nd
  | .mk k t n p => .mk k t n (mrgL [] p)
def mrgL : List Nd → List Nd → List Nd
  | out, [] => out
  | out, x :: l => if x.kd = 1 ∧ x.tx = [] then mrgL out l else mrgL (pushM out (mrgN x)) l
end
theorem mrg_kd (x : Nd) : (mrgN x).kd = x.kd ∧ (mrgN x).tx = x.tx ∧ (mrgN x).nm = x.nm ∧ (mrgN x).ps = mrgL [] x.ps := by
  obtain ⟨k, t, n, p⟩ := x
  rw [mrgN]; exact ⟨rfl, rfl, rfl, rfl⟩
mutual
def mgdN (b : Bool) : Nd → Bool
  | .mk k t _ p => !(decide (k = 1) && (t.isEmpty || b)) && mgdL false p
def mgdL (b : Bool) : List Nd → Bool
  | [] => true
  | x :: l => mgdN b x && mgdL (decide (x.kd = 1)) l
end
def lastN (out : List Nd) : Bool := match out.getLast? with | some y => decide (y.kd = 1) | none => false
theorem last_push (out : List Nd) (x : Nd) : lastN (out ++ [x]) = decide (x.kd = 1) := by unfold lastN; simp
theorem push_new {out : List Nd} {x : Nd} (h : x.kd = 1 → lastN out = false) : pushM out x = out ++ [x] := by
  unfold pushM
  split
  · rename_i y hy
    rw [if_neg]
    rintro ⟨h1, h2⟩
    have := h h1
    unfold lastN at this
    rw [hy] at this
    simp [h2] at this
  · rfl
theorem mrg_same : (∀ x, ∀ b, mgdN b x = true → mrgN x = x ∧ ¬ (x.kd = 1 ∧ x.tx = []) ∧ (x.kd = 1 → b = false)) ∧ ∀ l, ∀ b out, mgdL b l = true → (b = lastN out) → mrgL out l = out ++ l := by
  refine Nd.both (fun k t n p ih b h => ?_) (fun b out _ _ => by rw [mrgL]; simp) (fun x l h1 h2 b out h hb => ?_)
  · rw [mgdN, Bool.and_eq_true] at h
    rw [mrgN, ih false [] h.2 rfl, List.nil_append]
    have h0 := h.1
    refine ⟨rfl, ?_, ?_⟩
    · rintro ⟨e1, e2⟩
      have e1 : k = 1 := e1
      have e2 : t = [] := e2
      rw [e1, e2] at h0
      simp at h0
    · intro e1
      have e1 : k = 1 := e1
      rw [e1] at h0
      cases b
      · rfl
      · simp at h0
  · rw [mgdL, Bool.and_eq_true] at h
    obtain ⟨k1, k2, k3⟩ := h1 b h.1
    rw [mrgL, if_neg k2, k1, push_new (fun e => by rw [← hb]; exact k3 e), h2 _ (out ++ [x]) h.2 (last_push out x).symm, List.append_assoc]
    rfl
theorem all_mgd : (∀ x, ∀ b w, allN b w x = 0 → mgdN b x = true) ∧ ∀ l, ∀ b w, allL b w l = 0 → mgdL b l = true := by
  refine Nd.both (fun k t n p ih b w h => ?_) (fun b w _ => by rw [mgdL]) (fun x l h1 h2 b w h => ?_)
  · obtain ⟨hf, hp⟩ := allN_zero h
    rw [mgdN, ih false true hp, Bool.and_true]
    by_cases hk : k = 1
    · obtain ⟨f1, f2, _⟩ := fine_text hf hk
      rw [f2]
      simp [f1]
    · simp [hk]
  · obtain ⟨ha, hb⟩ := allL_cons h
    rw [mgdL, h1 b w ha, h2 _ w hb]
    rfl
theorem mrg_valid {l : List Nd} (h : allL false false l = 0) : mrgL [] l = l := by
  rw [mrg_same.2 l false [] (all_mgd.2 l false false h) rfl, List.nil_append]
mutual
def flatN : Nd → Bool
  | .mk k _ _ p => (!decide (k = 1) || p.isEmpty) && flatL p
def flatL : List Nd → Bool
  | [] => true
  | x :: l => flatN x && flatL l
end
theorem mgdL_append : ∀ (a b : List Nd) (p : Bool), mgdL p (a ++ b) = (mgdL p a && mgdL (match a.getLast? with | some y => decide (y.kd = 1) | none => p) b)
  | [], b, p => by simp [mgdL]
  | x :: a, b, p => by
    rw [List.cons_append, mgdL, mgdL, mgdL_append a b, Bool.and_assoc]
    cases h : a.getLast? with
    | none =>
      have : a = [] := by simpa using h
      subst this
      simp
    | some y => rw [List.getLast?_cons, h]; rfl
theorem push_mgd {out : List Nd} {x : Nd} (ho : mgdL false out = true) (hx : ∀ b, (x.kd = 1 → b = false) → mgdN b x = true) : mgdL false (pushM out x) = true := by
  by_cases hm : x.kd = 1 ∧ lastN out = true
  · obtain ⟨h1, h2⟩ := hm
    unfold lastN at h2
    split at h2
    · rename_i y hy
      have hyk : y.kd = 1 := by simpa using h2
      obtain ⟨o, rfl⟩ := List.getLast?_eq_some_iff.1 hy
      have e : pushM (o ++ [y]) x = o ++ [.mk y.kd (y.tx ++ x.tx) y.nm y.ps] := by
        unfold pushM
        rw [hy]
        show (if x.kd = 1 ∧ y.kd = 1 then _ else _) = _
        rw [if_pos ⟨h1, hyk⟩, List.dropLast_concat]
      rw [e, mgdL_append]
      rw [mgdL_append] at ho
      rw [Bool.and_eq_true] at ho ⊢
      refine ⟨ho.1, ?_⟩
      obtain ⟨yk, yt, yn, yp⟩ := y
      have h3 := ho.2
      rw [mgdL, mgdN, Bool.and_eq_true, Bool.and_eq_true] at h3 ⊢
      refine ⟨⟨?_, h3.1.2⟩, rfl⟩
      have h4 := h3.1.1
      show (!(decide (yk = 1) && ((yt ++ x.tx).isEmpty || _))) = true
      cases yt with
      | nil =>
        have hyk : yk = 1 := hyk
        rw [hyk] at h4
        simp at h4
      | cons c r => simpa using h4
    · cases h2
  · have hn : x.kd = 1 → lastN out = false := fun e => by
      cases h : lastN out
      · rfl
      · exact absurd ⟨e, h⟩ hm
    rw [push_new hn, mgdL_append, ho, Bool.true_and, mgdL]
    have : mgdN (match out.getLast? with | some y => decide (y.kd = 1) | none => false) x = true := hx _ (fun e => by have := hn e; unfold lastN at this; exact this)
    rw [this, mgdL]
    rfl
theorem mrg_mgd : (∀ x, ¬ (x.kd = 1 ∧ x.tx = []) → ∀ b, (x.kd = 1 → b = false) → mgdN b (mrgN x) = true) ∧ ∀ l, ∀ out, mgdL false out = true → mgdL false (mrgL out l) = true := by
  refine Nd.both (fun k t n p ih h b hb => ?_) (fun out h => by rw [mrgL]; exact h) (fun x l h1 h2 out h => ?_)
  · rw [mrgN, mgdN, ih [] rfl, Bool.and_true]
    by_cases hk : k = 1
    · have ht : t ≠ [] := fun e => h ⟨hk, e⟩
      rw [hb hk]
      simp [ht]
    · simp [hk]
  · rw [mrgL]
    split
    · exact h2 out h
    · rename_i hx
      exact h2 _ (push_mgd h (fun b hb => h1 hx b (fun e => hb (by rw [(mrg_kd x).1]; exact e))))
theorem push_chr {out : List Nd} {x : Nd} (hf : x.kd = 1 → x.ps = []) (ho : ∀ y ∈ out, y.kd = 1 → y.ps = []) : chrL (pushM out x) = chrL out ++ chrN x := by
  unfold pushM
  split
  · rename_i y hy
    split
    · rename_i hxy
      obtain ⟨o, rfl⟩ := List.getLast?_eq_some_iff.1 hy
      rw [List.dropLast_concat, chr_append, chr_append]
      have hx := hf hxy.1
      have hyp := ho y (by simp) hxy.2
      obtain ⟨xk, xt, xn, xp⟩ := x
      obtain ⟨yk, yt, yn, yp⟩ := y
      have e1 : xk = 1 := hxy.1
      have e2 : yk = 1 := hxy.2
      have e3 : xp = [] := hx
      have e4 : yp = [] := hyp
      subst e1 e2 e3 e4
      simp [chrL, chrN, Nd.tx, Nd.kd, Nd.ps]
    · rw [chr_append]; simp [chrL]
  · rw [chr_append]; simp [chrL]
theorem push_flat {out : List Nd} {x : Nd} (hf : x.kd = 1 → x.ps = []) (ho : ∀ y ∈ out, y.kd = 1 → y.ps = []) : ∀ y ∈ pushM out x, y.kd = 1 → y.ps = [] := by
  unfold pushM
  split
  · rename_i z hz
    split
    · rename_i hxz
      intro y hy
      rcases List.mem_append.1 hy with hy | hy
      · exact ho y (List.dropLast_subset _ hy)
      · rw [List.mem_singleton] at hy
        subst hy
        intro _
        exact ho z (List.mem_of_getLast? hz) hxz.2
    · intro y hy
      rcases List.mem_append.1 hy with hy | hy
      · exact ho y hy
      · rw [List.mem_singleton] at hy; subst hy; exact hf
  · intro y hy
    rcases List.mem_append.1 hy with hy | hy
    · exact ho y hy
    · rw [List.mem_singleton] at hy; subst hy; exact hf
theorem mrg_chr : (∀ x, flatN x = true → chrN (mrgN x) = chrN x ∧ ((mrgN x).kd = 1 → (mrgN x).ps = [])) ∧ ∀ l, ∀ out, flatL l = true → (∀ y ∈ out, y.kd = 1 → y.ps = []) → chrL (mrgL out l) = chrL out ++ chrL l := by
  refine Nd.both (fun k t n p ih h => ?_) (fun out _ _ => by rw [mrgL, chrL]; simp) (fun x l h1 h2 out h ho => ?_)
  · rw [flatN, Bool.and_eq_true] at h
    rw [mrgN, chrN, chrN, ih [] h.2 (fun y hy => by cases hy)]
    refine ⟨by simp [chrL], fun e => ?_⟩
    have e : k = 1 := e
    have := h.1
    rw [e] at this
    have hp : p = [] := by simpa using this
    rw [hp]
    show mrgL [] [] = []
    rw [mrgL]
  · rw [flatL, Bool.and_eq_true] at h
    rw [mrgL]
    split
    · rename_i hx
      rw [h2 out h.2 ho, chrL]
      have : chrN x = [] := by
        obtain ⟨k, t, n, p⟩ := x
        have e1 : k = 1 := hx.1
        have e2 : t = [] := hx.2
        have := h.1
        rw [flatN, Bool.and_eq_true] at this
        rw [e1] at this
        have hp : p = [] := by simpa using this.1
        rw [chrN, e2, hp, chrL]
        simp
      rw [this, List.nil_append]
    · obtain ⟨k1, k2⟩ := h1 h.1
      rw [h2 _ h.2 (push_flat k2 ho), push_chr k2 ho, k1, chrL, List.append_assoc]
end Go.Proofs.YtmfcepfagbkceaaGreatDoor
namespace Go.Proofs.YtmfcepfagbkceaaGreatDoor
set_option linter.unusedSimpArgs false
set_option linter.unusedVariables false
mutual
def preN (d : Nat) : Nd → List (Nat × Nd)
  | .mk k t n p => (d, .mk k t n p) :: preL (d + 1) p
def preL (d : Nat) : List Nd → List (Nat × Nd)
  | [] => []
  | x :: l => preN d x ++ preL d l
end
theorem preN_eq (d : Nat) (x : Nd) : preN d x = (d, x) :: preL (d + 1) x.ps := by obtain ⟨k, t, n, p⟩ := x; rw [preN]; rfl
theorem preL_append (d : Nat) : ∀ a b : List Nd, preL d (a ++ b) = preL d a ++ preL d b
  | [], b => by rw [preL]; rfl
  | x :: a, b => by rw [List.cons_append, preL, preL, preL_append d a b, List.append_assoc]
theorem pre_len : (∀ x, ∀ d, (preN d x).length = tot x) ∧ ∀ l, ∀ d, (preL d l).length = tots l := by
  refine Nd.both (fun k t n p ih d => ?_) (fun d => by rw [preL, tots]; rfl) (fun x l h1 h2 d => ?_)
  · rw [preN, List.length_cons, ih, tot]; omega
  · rw [preL, List.length_append, h1, h2, tots]
theorem preL_step (d : Nat) {l : List Nd} {j : Nat} (h : j < l.length) : preL d (l.take (j + 1)) = preL d (l.take j) ++ ((d, l[j]) :: preL (d + 1) l[j].ps) := by
  rw [List.take_succ_eq_append_getElem h, preL_append]
  congr 1
  rw [preL, preL, List.append_nil, preN_eq]
theorem preL_pre (d : Nat) (l : List Nd) (j : Nat) : preL d (l.take j) <+: preL d l := by
  have := preL_append d (l.take j) (l.drop j)
  rw [List.take_append_drop] at this
  exact ⟨_, this.symm⟩
def topD (m : Nat) (L : List (Nat × Nd)) : Nat := L.foldl (fun m p => max m p.1) m
theorem topD_append (m : Nat) (A B : List (Nat × Nd)) : topD m (A ++ B) = topD (topD m A) B := by unfold topD; rw [List.foldl_append]
theorem topD_pre : (∀ x, ∀ d m, topD m (preN d x) = max m (d + dep x)) ∧ ∀ l, ∀ d m, topD m (preL d l) = if l = [] then m else max m (d + deps l) := by
  refine Nd.both (fun k t n p ih d m => ?_) (fun d m => by rw [preL]; rfl) (fun x l h1 h2 d m => ?_)
  · rw [preN]
    show topD (max m d) (preL (d + 1) p) = _
    rw [ih, dep]
    cases p with
    | nil => simp
    | cons y p => simp; try omega
  · rw [preL, topD_append, h1, h2, deps]
    cases l with
    | nil => simp [deps]
    | cons y l => simp
theorem topD_all (l : List Nd) : topD 0 (preL 0 l) = deps l := by
  rw [topD_pre.2]
  cases l with
  | nil => rfl
  | cons y l => simp
def largeB (l : List Nd) : Bool := decide (4096 < ((preL 0 l).take 4097).length) || decide (16 < topD 0 ((preL 0 l).take 4097))
theorem large_is (l : List Nd) : largeB l = !decide (tots l ≤ 4096 ∧ deps l ≤ 16) := by
  unfold largeB
  rw [List.length_take, pre_len.2]
  by_cases h : tots l ≤ 4096
  · rw [List.take_of_length_le (by rw [pre_len.2]; omega), topD_all]
    by_cases h2 : deps l ≤ 16
    · simp [h, h2]; omega
    · simp [h, h2]; omega
  · simp [h]; omega
theorem take_all {l : List Nd} (h : tots l ≤ 4096) : (preL 0 l).take 4097 = preL 0 l := List.take_of_length_le (by rw [pre_len.2]; omega)
def alone (x : Nd) : Int := sgl x.kd x.tx x.nm x.ps.isEmpty false false
theorem alone_sgl (x : Nd) (b w : Bool) : sgl x.kd x.tx x.nm x.ps.isEmpty b w = if alone x ≠ 0 then alone x else if x.kd = 1 ∧ b = true then 10 else if x.kd = 4 ∧ w = true then 12 else 0 := by
  unfold alone
  generalize x.kd = k
  generalize x.tx = t
  generalize x.nm = n
  generalize x.ps.isEmpty = e
  unfold sgl
  by_cases h8 : k < 1 ∨ 11 < k ∨ (t ≠ [] ∧ textsK k = false) ∨ (n ≠ 0 ∧ numsK k = false) ∨ (e = false ∧ partsK k = false)
  · rw [if_pos h8, if_pos h8, if_pos (by decide)]
  · rw [if_neg h8, if_neg h8]
    by_cases h5 : (k = 1 ∧ t = []) ∨ (partsK k = true ∧ e = true)
    · rw [if_pos h5, if_pos h5, if_pos (by decide)]
    · rw [if_neg h5, if_neg h5]
      by_cases h1 : k = 1
      · subst h1
        by_cases hc : chk t = 0 <;> cases b <;> simp [hc]
      · by_cases h3 : k = 3 ∨ k = 4 ∨ k = 11
        · rcases h3 with rfl | rfl | rfl <;> cases hb : nameB t <;> cases w <;> simp
        · have h4 : k ≠ 4 := fun e => h3 (.inr (.inl e))
          simp only [h1, h3, h4, if_false, false_and]
          split
          · split
            · simp
            · simp
          · split
            · split <;> simp
            · split
              · split <;> simp
              · simp
def chkP (b : Bool) (ld : Nat) : List (Nat × Nd) → Int
  | [] => 0
  | p :: r => if alone p.2 ≠ 0 then alone p.2 else if p.2.kd = 1 ∧ b = true ∧ p.1 = ld then 10 else if p.2.kd = 4 ∧ 0 < p.1 then 12 else chkP (decide (p.2.kd = 1)) p.1 r
theorem chkP_pre : (∀ x, ∀ d b ld R, ∃ b' ld', d ≤ ld' ∧ (allN (b && decide (ld = d)) (decide (0 < d)) x = 0 → (b' && decide (ld' = d)) = decide (x.kd = 1)) ∧
      chkP b ld (preN d x ++ R) = if allN (b && decide (ld = d)) (decide (0 < d)) x ≠ 0 then allN (b && decide (ld = d)) (decide (0 < d)) x else chkP b' ld' R) ∧
    ∀ l, ∀ d b ld R, ∃ b' ld', (l ≠ [] → d ≤ ld') ∧ (l = [] → b' = b ∧ ld' = ld) ∧
      chkP b ld (preL d l ++ R) = if allL (b && decide (ld = d)) (decide (0 < d)) l ≠ 0 then allL (b && decide (ld = d)) (decide (0 < d)) l else chkP b' ld' R := by
  refine Nd.both (fun k t n p ih d b ld R => ?_) (fun d b ld R => ⟨b, ld, fun h => absurd rfl h, fun _ => ⟨rfl, rfl⟩, by rw [preL, allL]; rfl⟩) (fun x l h1 h2 d b ld R => ?_)
  · obtain ⟨b', ld', i1, i2, i3⟩ := ih (d + 1) (decide (k = 1)) d R
    have e0 : (decide (k = 1) && decide (d = d + 1)) = false := by simp
    rw [e0, show decide (0 < d + 1) = true from decide_eq_true (by omega)] at i3
    have ea := alone_sgl (.mk k t n p) (b && decide (ld = d)) (decide (0 < d))
    have hstep : chkP b ld (preN d (.mk k t n p) ++ R) = if alone (.mk k t n p) ≠ 0 then alone (.mk k t n p) else if k = 1 ∧ b = true ∧ d = ld then 10 else if k = 4 ∧ 0 < d then 12 else chkP (decide (k = 1)) d (preL (d + 1) p ++ R) := by rw [preN]; rfl
    have hall : allN (b && decide (ld = d)) (decide (0 < d)) (.mk k t n p) = if sgl k t n p.isEmpty (b && decide (ld = d)) (decide (0 < d)) ≠ 0 then sgl k t n p.isEmpty (b && decide (ld = d)) (decide (0 < d)) else allL false true p := by rw [allN]
    have ea' : sgl k t n p.isEmpty (b && decide (ld = d)) (decide (0 < d)) = if alone (.mk k t n p) ≠ 0 then alone (.mk k t n p) else if k = 1 ∧ (b && decide (ld = d)) = true then 10 else if k = 4 ∧ decide (0 < d) = true then 12 else 0 := ea
    refine ⟨b', ld', ?_, fun h0 => ?_, ?_⟩
    · by_cases hp : p = []
      · rw [(i2 hp).2]; exact Nat.le_refl _
      · have := i1 hp; omega
    · obtain ⟨hf, _⟩ := allN_zero h0
      by_cases hk : k = 1
      · have he := (fine_text hf hk).2.2.1
        obtain ⟨rfl, rfl⟩ := i2 (List.isEmpty_iff.1 he)
        show (decide (k = 1) && decide (ld' = ld')) = decide (k = 1)
        simp
      · show (b' && decide (ld' = d)) = decide (k = 1)
        rw [decide_eq_false hk]
        by_cases hp : p = []
        · rw [(i2 hp).1, decide_eq_false hk]; rfl
        · have := i1 hp
          rw [show decide (ld' = d) = false from decide_eq_false (by omega), Bool.and_false]
    · rw [hstep, hall, ea', i3]
      by_cases ha : alone (.mk k t n p) = 0
      · simp only [ha, ne_eq, not_true_eq_false, if_false, Bool.and_eq_true, decide_eq_true_eq]
        have hb' : (k = 1 ∧ b = true ∧ ld = d) ↔ (k = 1 ∧ b = true ∧ d = ld) := ⟨fun h => ⟨h.1, h.2.1, h.2.2.symm⟩, fun h => ⟨h.1, h.2.1, h.2.2.symm⟩⟩
        simp only [hb']
        by_cases hb : k = 1 ∧ b = true ∧ d = ld
        · simp only [if_pos hb]; rfl
        · simp only [if_neg hb]
          by_cases hc : k = 4 ∧ 0 < d
          · simp only [if_pos hc]; rfl
          · simp only [if_neg hc]; rfl
      · simp [ha]
  · obtain ⟨b1, ld1, i1, i2, i3⟩ := h1 d b ld (preL d l ++ R)
    rw [preL, List.append_assoc, i3]
    obtain ⟨b2, ld2, j1, j2, j3⟩ := h2 d b1 ld1 R
    refine ⟨b2, ld2, fun _ => ?_, fun h => (nomatch h), ?_⟩
    · by_cases hl : l = []
      · rw [(j2 hl).2]; exact i1
      · exact j1 hl
    · rw [allL]
      by_cases hx : allN (b && decide (ld = d)) (decide (0 < d)) x = 0
      · rw [j3, i2 hx]
        simp [hx]
      · simp [hx]
theorem chkP_all (l : List Nd) (b : Bool) (hb : b = false) : chkP b 0 (preL 0 l) = allL false false l := by
  obtain ⟨b', ld', _, _, h⟩ := chkP_pre.2 l 0 b 0 []
  rw [List.append_nil] at h
  rw [h, hb]
  by_cases h0 : allL false false l = 0
  · simp [h0, chkP]
  · simp [h0]
def befN (x : Nd) : Bs := if x.kd = 1 then x.tx else if partsK x.kd then prn [⟨2, nmK x.kd, valX x.kd x.tx x.nm, 0⟩] else prn [⟨4, nmK x.kd, valX x.kd x.tx x.nm, 0⟩]
def behN (x : Nd) : Bs := if x.kd = 1 then [] else if partsK x.kd then prn [⟨3, nmK x.kd, [], 0⟩] else []
theorem out_cons {b w : Bool} {x : Nd} {l : List Nd} (h : allN b w x = 0) : outL (x :: l) = befN x ++ (outL x.ps ++ (behN x ++ outL l)) := by
  obtain ⟨k, t, n, p⟩ := x
  obtain ⟨hf, hp⟩ := allN_zero h
  unfold outL
  rw [lexL, prn_append, lexN]
  unfold befN behN
  show _ = (if k = 1 then t else if partsK k then prn [⟨2, nmK k, valX k t n, 0⟩] else prn [⟨4, nmK k, valX k t n, 0⟩]) ++ (prn (lexL p) ++ ((if k = 1 then [] else if partsK k then prn [⟨3, nmK k, [], 0⟩] else []) ++ prn (lexL l)))
  by_cases hk : k = 1
  · rw [if_pos hk, if_pos hk, if_pos hk, List.isEmpty_iff.1 (fine_text hf hk).2.2.1, lexL, prn_cons]
    simp [prn, form, formF]
  · rw [if_neg hk, if_neg hk, if_neg hk]
    cases he : p.isEmpty
    · rw [he] at hf
      rw [if_pos (fine_open hf).1, if_pos (fine_open hf).1, if_pos (fine_open hf).1, prn_cons, prn_append]
      simp [prn]
    · rw [he] at hf
      rw [(fine_empty hf hk).1, List.isEmpty_iff.1 he, lexL]
      simp [prn]
def lenP (L : List (Nat × Nd)) : Nat := (L.map fun p => (befN p.2).length + (behN p.2).length).sum
theorem lenP_append (A B : List (Nat × Nd)) : lenP (A ++ B) = lenP A + lenP B := by unfold lenP; simp
theorem lenP_out : (∀ x, ∀ d b w, allN b w x = 0 → lenP (preN d x) = (outL [x]).length) ∧ ∀ l, ∀ d b w, allL b w l = 0 → lenP (preL d l) = (outL l).length := by
  have h0 : (outL []).length = 0 := by unfold outL; rw [lexL]; rfl
  refine Nd.both (fun k t n p ih d b w h => ?_) (fun d b w _ => by rw [preL, h0]; rfl) (fun x l h1 h2 d b w h => ?_)
  · rw [out_cons h]
    obtain ⟨hf, hp⟩ := allN_zero h
    rw [preN, List.length_append, List.length_append, List.length_append, h0]
    show lenP ([_] ++ preL (d + 1) p) = _
    rw [lenP_append, ih (d + 1) false true hp]
    show _ = _ + ((outL p).length + _)
    simp [lenP]
    omega
  · obtain ⟨ha, hb⟩ := allL_cons h
    have e1 := h1 d b w ha
    rw [out_cons ha, List.length_append, List.length_append, List.length_append, h0] at e1
    rw [preL, lenP_append, e1, h2 d _ w hb, out_cons ha, List.length_append, List.length_append, List.length_append]
    omega
def txtP (L : List (Nat × Nd)) : Bs := (L.filter fun p => decide (p.2.kd = 1)).flatMap fun p => p.2.tx
theorem txtP_append (A B : List (Nat × Nd)) : txtP (A ++ B) = txtP A ++ txtP B := by unfold txtP; simp
theorem txtP_chr : (∀ x, ∀ d, txtP (preN d x) = chrN x) ∧ ∀ l, ∀ d, txtP (preL d l) = chrL l := by
  refine Nd.both (fun k t n p ih d => ?_) (fun d => by rw [preL, chrL]; rfl) (fun x l h1 h2 d => by rw [preL, txtP_append, h1, h2, chrL])
  rw [preN, chrN]
  show txtP ([_] ++ preL (d + 1) p) = _
  rw [txtP_append, ih]
  congr 1
  unfold txtP
  by_cases hk : k = 1
  · simp [Nd.kd, Nd.tx, hk]
  · simp [Nd.kd, Nd.tx, hk]
def cntP (c : Int) (L : List (Nat × Nd)) : Nat := (L.filter fun p => decide (p.2.kd = c)).length
theorem cntP_append (c : Int) (A B : List (Nat × Nd)) : cntP c (A ++ B) = cntP c A + cntP c B := by unfold cntP; simp
theorem cntP_cnt (c : Int) : (∀ x, ∀ d, cntP c (preN d x) = cntN c x) ∧ ∀ l, ∀ d, cntP c (preL d l) = cntL c l := by
  refine Nd.both (fun k t n p ih d => ?_) (fun d => by rw [preL, cntL]; rfl) (fun x l h1 h2 d => by rw [preL, cntP_append, h1, h2, cntL])
  rw [preN, cntN]
  show cntP c ([_] ++ preL (d + 1) p) = _
  rw [cntP_append, ih]
  congr 1
  unfold cntP
  by_cases hk : k = c
  · simp [Nd.kd, hk]
  · simp [Nd.kd, hk]
theorem cntP_le (c : Int) (L : List (Nat × Nd)) : cntP c L ≤ L.length := by unfold cntP; exact List.length_filter_le _ _
theorem pre_fine : (∀ x, ∀ d b w, allN b w x = 0 → ∀ p ∈ preN d x, alone p.2 = 0) ∧ ∀ l, ∀ d b w, allL b w l = 0 → ∀ p ∈ preL d l, alone p.2 = 0 := by
  refine Nd.both (fun k t n p ih d b w h q hq => ?_) (fun d b w _ q hq => by rw [preL] at hq; cases hq) (fun x l h1 h2 d b w h q hq => ?_)
  · obtain ⟨_, hp⟩ := allN_zero h
    rw [preN] at hq
    rcases List.mem_cons.1 hq with rfl | hq
    · have hs : sgl k t n p.isEmpty b w = 0 := by
        rw [allN] at h
        split at h
        · exact absurd h (by assumption)
        · rename_i h'; exact Classical.not_not.1 h'
      have ea := alone_sgl (.mk k t n p) b w
      have ea' : sgl k t n p.isEmpty b w = _ := ea
      rw [hs] at ea'
      show alone (.mk k t n p) = 0
      apply Classical.byContradiction
      intro hne
      rw [if_pos hne] at ea'
      exact hne ea'.symm
    · exact ih (d + 1) false true hp q hq
  · obtain ⟨ha, hb⟩ := allL_cons h
    rw [preL] at hq
    rcases List.mem_append.1 hq with hq | hq
    · exact h1 d b w ha q hq
    · exact h2 d _ w hb q hq
end Go.Proofs.YtmfcepfagbkceaaGreatDoor
namespace Go.Proofs.YtmfcepfagbkceaaGreatDoor
set_option linter.unusedSimpArgs false
set_option linter.unusedVariables false
def badT (t : Bs) : Bool := (decide (60 < t.length) && decide (t.length ≤ 65536)) || decide (65540 < t.length)
mutual
def longN (d : Nat) : Nd → Bool
  | .mk _ t _ p => decide (d = 0) || (badT t || longL (d - 1) p)
def longL (d : Nat) : List Nd → Bool
  | [] => false
  | x :: l => longN d x || longL d l
end
def greatR (l : List Nd) : Bool := if l.length ≤ 4096 ∨ 4100 < l.length then !decide (tots l ≤ 40 ∧ deps l ≤ 20) || longL 20 l else l.any (fun x => decide (0 < x.ps.length)) || longL 20 l
theorem tots_flat : ∀ l : List Nd, (∀ x ∈ l, x.ps = []) → tots l = l.length ∧ deps l = 0
  | [], _ => by simp [tots, deps]
  | x :: l, h => by
    obtain ⟨h1, h2⟩ := tots_flat l fun y hy => h y (List.mem_cons_of_mem _ hy)
    obtain ⟨k, t, n, p⟩ := x
    have hp : p = [] := h (.mk k t n p) List.mem_cons_self
    subst hp
    rw [tots, deps, tot, dep, h1, h2, List.length_cons]
    simp [tots]
    omega
theorem not_great {l : List Nd} (h : greatR l = false) : tots l ≤ 4100 ∧ deps l ≤ 20 ∧ longL 20 l = false ∧ (tots l ≤ 40 ∨ 4096 < tots l) := by
  unfold greatR at h
  split at h
  · rw [Bool.or_eq_false_iff] at h
    have h1 : tots l ≤ 40 ∧ deps l ≤ 20 := by simpa using h.1
    exact ⟨by omega, by omega, h.2, .inl h1.1⟩
  · rename_i hl
    rw [Bool.or_eq_false_iff] at h
    have hf : ∀ x ∈ l, x.ps = [] := fun x hx => by
      have h1 := h.1
      rw [List.any_eq_false] at h1
      have h2 := h1 x hx
      cases hp : x.ps with
      | nil => rfl
      | cons y r => rw [hp] at h2; simp at h2
    obtain ⟨h1, h2⟩ := tots_flat l hf
    exact ⟨by omega, by omega, h.2, .inr (by omega)⟩
theorem long_mem : (∀ x, ∀ d e, longN d x = false → ∀ p ∈ preN e x, badT p.2.tx = false) ∧ ∀ l, ∀ d e, longL d l = false → ∀ p ∈ preL e l, badT p.2.tx = false := by
  refine Nd.both (fun k t n p ih d e h q hq => ?_) (fun d e _ q hq => by rw [preL] at hq; cases hq) (fun x l h1 h2 d e h q hq => ?_)
  · rw [longN, Bool.or_eq_false_iff, Bool.or_eq_false_iff] at h
    rw [preN] at hq
    rcases List.mem_cons.1 hq with rfl | hq
    · exact h.2.1
    · exact ih _ _ h.2.2 q hq
  · rw [longL, Bool.or_eq_false_iff] at h
    rw [preL] at hq
    rcases List.mem_append.1 hq with hq | hq
    · exact h1 _ _ h.1 q hq
    · exact h2 _ _ h.2 q hq
theorem fine_len {k : Int} {t : Bs} {n : Int} {e b w : Bool} (h : Fine k t n e b w) : t.length ≤ 65536 := by
  have hw : wordB t = true → t.length ≤ 65536 := fun h => by unfold wordB at h; simp at h; omega
  have hn : nameB t = true → t.length ≤ 65536 := fun h => by unfold nameB at h; simp at h; omega
  rcases h with h | h | h | h | h | h | h | h
  · exact (chk_nil.1 h.2.2.1).1
  · rw [h.2.1]; simp
  · exact hn h.2.1
  · rw [h.2.1]; simp
  · rw [h.2.1]; simp
  · rw [h.2.1]; simp
  · exact hw h.2.1
  · exact hn h.2.1
theorem nmK_len (k : Int) : (nmK k).length ≤ 7 := by
  unfold nmK
  repeat (first | (split; decide) | decide)
theorem digs_len (n : Nat) : (digs n).length ≤ 2 := by unfold digs; split <;> simp
theorem val_len' {k : Int} {t : Bs} {n : Int} {e b w : Bool} (h : Fine k t n e b w) (ht : t.length ≤ 60) : (valX k t n).length ≤ 60 := by
  unfold valX
  split
  · exact ht
  · rename_i h1
    split
    · rename_i h2
      have hn : 1 ≤ n ∧ n ≤ 99 := by
        unfold numsK at h2
        simp at h2
        rcases h with h | h | h | h | h | h | h | h <;> omega
      rw [itoa_digs hn.1 hn.2]
      have := digs_len n.toNat
      omega
    · simp
theorem form_len (x : Lx) : (form x).length ≤ x.n.length + x.v.length + 4 := by
  unfold form formF bodyL
  by_cases hv : x.v = [] <;> simp only [hv, if_true, if_false] <;> split
  all_goals first | (simp; done) | (simp; omega) | omega | skip
  all_goals split
  all_goals first | (simp; done) | (simp; omega) | omega | skip
  all_goals split
  all_goals first | (simp; done) | (simp; omega) | omega | skip
theorem bef_len {x : Nd} {b w : Bool} (h : Fine x.kd x.tx x.nm x.ps.isEmpty b w) (ht : x.tx.length ≤ 60) : (befN x).length + (behN x).length ≤ 90 := by
  have h1 := nmK_len x.kd
  have h2 := val_len' h ht
  have f2 := form_len ⟨2, nmK x.kd, valX x.kd x.tx x.nm, 0⟩
  have f3 := form_len ⟨3, nmK x.kd, [], 0⟩
  have f4 := form_len ⟨4, nmK x.kd, valX x.kd x.tx x.nm, 0⟩
  simp only [List.length_nil] at f3 f2 f4
  unfold befN behN
  have hp : ∀ x : Lx, prn [x] = form x := fun x => by simp [prn]
  rw [hp, hp, hp]
  split
  · simp; omega
  · split
    · omega
    · simp; omega
theorem alone_fine {x : Nd} (h : alone x = 0) : Fine x.kd x.tx x.nm x.ps.isEmpty false false := sgl_zero h
theorem lenP_le (c : Nat) : ∀ L : List (Nat × Nd), (∀ p ∈ L, (befN p.2).length + (behN p.2).length ≤ c) → lenP L ≤ c * L.length
  | [], _ => by simp [lenP]
  | p :: L, h => by
    have h1 := lenP_le c L fun q hq => h q (List.mem_cons_of_mem _ hq)
    have h2 := h p List.mem_cons_self
    have : lenP (p :: L) = ((befN p.2).length + (behN p.2).length) + lenP L := by simp [lenP]
    rw [this, List.length_cons, Nat.mul_succ]
    omega
theorem fine_short {l : List Nd} (hg : greatR l = false) (hc : ckR l = 0) : tots l ≤ 40 ∧ (outL l).length ≤ 3600 := by
  obtain ⟨h1, h2, h3, h4⟩ := ck_zero hc
  obtain ⟨g1, g2, g3, g4⟩ := not_great hg
  have ht : tots l ≤ 40 := by omega
  refine ⟨ht, ?_⟩
  rw [← lenP_out.2 l 0 false false h3]
  have := lenP_le 90 (preL 0 l) fun p hp => by
    have hf := alone_fine (pre_fine.2 l 0 false false h3 p hp)
    have hb := long_mem.2 l 20 0 g3 p hp
    have hl := fine_len hf
    unfold badT at hb
    rw [Bool.or_eq_false_iff, Bool.and_eq_false_iff] at hb
    have h60 : p.2.tx.length ≤ 60 := by
      rcases hb.1 with hb | hb
      · simpa using hb
      · have : ¬ p.2.tx.length ≤ 65536 := by simpa using hb
        omega
    exact bef_len hf h60
  rw [pre_len.2] at this
  omega
def hasSec (l : List Nd) : Bool := l.any fun x => decide (x.kd = 4)
theorem allN_in {b : Bool} {x : Nd} (h : allN b false x = 0) : allN b true x = if x.kd = 4 then 12 else 0 := by
  obtain ⟨k, t, n, p⟩ := x
  rw [allN] at h ⊢
  have e1 := alone_sgl (.mk k t n p) b false
  have e2 := alone_sgl (.mk k t n p) b true
  have e1 : sgl k t n p.isEmpty b false = if alone (.mk k t n p) ≠ 0 then alone (.mk k t n p) else if k = 1 ∧ b = true then 10 else if k = 4 ∧ false = true then 12 else 0 := e1
  have e2 : sgl k t n p.isEmpty b true = if alone (.mk k t n p) ≠ 0 then alone (.mk k t n p) else if k = 1 ∧ b = true then 10 else if k = 4 ∧ true = true then 12 else 0 := e2
  show _ = if k = 4 then 12 else 0
  split at h
  · exact absurd h (by assumption)
  · rename_i hs
    have hs : sgl k t n p.isEmpty b false = 0 := Classical.not_not.1 hs
    rw [e1] at hs
    split at hs
    · exact absurd hs (by assumption)
    · rename_i ha
      split at hs
      · cases hs
      · rename_i hb
        rw [e2, if_neg ha, if_neg hb]
        by_cases hk : k = 4
        · simp [hk]
        · simp [hk, h]
theorem allL_in : ∀ {l : List Nd} {b : Bool}, allL b false l = 0 → allL b true l = if hasSec l then 12 else 0
  | [], b, _ => by rw [allL]; rfl
  | x :: l, b, h => by
    obtain ⟨h1, h2⟩ := allL_cons h
    have e := allL_in h2
    rw [allL, allN_in h1, e]
    unfold hasSec
    rw [List.any_cons]
    by_cases hk : x.kd = 4
    · simp [hk]
    · simp [hk]
theorem wrap_ck {l : List Nd} (hg : greatR l = false) (hc : ckR l = 0) {k : Int} {t : Bs} {n : Int} (hs : sgl k t n false false false = 0) (hk : partsK k = true) (ht : t.length ≤ 60) :
    ckR [.mk k t n l] = if l = [] then 5 else if deps l = 16 then 4 else if hasSec l then 12 else 0 := by
  obtain ⟨h1, h2, h3, h4⟩ := ck_zero hc
  obtain ⟨g1, g2⟩ := fine_short hg hc
  have hf := sgl_zero hs
  have hk1 : k ≠ 1 := (fine_open hf).2.1
  by_cases hl : l = []
  · subst hl
    rw [if_pos rfl]
    unfold ckR
    have e : allL false false [.mk k t n []] = 5 := by
      rw [allL, allN]
      have : sgl k t n ([] : List Nd).isEmpty false false = 5 := by
        show sgl k t n true false false = 5
        rcases hf with h | h | h | h | ⟨rfl, rfl, rfl, _⟩ | ⟨rfl | rfl, rfl, _, _, _⟩ | ⟨rfl, h, rfl, _⟩ | ⟨rfl, h, rfl, _⟩
        · simp at h
        · simp at h
        · simp at h
        · simp at h
        · simp [sgl, textsK, numsK, partsK]
        · simp [sgl, textsK, numsK, partsK]
        · simp [sgl, textsK, numsK, partsK]
        · simp [sgl, textsK, numsK, partsK]
        · simp [sgl, textsK, numsK, partsK]
      rw [this]
      rfl
    rw [if_pos (by simp [tots, tot, deps, dep]), e]
    rfl
  · rw [if_neg hl]
    have hd : deps [.mk k t n l] = 1 + deps l := by
      rw [deps, dep, deps]
      cases l with
      | nil => exact absurd rfl hl
      | cons y l => simp
    have htt : tots [.mk k t n l] = 1 + tots l := by rw [tots, tot, tots]; omega
    have he : l.isEmpty = false := by cases l with
      | nil => exact absurd rfl hl
      | cons y l => rfl
    unfold ckR
    rw [htt, hd]
    by_cases h16 : deps l = 16
    · rw [if_pos h16, if_neg (by omega)]
    · rw [if_neg h16, if_pos (by omega)]
      have e : allL false false [.mk k t n l] = if hasSec l then 12 else 0 := by
        have ea : allN false false (.mk k t n l) = if hasSec l then 12 else 0 := by
          rw [allN, he, hs, if_neg (by simp), allL_in h3]
        rw [allL, ea, allL]
        cases hasSec l <;> simp
      rw [e]
      cases hx : hasSec l
      · simp only [Bool.false_eq_true, if_false]
        rw [if_neg (by decide), if_neg]
        have ha : allN false false (.mk k t n l) = 0 := by
          rw [hx] at e
          exact (allL_cons e).1
        rw [out_cons ha, List.length_append, List.length_append, List.length_append]
        have hb := bef_len (x := .mk k t n l) (b := false) (w := false) (by show Fine k t n l.isEmpty false false; rw [he]; exact hf) ht
        have h0 : (outL []).length = 0 := by unfold outL; rw [lexL]; rfl
        rw [h0]
        show ¬ 65536 < _ + ((outL l).length + _)
        omega
      · simp
theorem wrap_dep {l : List Nd} (hl : l ≠ []) {k : Int} {t : Bs} {n : Int} : deps [.mk k t n l] = deps l + 1 := by
  rw [deps, dep, deps]
  cases l with
  | nil => exact absurd rfl hl
  | cons y l => simp; omega
theorem wrap_chr {l : List Nd} {k : Int} {t : Bs} {n : Int} (hk : k ≠ 1) : chrL [.mk k t n l] = chrL l := by
  rw [chrL, chrN, chrL, if_neg hk]; simp
end Go.Proofs.YtmfcepfagbkceaaGreatDoor
namespace Go.Proofs.YtmfcepfagbkceaaGreatDoor
set_option linter.unusedSimpArgs false
set_option linter.unusedVariables false
def hdX (x : Lx) : Int × Bs × Int := ((nodeX x []).kd, (nodeX x []).tx, (nodeX x []).nm)
def mkH (h : Int × Bs × Int) (p : List Nd) : Nd := .mk h.1 h.2.1 h.2.2 p
theorem node_mkH (x : Lx) (p : List Nd) : nodeX x p = mkH (hdX x) p := by
  unfold nodeX mkH hdX nodeX
  by_cases h : x.k = 1
  · simp only [if_pos h]; rfl
  · simp only [if_neg h]; rfl
def tr : List (Int × Bs × Int) → List (List Nd) → List Lx → List (List Nd)
  | _, ls, [] => ls
  | hd, ls, x :: L =>
    if x.k = 2 then tr (hdX x :: hd) ([] :: ls) L
    else if x.k = 3 then (match hd, ls with
      | h :: hd', l :: l2 :: ls' => tr hd' ((l2 ++ [mkH h l]) :: ls') L
      | _, _ => [])
    else (match ls with
      | l :: ls' => tr hd ((l ++ [nodeX x []]) :: ls') L
      | [] => [])
theorem tr_open {hd : List (Int × Bs × Int)} {ls : List (List Nd)} {x : Lx} {L : List Lx} (h : x.k = 2) : tr hd ls (x :: L) = tr (hdX x :: hd) ([] :: ls) L := by
  rw [tr.eq_def]; simp only [if_pos h]
theorem tr_close {h0 : Int × Bs × Int} {hd : List (Int × Bs × Int)} {l l2 : List Nd} {ls : List (List Nd)} {x : Lx} {L : List Lx} (h : x.k = 3) : tr (h0 :: hd) (l :: l2 :: ls) (x :: L) = tr hd ((l2 ++ [mkH h0 l]) :: ls) L := by
  rw [tr.eq_def]; simp only [if_neg (show ¬ x.k = 2 by omega), if_pos h]
theorem tr_other {hd : List (Int × Bs × Int)} {l : List Nd} {ls : List (List Nd)} {x : Lx} {L : List Lx} (h2 : x.k ≠ 2) (h3 : x.k ≠ 3) : tr hd (l :: ls) (x :: L) = tr hd ((l ++ [nodeX x []]) :: ls) L := by
  rw [tr.eq_def]; simp only [if_neg h2, if_neg h3]
theorem tr_rd : ∀ (m : Nat) (L : List Lx) (st : List Bs) (hd : List (Int × Bs × Int)) (l : List Nd) (ls : List (List Nd)), L.length ≤ m → (∀ x ∈ L, okT x) → runS st L = (0, []) → tr hd (l :: ls) L = tr hd ((l ++ (rd L).1) :: ls) (rd L).2
  | _, [], st, hd, l, ls, _, _, _ => by rw [rd_nil]; simp
  | 0, x :: L, _, _, _, _, h, _, _ => by simp at h
  | m + 1, x :: L, st, hd, l, ls, hm, hok, hr => by
    rw [List.length_cons] at hm
    have hL : ∀ y ∈ L, okT y := fun y hy => hok y (by simp [hy])
    have hr0 := hr
    rw [runS_cons] at hr
    by_cases h3 : x.k = 3
    · rw [rd_close h3]; simp
    · by_cases h2 : x.k = 2
      · rw [if_pos h2] at hr
        split at hr
        · cases hr
        · obtain ⟨_, a2, a3, _, a5⟩ := lex_read L.length L (x.n :: st) (Nat.le_refl _) hL hr
          obtain ⟨y, M, e1, e2, e3, e4⟩ := a5 _ _ rfl
          rw [tr_open h2, tr_rd m L (x.n :: st) _ _ _ (by omega) hL hr, List.nil_append, e1, tr_close e2]
          rw [e1, List.length_cons] at a3
          rw [e1] at a2
          rw [tr_rd m M st _ _ _ (by omega) (fun z hz => a2 z (by simp [hz])) e4, rd_open h2, e1, List.drop_one, List.tail_cons, node_mkH, List.append_assoc]
          rfl
      · rw [if_neg h2, if_neg h3] at hr
        rw [tr_other h2 h3, tr_rd m L st _ _ _ (by omega) hL hr, rd_other h3 h2, List.append_assoc]
        rfl
theorem tr_all {L : List Lx} (h0 : Int × Bs × Int) (hok : ∀ x ∈ L, okT x) (hr : runS [] L = (0, [])) : tr [h0] [[]] L = [(rd L).1] := by
  rw [tr_rd L.length L [] _ _ _ (Nat.le_refl _) hok hr, (lex_read L.length L [] (Nat.le_refl _) hok hr).2.2.2.1 rfl, tr.eq_def]
  rfl
end Go.Proofs.YtmfcepfagbkceaaGreatDoor
