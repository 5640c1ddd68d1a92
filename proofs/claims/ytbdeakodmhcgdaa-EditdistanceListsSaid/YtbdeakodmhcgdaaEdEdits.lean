/- Lists of edits in memory. -/
import Derived.Test.YtbdeakodmhcgdaaEdRefWords
import Derived.Test.YtbdeakodmhcgdaaEdScript
namespace Go.Proofs.Ytbdeakodmhcgdaa
set_option linter.unusedSimpArgs false
set_option linter.unusedVariables false
set_option maxRecDepth 100000
open Go.RowKit Go.Deep

/-- an edit as it came in -/
structure EdV where
  place : Int
  len : Int
  text : ByteArray
deriving DecidableEq
def EditsAt (W : World) (v : Value) (es : List EdV) : Prop :=
  ∃ a cap, v = .slice a es.length cap ∧ (0 < es.length → ∃ b off, a = some ⟨b, off, none⟩ ∧ b < W.heap.size ∧
    ∀ j (h : j < es.length), W.cell? ⟨b, off + j * 3, none⟩ = some (.int .i64 es[j].place) ∧ W.cell? ⟨b, off + j * 3 + 1, none⟩ = some (.int .i64 es[j].len) ∧ W.cell? ⟨b, off + j * 3 + 2, none⟩ = some (.string es[j].text))

theorem ext_list (s : ByteArray) (a b : Nat) : (s.extract a b).data.toList = (s.data.toList.drop a).take (b - a) := by
  rw [ByteArray.data_extract, Array.toList_extract, List.extract_eq_take_drop]
theorem app_list (a b : ByteArray) : (a ++ b).data.toList = a.data.toList ++ b.data.toList := by simp
def baL (l : List UInt8) : ByteArray := ⟨l.toArray⟩
theorem ba_of {a b : ByteArray} (h : a.data.toList = b.data.toList) : a = b := by
  obtain ⟨⟨a⟩⟩ := a
  obtain ⟨⟨b⟩⟩ := b
  exact congrArg (fun l => ByteArray.mk (Array.mk l)) h
abbrev strV (p : List UInt8 × Int) : Value := .tuple #[.string (baL p.1), .int .i64 p.2]
theorem ret_str {s : ByteArray} {p : List UInt8 × Int} {k : Int} (h : p = (s.data.toList, k)) : Ending.returned (.tuple #[.string s, .int .i64 k]) = .returned (strV p) := by
  rw [h, strV, show baL ((s.data.toList, k) : List UInt8 × Int).1 = s from ba_of rfl]

/-! ### what edits make of a string -/
def EdV.plain (e : EdV) : EdT UInt8 := (e.place.toNat, e.len.toNat, e.text.data.toList)
/-- the first error of edits, from a place on; 0 if there is none -/
def badE (n : Nat) : Nat → List EdV → Int
  | _, [] => 0
  | at_, e :: es => if e.place < 0 ∨ e.len < 0 ∨ (n : Int) < e.place ∨ (n : Int) - e.place < e.len then 2 else if e.place < at_ then 10 else badE n (e.place.toNat + e.len.toNat) es
def applyR (s : List UInt8) (es : List EdV) : List UInt8 × Int :=
  if 65536 < s.length then ([], 4) else if badE s.length 0 es ≠ 0 then ([], badE s.length 0 es)
  else if 65536 < (applyE s (es.map EdV.plain)).length then ([], 4) else (applyE s (es.map EdV.plain), 0)
/-- the state behind k edits -/
def stE (l : List UInt8) (es : List EdV) (k : Nat) : List UInt8 × Nat := putAll l ((es.map EdV.plain).take k)
theorem stE_step (l : List UInt8) (es : List EdV) (k : Nat) (h : k < es.length) : stE l es (k + 1) = putE l (stE l es k) es[k].plain := by
  have h' : k < (es.map EdV.plain).length := by rwa [List.length_map]
  rw [stE, stE, ← List.take_append_getElem h', putAll_snoc, List.getElem_map]
theorem stE_end (l : List UInt8) (es : List EdV) : applyE l (es.map EdV.plain) = (stE l es es.length).1 ++ l.drop (stE l es es.length).2 := by
  rw [applyE, stE, List.take_of_length_le (by rw [List.length_map]; exact Nat.le_refl _)]
/-- what holds behind k edits -/
structure Mid (l : List UInt8) (es : List EdV) (k : Nat) (out : List UInt8) (at_ : Nat) (z : Int) : Prop where
  place : (stE l es k).2 = at_
  le : at_ ≤ l.length
  size : z = ((stE l es k).1.length : Int) + l.length - at_
  low : 0 ≤ z
  high : z ≤ l.length + 8 * k
  text : out = (stE l es k).1 ∨ (65536 < out.length ∧ out.length ≤ (stE l es k).1.length)
  bad : badE l.length 0 es = badE l.length at_ (es.drop k)
theorem Mid.start (l : List UInt8) (es : List EdV) : Mid l es 0 [] 0 l.length :=
  ⟨rfl, Nat.zero_le _, by rw [show (stE l es 0).1 = [] from rfl]; simp, by omega, by omega, .inl rfl, rfl⟩
theorem Mid.range {l : List UInt8} {es : List EdV} {k : Nat} {out : List UInt8} {at_ : Nat} {z : Int} (h : Mid l es k out at_ z) (hk : k < es.length)
    (hb : es[k].place < 0 ∨ es[k].len < 0 ∨ (l.length : Int) < es[k].place ∨ (l.length : Int) - es[k].place < es[k].len) (hs : ¬ 65536 < l.length) : applyR l es = ([], 2) := by
  have : badE l.length 0 es = 2 := by rw [h.bad, List.drop_eq_getElem_cons hk, badE, if_pos hb]
  rw [applyR, if_neg hs, this, if_pos (by decide)]
theorem Mid.order {l : List UInt8} {es : List EdV} {k : Nat} {out : List UInt8} {at_ : Nat} {z : Int} (h : Mid l es k out at_ z) (hk : k < es.length)
    (hb : ¬ (es[k].place < 0 ∨ es[k].len < 0 ∨ (l.length : Int) < es[k].place ∨ (l.length : Int) - es[k].place < es[k].len)) (ho : es[k].place < at_) (hs : ¬ 65536 < l.length) : applyR l es = ([], 10) := by
  have : badE l.length 0 es = 10 := by rw [h.bad, List.drop_eq_getElem_cons hk, badE, if_neg hb, if_pos ho]
  rw [applyR, if_neg hs, this, if_pos (by decide)]
theorem Mid.next {l : List UInt8} {es : List EdV} {k : Nat} {out : List UInt8} {at_ : Nat} {z : Int} (h : Mid l es k out at_ z) (hk : k < es.length) (pl ln : Nat) (tx : ByteArray) (he : es[k] = ⟨pl, ln, tx⟩) (h8 : tx.size ≤ 8)
    (h1 : pl ≤ l.length) (h2 : ln ≤ l.length - pl) (h3 : at_ ≤ pl) :
    Mid l es (k + 1) (if out.length ≤ 65536 then out ++ (l.drop at_).take (pl - at_) ++ tx.data.toList else out) (pl + ln) (z + tx.size - ln) := by
  have e1 := stE_step l es k hk
  rw [he, show EdV.plain ⟨pl, ln, tx⟩ = (pl, ln, tx.data.toList) from rfl, putE, h.place] at e1
  have hlen : (stE l es (k + 1)).1.length = (stE l es k).1.length + (pl - at_) + tx.size := by
    rw [e1]; simp only [List.length_append, List.length_take, List.length_drop, size_list]; omega
  have hz := h.size
  have hlo := h.low
  have hhi := h.high
  refine ⟨by rw [e1], by omega, by rw [hlen]; omega, ?_, ?_, ?_, ?_⟩
  · omega
  · omega
  · rcases h.text with ht | ⟨ht1, ht2⟩
    · by_cases c : out.length ≤ 65536
      · rw [if_pos c, e1, ht]; exact .inl rfl
      · rw [if_neg c]; right; rw [hlen, ← ht]; omega
    · rw [if_neg (by omega)]; right; omega
  · rw [h.bad, List.drop_eq_getElem_cons hk, badE, he]
    show (if (pl : Int) < 0 ∨ (ln : Int) < 0 ∨ (l.length : Int) < (pl : Int) ∨ (l.length : Int) - (pl : Int) < (ln : Int) then (2 : Int) else if (pl : Int) < (at_ : Int) then 10 else badE l.length ((pl : Int).toNat + (ln : Int).toNat) (es.drop (k + 1))) = _
    rw [if_neg (by omega), if_neg (by omega)]; rfl
theorem Mid.end_ {l : List UInt8} {es : List EdV} {out : List UInt8} {at_ : Nat} {z : Int} (h : Mid l es es.length out at_ z) (hs : ¬ 65536 < l.length) :
    (65536 < z → applyR l es = ([], 4)) ∧ (z ≤ 65536 → applyR l es = (out ++ l.drop at_, 0)) := by
  have hb : badE l.length 0 es = 0 := by rw [h.bad, List.drop_length]; rfl
  have ha := stE_end l es
  rw [h.place] at ha
  have hlen : ((applyE l (es.map EdV.plain)).length : Int) = z := by rw [ha, h.size, List.length_append, List.length_drop]; have := h.le; omega
  constructor
  · intro hz
    rw [applyR, if_neg hs, hb, if_neg (by decide), if_pos (by omega)]
  · intro hz
    rw [applyR, if_neg hs, hb, if_neg (by decide), if_neg (by omega), ha]
    rcases h.text with ht | ⟨ht1, ht2⟩
    · rw [ht]
    · have := h.size; have := h.le; omega

theorem Mid.out_le {l : List UInt8} {es : List EdV} {k : Nat} {out : List UInt8} {at_ : Nat} {z : Int} (h : Mid l es k out at_ z) : (out.length : Int) ≤ z := by
  have := h.size
  have := h.le
  rcases h.text with ht | ⟨_, ht⟩
  · rw [ht]; omega
  · omega
theorem refApply_big (s : ByteArray) (v : Value) (es : List EdV) (h : 65536 < s.size) (hs : s.size ≤ maxLen) (w : World) :
    Calls Try.prog 31 #[.string s, v] w fun e w' => e = .returned (strV (applyR s.data.toList es)) ∧ Below w.heap.size w w' := by
  unfold maxLen at hs
  have hr : applyR s.data.toList es = ([], 4) := by rw [applyR, if_pos (by rw [size_list]; exact h)]
  rw [hr]
  clear hr
  go_enter Try.func31, Try.ntmps31
  go_wp2
  go_ret2
  exact ⟨rfl, Below.refl _ _⟩

set_option maxHeartbeats 4000000 in
theorem refApply_any (s : ByteArray) (es : List EdV) (v : Value) (w : World) (hv : EditsAt w v es) (hl : es.length ≤ 6) (ht : ∀ e ∈ es, e.text.size ≤ 8) (hs : ¬ 65536 < s.size) :
    Calls Try.prog 31 #[.string s, v] w fun e w' => e = .returned (strV (applyR s.data.toList es)) ∧ Below w.heap.size w w' := by
  obtain ⟨ax, cx, rfl, hcx⟩ := hv
  have HX := Lib.hid hcx
  have H8 := Lib.hid ht
  have HS := Lib.hid (show ¬ 65536 < s.data.toList.length by rw [size_list]; exact hs)
  clear hcx ht
  go_enter Try.func31, Try.ntmps31
  go_wp2
  go_loopw [6, 7, 8, 9] (fun o p z i wr => ∃ k : Nat, k ≤ es.length ∧ i = .int .i64 k ∧ ∃ (out : ByteArray) (a : Nat) (x : Int), o = .string out ∧ p = .int .i64 a ∧ z = .int .i64 x ∧ Mid s.data.toList es k out.data.toList a x ∧ Below w.heap.size w wr) (fun _ _ _ i _ => es.length - (intOf i).toNat)
  case atStart => exact ⟨0, Nat.zero_le _, rfl, _, 0, s.size, rfl, rfl, rfl, by have := Mid.start s.data.toList es; rw [size_list] at this; exact this, Below.refl _ _⟩
  case round =>
    obtain ⟨k, hk, rfl, out, a, x, rfl, rfl, rfl, hM, hB⟩ := hrel
    have HM := Lib.hid hM
    have hle := hM.le
    have hlo := hM.low
    have hhi := hM.high
    rw [size_list] at hle hhi
    clear hM
    by_cases hlt : k < es.length
    · obtain ⟨bx, ox, rfl, hbx, hcx⟩ := HX.out (by omega)
      obtain ⟨q1, q2, q3⟩ := hcx k hlt
      have c1 := (hB.cell (p := ⟨bx, ox + k * 3, none⟩) hbx).trans q1
      have c2 := (hB.cell (p := ⟨bx, ox + k * 3 + 1, none⟩) hbx).trans q2
      have c3 := (hB.cell (p := ⟨bx, ox + k * 3 + 2, none⟩) hbx).trans q3
      clear hcx q1 q2 q3
      have h8 := H8.out es[k] (List.getElem_mem hlt)
      obtain ⟨e, he⟩ : ∃ e, es[k] = e := ⟨_, rfl⟩
      have RB := Lib.hid (fun hb => HM.out.range hlt hb HS.out)
      have OB := Lib.hid (fun hb ho => HM.out.order hlt hb ho HS.out)
      rw [he] at c1 c2 c3 h8 RB OB
      rw [size_list] at RB OB
      have HE := Lib.hid he
      clear he
      obtain ⟨pl, ln, tx⟩ := e
      simp only at c1 c2 c3 h8 RB OB
      by_cases hr : pl < 0 ∨ ln < 0 ∨ (s.size : Int) < pl ∨ (s.size : Int) - pl < ln
      · have HR := Lib.hid (RB.out hr)
        clear RB OB
        rcases (show pl < 0 ∨ (0 ≤ pl ∧ ln < 0) ∨ (0 ≤ pl ∧ 0 ≤ ln ∧ (s.size : Int) < pl) ∨ (0 ≤ pl ∧ 0 ≤ ln ∧ pl ≤ s.size ∧ (s.size : Int) - pl < ln) by omega) with g1 | ⟨g0, g1⟩ | ⟨g0, g1, g2⟩ | ⟨g0, g1, g2, g3⟩
        all_goals
          clear hr
          go_wp2
          go_ret2
          exact ⟨ret_str HR.out, hB.alloc hB.size _⟩
      · by_cases ho : pl < (a : Int)
        · have HR := Lib.hid (OB.out hr ho)
          have g0 : 0 ≤ pl ∧ 0 ≤ ln ∧ pl ≤ s.size ∧ ln ≤ (s.size : Int) - pl := by omega
          obtain ⟨g0, g1, g2, g3⟩ := g0
          clear RB OB hr
          go_wp2
          go_ret2
          exact ⟨ret_str HR.out, hB.alloc hB.size _⟩
        · clear RB OB
          obtain ⟨pn, rfl⟩ : ∃ pn : Nat, pl = pn := ⟨pl.toNat, by omega⟩
          obtain ⟨l0, rfl⟩ : ∃ l0 : Nat, ln = l0 := ⟨ln.toNat, by omega⟩
          have g2 : pn ≤ s.size := by omega
          have g3 : (l0 : Int) ≤ (s.size : Int) - pn := by omega
          have g4 : a ≤ pn := by omega
          have hN := HM.out.next hlt pn l0 tx HE.out h8 (by rw [size_list]; exact g2) (by rw [size_list]; omega) g4
          clear hr ho
          by_cases ho : out.size ≤ 65536
          · have e1 : (out ++ s.extract a pn ++ tx).data.toList = out.data.toList ++ (s.data.toList.drop a).take (pn - a) ++ tx.data.toList := by rw [app_list, app_list, ext_list]
            rw [size_list, if_pos ho, ← e1] at hN
            have HNX := Lib.hid hN
            clear hN e1
            have hes : (s.extract a pn).size = pn - a := by rw [ByteArray.size_extract]; omega
            have had1 : ∀ w, (Op.stringOp .add out (s.extract a pn)).run Try.prog w = .ok (.string (out ++ s.extract a pn)) w := fun w => run_string_add_sum w _ _ (by omega)
            have had2 : ∀ w, (Op.stringOp .add (out ++ s.extract a pn) tx).run Try.prog w = .ok (.string (out ++ s.extract a pn ++ tx)) w := fun w => run_string_add_sum w _ _ (by rw [ByteArray.size_append]; omega)
            clear hes
            go_wp2_with fail
            go_region
            go_wp2
            go_roundw
            case rel => exact ⟨k + 1, by omega, by go_num, _, pn + l0, x + tx.size - l0, rfl, by go_num, rfl, HNX.out, (hB.alloc hB.size _).drew⟩
            case measure => simp [intOf]; omega
          · rw [size_list, if_neg ho] at hN
            have HNX := Lib.hid hN
            clear hN
            go_wp2
            go_roundw
            case rel => exact ⟨k + 1, by omega, by go_num, _, pn + l0, x + tx.size - l0, rfl, by go_num, rfl, HNX.out, hB.alloc hB.size _⟩
            case measure => simp [intOf]; omega
    · obtain rfl : k = es.length := by omega
      obtain ⟨f1, f2⟩ := HM.out.end_ HS.out
      by_cases hx : 65536 < x
      · have HR := Lib.hid (f1 hx)
        clear f1 f2
        go_wp2
        go_ret2
        exact ⟨ret_str HR.out, hB⟩
      · have HR := Lib.hid (f2 (by omega))
        clear f1 f2
        have hx2 : x ≤ 65536 := by omega
        have hou := HM.out.out_le
        rw [size_list] at hou
        have hes : (s.extract a s.size).size = s.size - a := by rw [ByteArray.size_extract]; omega
        have had1 : ∀ w, (Op.stringOp .add out (s.extract a s.size)).run Try.prog w = .ok (.string (out ++ s.extract a s.size)) w := fun w => run_string_add_sum w _ _ (by omega)
        clear hes
        go_wp2
        go_ret2
        exact ⟨ret_str (by rw [HR.out, app_list, ext_list, List.take_of_length_le (by rw [List.length_drop, size_list]; exact Nat.le_refl _)]), hB⟩
end Go.Proofs.Ytbdeakodmhcgdaa
