/- Numbers, integers and strings of the program: readNumber, readInt, readText; beginning. -/
import Derived.Test.YtjcigjggfmfoeaaDoorCoLib
import Derived.Test.YtjcigjggfmfoeaaDoorCoMake
import Derived.Deep.RegionHeld3
namespace Go.Proofs.YtjcigjggfmfoeaaDoor
set_option linter.unusedSimpArgs false
set_option linter.unusedVariables false
set_option maxRecDepth 100000
open Go.RowKit Go.Deep

theorem index_cut (e : UInt8) (l : List UInt8) : (Lib.indexByte l e = -1 ∧ cutAt e l = none) ∨ (∃ k : Nat, Lib.indexByte l e = k ∧ k < l.length ∧ cutAt e l = some (l.take k, l.drop (k + 1))) := by
  induction l with
  | nil => exact .inl ⟨rfl, rfl⟩
  | cons c l ih =>
    by_cases h : c = e
    · subst h
      exact .inr ⟨0, by simp [Lib.indexByte], by simp, by simp [cutAt]⟩
    · have hb : (c == e) = false := by simpa using h
      rcases ih with ⟨i1, i2⟩ | ⟨k, i1, i2, i3⟩
      · left
        refine ⟨?_, by rw [cutAt, if_neg h, i2]⟩
        rw [Lib.indexByte, hb, i1]; simp
      · right
        refine ⟨k + 1, ?_, by simp; omega, by rw [cutAt, if_neg h, i3]; rfl⟩
        rw [Lib.indexByte, hb, i1]
        have : ((k : Int) == -1) = false := by simp
        simp [this]
theorem ext_list (s : ByteArray) (a b : Nat) : (s.extract a b).data.toList = (s.data.toList.drop a).take (b - a) := by
  rw [← ByteArray.toList_eq, Lib.extract_toList]
theorem size_list (s : ByteArray) : s.data.toList.length = s.size := Array.length_toList
theorem ret_three {a a' b b' : ByteArray} {c : Bool} (h : a = a') (h' : b = b') : Ending.returned (.tuple #[.string a, .string b, .bool c]) = .returned (.tuple #[.string a', .string b', .bool c]) := by rw [h, h']
/-- what Cut gives -/
def CutIs (e : UInt8) (s d r : ByteArray) (b : Bool) : Prop := (b = false ∧ d = s ∧ r = ⟨#[]⟩ ∧ cutAt e s.data.toList = none) ∨ (b = true ∧ cutAt e s.data.toList = some (d.data.toList, r.data.toList) ∧ d.size ≤ s.size ∧ r.size ≤ s.size)
def CutPost (c : UInt8) (s : ByteArray) (w : World) (e : Ending) (w' : World) : Prop := ∃ d r b, e = .returned (.tuple #[.string d, .string r, .bool b]) ∧ CutIs c s d r b ∧ Below w.heap.size w w'
set_option maxHeartbeats 1000000 in
theorem cut_in (c : UInt8) (s : ByteArray) (hs : s.size ≤ 1048576) (w : World) :
    Calls Tryd.prog 77 #[.string s, .string ⟨#[c]⟩] w (CutPost c s w) := by
  rcases index_cut c s.data.toList with ⟨h1, h2⟩ | ⟨k, h1, h2, h3⟩
  · have I1 := Lib.hid h1
    have I2 := Lib.hid h2
    clear h1 h2
    go_enter Tryd.func77, Tryd.ntmps77
    go_wp2_with (go_at_call 88; refine (Tryd.stringslite_Index_one s c _).mono ?_; rw [I1.out]; rintro e w' ⟨rfl, rfl⟩)
    refine bodyPost_ret (v := .tuple #[.string s, .string ⟨#[]⟩, .bool false]) (by simp [results, Tryd.results77, go_sem]) rfl ?_
    exact ⟨s, _, false, rfl, .inl ⟨rfl, rfl, rfl, I2.out⟩, Below.refl _ _⟩
  · have I1 := Lib.hid h1
    have I3 := Lib.hid h3
    rw [size_list] at h2
    clear h1 h3
    go_enter Tryd.func77, Tryd.ntmps77
    go_wp2_with (go_at_call 88; refine (Tryd.stringslite_Index_one s c _).mono ?_; rw [I1.out]; rintro e w' ⟨rfl, rfl⟩)
    go_quiet (fail)
    go_wp2
    refine bodyPost_ret (v := .tuple #[.string (s.extract 0 k), .string (s.extract (k + 1) s.size), .bool true]) (by simp [results, Tryd.results77, go_sem]) rfl ?_
    refine ⟨_, _, true, rfl, .inr ⟨rfl, ?_, by simp; omega, by simp⟩, below_drewN _ nq⟩
    rw [I3.out, ext_list, ext_list]
    simp [List.take_of_length_le]
set_option maxHeartbeats 1000000 in
theorem cut_any (c : UInt8) (s : ByteArray) (hs : s.size ≤ 1048576) (w : World) :
    Calls Tryd.prog 70 #[.string s, .string ⟨#[c]⟩] w (CutPost c s w) := by
  have HC := Lib.hid (cut_in c s hs)
  go_enter Tryd.func70, Tryd.ntmps70
  go_wp2_with (go_at_call 77; refine (HC.out _).mono ?_; rintro e w' ⟨d, r, b, rfl, h, hb⟩)
  refine bodyPost_ret (v := .tuple #[.string d, .string r, .bool b]) (by simp [results, Tryd.results70, go_sem]) rfl ⟨d, r, b, rfl, h, hb⟩

/-- what readNumber gives -/
def NumIs (c : UInt8) (s : ByteArray) (n : Int) (r : ByteArray) (b : Bool) : Prop := I64 n ∧ r.size ≤ 1048576 ∧ ((b = true ∧ num c s.data.toList = some (n, r.data.toList)) ∨ (b = false ∧ num c s.data.toList = none))
def NumPost (c : UInt8) (s : ByteArray) (w : World) (e : Ending) (w' : World) : Prop := ∃ n r b, e = .returned (.tuple #[intV n, .string r, .bool b]) ∧ NumIs c s n r b ∧ Below w.heap.size w w'
set_option maxHeartbeats 2000000 in
theorem readNumber_any (c : UInt8) (s : ByteArray) (hs : s.size ≤ 1048576) (w : World) (hT : Tab w) :
    Calls Tryd.prog 66 #[.string s, .string ⟨#[c]⟩] w (NumPost c s w) := by
  have HT := Lib.hid hT
  have HS := Lib.hid hs
  clear hT
  go_enter Tryd.func66, Tryd.ntmps66
  go_wp2_with fail
  refine (cut_any c s hs _).mono ?_
  rintro e w1 ⟨d, r, b, rfl, hc, h1⟩
  have hd : d.size ≤ 1048576 := by rcases hc with ⟨_, rfl, _⟩ | ⟨_, _, h, _⟩ <;> omega
  have hrs : r.size ≤ 1048576 := by
    rcases hc with ⟨_, _, rfl, _⟩ | ⟨_, _, _, h⟩
    · decide
    · omega
  have HC := Lib.hid hc
  have HD := Lib.hid hd
  have HR := Lib.hid hrs
  have HB1 := Lib.hid h1
  clear hc h1 hd hrs hs
  go_wp2_with fail
  refine (atoi_any d HD.out w1 (HT.out.below HB1.out)).mono ?_
  rintro e w2 (⟨n, hn, rfl, h2⟩ | ⟨n, t, p, hn, hn1, hn2, rfl, h2⟩)
  · have HN := Lib.hid hn
    have HB2 := Lib.hid (below_then HB1.out h2)
    clear hn h2 HB1
    have hbd := Lib.atoiAll_bounds HN.out
    obtain ⟨h0, h9⟩ := hbd
    cases b
    · go_wp2_with fail
      refine bodyPost_ret (v := .tuple #[intV n, .string r, .bool false]) (by simp [results, Tryd.results66, go_sem]) rfl ⟨n, r, false, rfl, ⟨⟨h0, h9⟩, HR.out, .inr ⟨rfl, ?_⟩⟩, HB2.out⟩
      rcases HC.out with ⟨_, _, _, h⟩ | ⟨h, _⟩
      · unfold num; rw [h]
      · cases h
    · have hcs := HC.out
      rcases hcs with ⟨h, _⟩ | ⟨_, h, _⟩
      · cases h
      have HCT := Lib.hid h
      obtain ⟨st, hst⟩ : ∃ st : ByteArray, st.data.toList = Lib.itoa n := ⟨⟨(Lib.itoa n).toArray⟩, by simp⟩
      have HST := Lib.hid hst
      clear h HC hst
      go_wp2_with fail
      refine (itoa_at n h0 h9 st HST.out w2 (HT.out.below HB2.out)).mono ?_
      rintro e w3 ⟨rfl, h3⟩
      have HB3 := Lib.hid (below_then HB2.out h3)
      clear h3 HB2
      by_cases heq : Lib.itoa n = d.data.toList
      · have hq : (st.toList == d.toList) = true := by rw [ByteArray.toList_eq, ByteArray.toList_eq, HST.out]; simpa using heq
        go_wp2_with fail
        refine bodyPost_ret (v := .tuple #[intV n, .string r, .bool true]) (by simp [results, Tryd.results66, go_sem]) rfl ⟨n, r, true, rfl, ⟨⟨h0, h9⟩, HR.out, .inl ⟨rfl, ?_⟩⟩, HB3.out⟩
        unfold num; rw [HCT.out]; simp only; rw [HN.out]; exact if_pos heq
      · have hq : (st.toList == d.toList) = false := by rw [ByteArray.toList_eq, ByteArray.toList_eq, HST.out]; exact beq_false_of_ne heq
        have HQ := Lib.hid heq
        clear heq
        go_wp2_with fail
        refine bodyPost_ret (v := .tuple #[intV n, .string r, .bool false]) (by simp [results, Tryd.results66, go_sem]) rfl ⟨n, r, false, rfl, ⟨⟨h0, h9⟩, HR.out, .inr ⟨rfl, ?_⟩⟩, HB3.out⟩
        unfold num; rw [HCT.out]; simp only; rw [HN.out]; exact if_neg HQ.out
  · have HN := Lib.hid hn
    have HB2 := Lib.hid (below_then HB1.out h2)
    clear hn h2 HB1
    have HF := Lib.hid (show num c s.data.toList = none by
      unfold num
      rcases HC.out with ⟨_, _, _, h⟩ | ⟨_, h, _⟩
      · rw [h]
      · rw [h]
        simp only
        cases ha : Lib.atoiAll d.data.toList with
        | ok m => exact absurd ha (HN.out m)
        | «syntax» => rfl
        | range => rfl)
    cases b
    all_goals
      go_wp2_with fail
      refine bodyPost_ret (v := .tuple #[intV n, .string r, .bool false]) (by simp [results, Tryd.results66, go_sem]) rfl ⟨n, r, false, rfl, ⟨⟨hn1, hn2⟩, HR.out, .inr ⟨rfl, HF.out⟩⟩, HB2.out⟩

/-- what readInt gives -/
def IntPost (s : ByteArray) (w : World) (e : Ending) (w' : World) : Prop := ∃ n r b, e = .returned (.tuple #[.agg #[intV 1, intV n, .string ⟨#[]⟩, .slice none 0 0], .string r, .bool b]) ∧ NumIs 59 s n r b ∧ Below w.heap.size w w'
set_option maxHeartbeats 1000000 in
theorem readInt_any (s : ByteArray) (hs : s.size ≤ 1048576) (w : World) (hT : Tab w) :
    Calls Tryd.prog 58 #[.string s] w (IntPost s w) := by
  have HN := Lib.hid (readNumber_any 59 s hs _ (hT.below (below_box0 w (.cells #[intV 0, intV 0, .string ⟨#[]⟩, .slice none 0 0] 24))))
  clear hT
  go_enter Tryd.func58, Tryd.ntmps58
  go_wp2_with fail
  refine HN.out.mono ?_
  rintro e w1 ⟨n, r, b, rfl, hn, h1⟩
  have HI := Lib.hid hn
  have HB1 := Lib.hid h1
  clear hn h1 HN
  go_wp2_with fail
  refine (int_any n w1).mono ?_
  rintro e w2 ⟨rfl, h2⟩
  have hb := below_then HB1.out h2
  rw [World.size_alloc] at hb
  have hb1 : w2.heap[w.heap.size]? = some (.cells #[intV 0, intV 0, .string ⟨#[]⟩, .slice none 0 0] 24 (0, 0)) := (hb.block _ (by omega)).trans (heap_alloc_new _ _)
  obtain ⟨c0, c1, c2, c3⟩ := heap4 hb1
  have f0 : ∀ o, w2.frozen? ⟨w.heap.size, o, none⟩ = false := fun o => by simp [World.frozen?, hb1]
  have g0 := f0 0
  have g1 := f0 1
  have g2 := f0 2
  have g3 := f0 3
  obtain ⟨W4, hW4⟩ : ∃ X, (((w2.setCell ⟨w.heap.size, 0, none⟩ (.int .i64 1)).setCell ⟨w.heap.size, 1, none⟩ (.int .i64 n)).setCell ⟨w.heap.size, 2, none⟩ (.string ⟨#[]⟩)).setCell ⟨w.heap.size, 3, none⟩ (.slice none 0 0) = X := ⟨_, rfl⟩
  have HS := Lib.hid (set4 hb1 hW4)
  have HW := Lib.hid hW4
  have HB := Lib.hid hb
  clear hb hb1 f0 hW4 h2 HB1
  go_wp2
  rw [HW.out]
  obtain ⟨k1, k2, k3⟩ := HS.out
  obtain ⟨d0, d1, d2, d3⟩ := heap4 k1
  refine bodyPost_ret (v := .tuple #[.agg #[intV 1, intV n, .string ⟨#[]⟩, .slice none 0 0], .string r, .bool b]) (by simp [results, Tryd.results58, go_sem, d0, d1, d2, d3]) rfl ⟨n, r, b, rfl, HI.out, ?_⟩
  have h1 := below_seq (below_box0 w _) HB.out (by omega)
  exact h1.trans ⟨by rw [← HW.out]; rfl, by rw [← HW.out]; rfl, by rw [← HW.out]; rfl, by omega, fun b hb => k2 b (by omega)⟩

theorem froz4 {w : World} {b : Nat} {cs : Array Value} {t : TypeId} (h : w.heap[b]? = some (.cells cs t (0, 0))) :
    w.frozen? ⟨b, 0, none⟩ = false ∧ w.frozen? ⟨b, 1, none⟩ = false ∧ w.frozen? ⟨b, 2, none⟩ = false ∧ w.frozen? ⟨b, 3, none⟩ = false := by
  refine ⟨?_, ?_, ?_, ?_⟩ <;> simp [World.frozen?, h]
theorem box_after {w w1 w2 : World} {o0 o : Obj} (h1 : Below (w.heap.size + 1) (w.alloc o0) w1) (hb : w1.heap[w.heap.size]? = some o) (h2 : Below w1.drew.heap.size w1.drew w2) : w2.heap[w.heap.size]? = some o :=
  (h2.block _ (Array.getElem?_eq_some_iff.1 hb).1).trans hb
/-- what readText gives -/
def TextPost (s : ByteArray) (w : World) (e : Ending) (w' : World) : Prop :=
  (∃ (n : Int) (q r : ByteArray) (rest : List UInt8), num 58 s.data.toList = some (n, rest) ∧ 0 ≤ n ∧ n ≤ rest.length ∧ q.data.toList = rest.take n.toNat ∧ r.data.toList = rest.drop n.toNat ∧ q.size ≤ 1048576 ∧ r.size ≤ 1048576 ∧
    e = .returned (.tuple #[.agg #[intV 2, intV 0, .string q, .slice none 0 0], .string r, .bool true]) ∧ Below w.heap.size w w') ∨
  ((∀ n rest, num 58 s.data.toList = some (n, rest) → ¬ (0 ≤ n ∧ n ≤ rest.length)) ∧ e = .returned (.tuple #[.agg #[intV 0, intV 0, .string ⟨#[]⟩, .slice none 0 0], .string ⟨#[]⟩, .bool false]) ∧ Below w.heap.size w w')
set_option maxHeartbeats 2000000 in
theorem readText_any (s : ByteArray) (hs : s.size ≤ 1048576) (w : World) (hT : Tab w) :
    Calls Tryd.prog 59 #[.string s] w (TextPost s w) := by
  have HN := Lib.hid (readNumber_any 58 s hs _ (hT.below (below_box0 w (.cells #[intV 0, intV 0, .string ⟨#[]⟩, .slice none 0 0] 24))))
  clear hT
  go_enter Tryd.func59, Tryd.ntmps59
  go_wp2_with fail
  refine HN.out.mono ?_
  rintro e w1 ⟨n, r, b, rfl, ⟨hi, hr, hn⟩, h1⟩
  rw [World.size_alloc] at h1
  have hb1 : w1.heap[w.heap.size]? = some (.cells #[intV 0, intV 0, .string ⟨#[]⟩, .slice none 0 0] 24 (0, 0)) := (h1.block _ (by omega)).trans (heap_alloc_new _ _)
  obtain ⟨c0, c1, c2, c3⟩ := heap4 hb1
  have f0 : ∀ o, w1.frozen? ⟨w.heap.size, o, none⟩ = false := fun o => by simp [World.frozen?, hb1]
  have g0 := f0 0
  have g1 := f0 1
  have g2 := f0 2
  have g3 := f0 3
  have HI := Lib.hid hn
  have HB1 := Lib.hid h1
  have HH1 := Lib.hid hb1
  clear hn h1 HN hb1 f0
  by_cases hgood : b = true ∧ 0 ≤ n ∧ n ≤ (r.size : Int)
  · obtain ⟨rfl, hn0, hnr⟩ := hgood
    obtain ⟨m, rfl⟩ : ∃ m : Nat, n = m := ⟨n.toNat, by omega⟩
    have hmr : m ≤ r.size := by omega
    have hnr' : ¬ (r.size : Int) < (m : Int) := by omega
    clear hnr hn0
    go_wp2_with fail
    go_region_held3 (fun w' => True) (trivial)
      (first | (go_at_call 25; refine (text_any _ _).mono ?_; rintro e w2 ⟨rfl, h2⟩; have HB2 := Lib.hid h2; have hb2 := box_after HB1.out HH1.out h2; have HH2 := Lib.hid hb2; obtain ⟨c0, c1, c2, c3⟩ := heap4 hb2; obtain ⟨g0, g1, g2, g3⟩ := froz4 hb2; clear h2 hb2))
    obtain ⟨W4, hW4⟩ : ∃ X, (((w2.setCell ⟨w.heap.size, 0, none⟩ (.int .i64 2)).setCell ⟨w.heap.size, 1, none⟩ (.int .i64 0)).setCell ⟨w.heap.size, 2, none⟩ (.string (r.extract 0 m))).setCell ⟨w.heap.size, 3, none⟩ (.slice none 0 0) = X := ⟨_, rfl⟩
    have HS := Lib.hid (set4 HH2.out hW4)
    have HW := Lib.hid hW4
    rw [hW4]
    clear hW4 c0 c1 c2 c3 g0 g1 g2 g3
    go_wp2
    obtain ⟨k1, k2, k3⟩ := HS.out
    obtain ⟨d0, d1, d2, d3⟩ := heap4 k1
    have hb := below_seq (below_seq (below_seq (below_box0 w _) HB1.out (by omega)) (Below.refl w1.heap.size w1).drew (show w.heap.size ≤ w1.heap.size by have := HB1.out.size; simp at this; omega)) HB2.out (show w.heap.size ≤ w1.heap.size by have := HB1.out.size; simp at this; omega)
    have hbw : Below w.heap.size w W4 := hb.trans ⟨by rw [← HW.out]; rfl, by rw [← HW.out]; rfl, by rw [← HW.out]; rfl, by omega, fun b hb => k2 b (by omega)⟩
    have hnum : num 58 s.data.toList = some ((m : Int), r.data.toList) := by
      rcases HI.out with ⟨_, h⟩ | ⟨h, _⟩
      · exact h
      · cases h
    refine bodyPost_ret (v := .tuple #[.agg #[intV 2, intV 0, .string (r.extract 0 m), .slice none 0 0], .string (r.extract m r.size), .bool true]) (by simp [results, Tryd.results59, go_sem, d0, d1, d2, d3]) rfl (.inl ⟨m, r.extract 0 m, r.extract m r.size, r.data.toList, hnum, by omega, by rw [size_list]; omega, ?_, ?_, ?_, ?_, rfl, hbw⟩)
    · rw [ext_list]; simp
    · rw [ext_list]; simp
      rw [List.take_of_length_le]
      rw [List.length_drop, size_list]; omega
    · simp; omega
    · simp; omega
  · have hbad : ∀ n' rest, num 58 s.data.toList = some (n', rest) → ¬ (0 ≤ n' ∧ n' ≤ rest.length) := by
      intro n' rest hnum
      rcases HI.out with ⟨rfl, h⟩ | ⟨_, h⟩
      · rw [h] at hnum
        cases hnum
        rw [size_list]
        exact fun hh => hgood ⟨rfl, hh⟩
      · rw [h] at hnum; cases hnum
    obtain ⟨W4, hW4⟩ : ∃ X, (((w1.setCell ⟨w.heap.size, 0, none⟩ (.int .i64 0)).setCell ⟨w.heap.size, 1, none⟩ (.int .i64 0)).setCell ⟨w.heap.size, 2, none⟩ (.string ⟨#[]⟩)).setCell ⟨w.heap.size, 3, none⟩ (.slice none 0 0) = X := ⟨_, rfl⟩
    have HS := Lib.hid (set4 HH1.out hW4)
    have HW := Lib.hid hW4
    have HBAD := Lib.hid hbad
    have HG := Lib.hid hgood
    clear hW4 hbad hgood
    obtain ⟨hi0, hi1⟩ := hi
    cases b with
    | false =>
      go_wp2_with fail
      rw [HW.out]
      obtain ⟨k1, k2, k3⟩ := HS.out
      obtain ⟨d0, d1, d2, d3⟩ := heap4 k1
      have hbw : Below w.heap.size w W4 := (below_seq (below_box0 w _) HB1.out (by omega)).trans ⟨by rw [← HW.out]; rfl, by rw [← HW.out]; rfl, by rw [← HW.out]; rfl, by omega, fun b hb => k2 b (by omega)⟩
      refine bodyPost_ret (v := .tuple #[.agg #[intV 0, intV 0, .string ⟨#[]⟩, .slice none 0 0], .string ⟨#[]⟩, .bool false]) (by simp [results, Tryd.results59, go_sem, d0, d1, d2, d3]) rfl (.inr ⟨HBAD.out, rfl, hbw⟩)
    | true =>
      by_cases hn0 : n < 0
      · go_wp2_with fail
        rw [HW.out]
        obtain ⟨k1, k2, k3⟩ := HS.out
        obtain ⟨d0, d1, d2, d3⟩ := heap4 k1
        have hbw : Below w.heap.size w W4 := (below_seq (below_box0 w _) HB1.out (by omega)).trans ⟨by rw [← HW.out]; rfl, by rw [← HW.out]; rfl, by rw [← HW.out]; rfl, by omega, fun b hb => k2 b (by omega)⟩
        refine bodyPost_ret (v := .tuple #[.agg #[intV 0, intV 0, .string ⟨#[]⟩, .slice none 0 0], .string ⟨#[]⟩, .bool false]) (by simp [results, Tryd.results59, go_sem, d0, d1, d2, d3]) rfl (.inr ⟨HBAD.out, rfl, hbw⟩)
      · have hgt : (r.size : Int) < n := by
          have := HG.out
          by_cases h : n ≤ (r.size : Int)
          · exact absurd ⟨rfl, by omega, h⟩ this
          · omega
        have hn1 : decide (n < 0) = false := by simpa using hn0
        clear hn0
        go_wp2_with fail
        rw [HW.out]
        obtain ⟨k1, k2, k3⟩ := HS.out
        obtain ⟨d0, d1, d2, d3⟩ := heap4 k1
        have hbw : Below w.heap.size w W4 := (below_seq (below_box0 w _) HB1.out (by omega)).trans ⟨by rw [← HW.out]; rfl, by rw [← HW.out]; rfl, by rw [← HW.out]; rfl, by omega, fun b hb => k2 b (by omega)⟩
        refine bodyPost_ret (v := .tuple #[.agg #[intV 0, intV 0, .string ⟨#[]⟩, .slice none 0 0], .string ⟨#[]⟩, .bool false]) (by simp [results, Tryd.results59, go_sem, d0, d1, d2, d3]) rfl (.inr ⟨HBAD.out, rfl, hbw⟩)

/-- how an encoding begins -/
theorem add_string (a b : ByteArray) : (a ++ b).data.toList = a.data.toList ++ b.data.toList := by
  rw [← ByteArray.toList_eq, ← ByteArray.toList_eq, ← ByteArray.toList_eq]; simp [ByteArray.toList_eq]
def BegPost (l : List UInt8) (w : World) (e : Ending) (w' : World) : Prop := ∃ st : ByteArray, e = .returned (.string st) ∧ st.data.toList = l ∧ Below w.heap.size w w'
set_option maxHeartbeats 1000000 in
theorem beginning_any (k n : Int) (t : ByteArray) (a : Option Addr) (m c : Nat) (h0 : -9223372036854775808 ≤ n) (h1 : n ≤ 9223372036854775807) (ht : t.size ≤ 1048576) (w : World) (hT : Tab w) :
    Calls Tryd.prog 36 #[.agg #[intV k, intV n, .string t, .slice a m c]] w (BegPost (begV (.mk k n t [])) w) := by
  have HT := Lib.hid (hT.below (below_box0 w (.cells #[intV k, intV n, .string t, .slice a m c] 24)))
  clear hT
  by_cases k1 : k = 1
  · subst k1
    obtain ⟨st, hst⟩ : ∃ st : ByteArray, st.data.toList = Lib.itoa n := ⟨⟨(Lib.itoa n).toArray⟩, by simp⟩
    have hsz : st.size ≤ 21 := by rw [← size_list, hst]; exact Lib.itoa_length_le n h0 h1
    have HST := Lib.hid hst
    clear hst
    go_enter Tryd.func36, Tryd.ntmps36
    go_wp2_with fail
    refine (itoa_at n h0 h1 st HST.out _ HT.out).mono ?_
    rintro e w1 ⟨rfl, hb⟩
    have HB := Lib.hid hb
    clear hb
    go_wp2
    go_ret
    refine ⟨_, rfl, ?_, below_then (below_box0 w _) HB.out⟩
    rw [add_string, add_string, HST.out, begV, if_pos rfl]
    rfl
  by_cases k2 : k = 2
  · subst k2
    obtain ⟨st, hst⟩ : ∃ st : ByteArray, st.data.toList = Lib.itoa t.size := ⟨⟨(Lib.itoa t.size).toArray⟩, by simp⟩
    have hsz : st.size ≤ 21 := by rw [← size_list, hst]; exact Lib.itoa_length_le _ (by omega) (by omega)
    have HST := Lib.hid hst
    clear hst
    have hk1 : ((2 : Int) == 1) = false := rfl
    go_enter Tryd.func36, Tryd.ntmps36
    go_wp2_with fail
    have hcc : (w.alloc (.cells #[intV 2, intV n, .string t, .slice a m c] 24)).cell? ⟨w.heap.size, 2, none⟩ = some (.string t) := (box4 (Below.refl _ _)).2.2.1
    have HCC := Lib.hid hcc
    clear hcc
    have z1 : (⟨#[115]⟩ : ByteArray).size = 1 := rfl
    have z2 : (⟨#[58]⟩ : ByteArray).size = 1 := rfl
    have p1 : ∀ w, (Op.stringOp .add ⟨#[115]⟩ st).run Tryd.prog w = .ok (.string (⟨#[115]⟩ ++ st)) w := fun w => run_string_add_sum w _ _ (by omega)
    have p2 : ∀ w, (Op.stringOp .add (⟨#[115]⟩ ++ st) ⟨#[58]⟩).run Tryd.prog w = .ok (.string (⟨#[115]⟩ ++ st ++ ⟨#[58]⟩)) w := fun w => run_string_add_sum w _ _ (by rw [ByteArray.size_append]; omega)
    have p3 : ∀ w, (Op.stringOp .add (⟨#[115]⟩ ++ st ++ ⟨#[58]⟩) t).run Tryd.prog w = .ok (.string (⟨#[115]⟩ ++ st ++ ⟨#[58]⟩ ++ t)) w := fun w => run_string_add_sum w _ _ (by rw [ByteArray.size_append, ByteArray.size_append]; omega)
    clear z1 z2
    go_region_held3 (fun w' => w'.cell? ⟨w.heap.size, 2, none⟩ = some (.string t)) (first | exact HCC.out | exact HC2.out)
      (first | (go_at_call 55; refine (itoa_at t.size (by omega) (by omega) st HST.out _ (HT.out.below (Below.refl _ _).drew)).mono ?_; rintro e w1 ⟨rfl, hb⟩; have HC2 := Lib.hid ((hb.cell (p := ⟨w.heap.size, 2, none⟩) (by simp)).trans HCC.out); have HB := Lib.hid hb; clear hb))
    all_goals
      go_wp2
      go_ret
      refine ⟨_, rfl, ?_, below_then (below_seq (below_box0 w _) (Below.refl _ _).drew (Nat.le_refl _)) HB.out⟩
      rw [add_string, add_string, add_string, HST.out, begV, if_neg (by decide), if_pos rfl]
      simp
  · have hk1 : (k == 1) = false := by simpa using k1
    have hk2 : (k == 2) = false := by simpa using k2
    go_enter Tryd.func36, Tryd.ntmps36
    go_wp2_with fail
    go_ret
    exact ⟨_, rfl, by rw [begV, if_neg k1, if_neg k2], below_box0 w _⟩
end Go.Proofs.YtjcigjggfmfoeaaDoor
