/- strings.Cut with one byte, firstBrackets, firstElement. -/
import Derived.Test.YtjjdihkjkmhjnaaGpOne
import Derived.Test.YtjjdihkjkmhjnaaShelf
import Derived.Deep.QuietTactic
import Derived.BigQuiet
import Derived.Test.YtjjdihkjkmhjnaaGlHold
namespace Go.Proofs.Ytjjdihkjkmhjnaa
set_option linter.unusedSimpArgs false
set_option linter.unusedVariables false
set_option maxRecDepth 100000
open Go.RowKit Go.Deep

theorem index_cut (e : UInt8) : ∀ l : List UInt8, (cutAt e l = none ∧ Lib.indexByte l e = -1) ∨ ∃ k : Nat, k < l.length ∧ cutAt e l = some (l.take k, l.drop (k + 1)) ∧ Lib.indexByte l e = k
  | [] => .inl ⟨rfl, rfl⟩
  | c :: l => by
    by_cases h : c = e
    · subst h
      exact .inr ⟨0, by simp, by simp [cutAt], by simp [Lib.indexByte]⟩
    · have hb : (c == e) = false := by simpa using h
      rcases index_cut e l with ⟨i1, i2⟩ | ⟨k, i0, i1, i2⟩
      · left
        refine ⟨by rw [cutAt, if_neg h, i1], ?_⟩
        rw [Lib.indexByte, hb, i2]; simp
      · right
        refine ⟨k + 1, by simpa using i0, by rw [cutAt, if_neg h, i1]; rfl, ?_⟩
        rw [Lib.indexByte, hb, i2]
        have : ((k : Int) == -1) = false := by simp
        simp [this]
def CutPost (e : UInt8) (s : ByteArray) (w : World) (en : Ending) (w' : World) : Prop :=
  (cutAt e s.data.toList = none ∧ en = .returned (.tuple #[.string s, .string ⟨#[]⟩, .bool false]) ∧ w = w') ∨
  ∃ d r : ByteArray, cutAt e s.data.toList = some (d.data.toList, r.data.toList) ∧ en = .returned (.tuple #[.string d, .string r, .bool true]) ∧ ∃ n, w' = w.drewN n
set_option maxHeartbeats 1000000 in
theorem liteCut_any (s : ByteArray) (c : UInt8) (hs : s.size ≤ 64) (w : World) :
    Calls Try.prog 83 #[.string s, .string ⟨#[c]⟩] w (CutPost c s w) := by
  have HI := Lib.hid (Try.stringslite_Index_one s c w)
  have hsz : (⟨#[c]⟩ : ByteArray).size = 1 := rfl
  rcases index_cut c s.data.toList with ⟨h1, h2⟩ | ⟨k, h0, h1, h2⟩
  · rw [h2] at HI
    have H1 := Lib.hid h1
    clear h1 h2
    go_enter Try.func83, Try.ntmps83
    go_wp2_with fail
    refine HI.out.mono ?_
    rintro e w1 ⟨rfl, rfl⟩
    go_wp2_with fail
    refine bodyPost_ret (v := .tuple #[.string s, .string ⟨#[]⟩, .bool false]) (by simp [results, Try.results83, go_sem]) rfl (.inl ⟨H1.out, rfl, rfl⟩)
  · rw [h2] at HI
    rw [size_list] at h0
    obtain ⟨d, hd⟩ : ∃ d, s.extract 0 k = d := ⟨_, rfl⟩
    obtain ⟨r, hr⟩ : ∃ r, s.extract (k + 1) s.size = r := ⟨_, rfl⟩
    have h1' : cutAt c s.data.toList = some (d.data.toList, r.data.toList) := by
      rw [h1, ← hd, ← hr, ext_list, ext_list, List.drop_zero, Nat.sub_zero, List.take_of_length_le (l := List.drop (k + 1) _) (by rw [List.length_drop, size_list]; omega)]
    have H1 := Lib.hid h1'
    have hk0 : (0 : Int) ≤ k := by omega
    have hk1 : (k : Int) ≤ s.size := by omega
    have hk2 : (k : Int) + 1 ≤ s.size := by omega
    have hw : IntKind.i64.wrap ((k : Int) + 1) = (k : Int) + 1 := IntWalk.i64_in _ (by omega)
    have hk3 : (0 : Int) ≤ (k : Int) + 1 := by omega
    have hk4 : ((k : Int) + 1).toNat = k + 1 := by omega
    clear h1 h1' h2
    go_enter Try.func83, Try.ntmps83
    go_wp2_with fail
    refine HI.out.mono ?_
    rintro e w1 ⟨rfl, rfl⟩
    go_wp2_with fail
    go_quiet (fail)
    go_wp2_with fail
    refine bodyPost_ret (v := .tuple #[.string d, .string r, .bool true]) (by simp [results, Try.results83, go_sem]) rfl (.inr ⟨d, r, H1.out, rfl, _, rfl⟩)
theorem cut_any (s : ByteArray) (c : UInt8) (hs : s.size ≤ 64) (w : World) :
    Calls Try.prog 80 #[.string s, .string ⟨#[c]⟩] w (CutPost c s w) := by
  have H := Lib.hid (liteCut_any s c hs w)
  go_enter Try.func80, Try.ntmps80
  go_wp2_with fail
  refine H.out.mono ?_
  rintro e w1 (⟨h, rfl, rfl⟩ | ⟨d, r, h, rfl, n, rfl⟩)
  · have H1 := Lib.hid h
    clear h
    go_wp2_with fail
    refine bodyPost_ret (v := .tuple #[.string s, .string ⟨#[]⟩, .bool false]) (by simp [results, Try.results80, go_sem]) rfl (.inl ⟨H1.out, rfl, rfl⟩)
  · have H1 := Lib.hid h
    clear h
    go_wp2_with fail
    refine bodyPost_ret (v := .tuple #[.string d, .string r, .bool true]) (by simp [results, Try.results80, go_sem]) rfl (.inr ⟨d, r, H1.out, rfl, n, rfl⟩)
/-! ### elements as values -/
def elA (x : El) : Array Value := cellA (elB x) (fun i => x.fits (UInt8.ofNat i)) x.isS
theorem elA_size (x : El) : (elA x).size = 258 := cellA_size _ _ _
theorem elA_one (x : El) : ∀ v ∈ (elA x).toList, v.oneCell' = true := cellA_one _ _ _
def elV (er : Int) (x : El) : Array Value := if er = 0 then elA x else zeroA
theorem elV_size (er : Int) (x : El) : (elV er x).size = 258 := by
  unfold elV; split
  · exact elA_size x
  · exact cellA_size _ _ _
theorem elV_one (er : Int) (x : El) : ∀ v ∈ (elV er x).toList, v.oneCell' = true := by
  unfold elV; split
  · exact elA_one x
  · exact cellA_one _ _ _
theorem cellA_congr {t : ByteArray} {S T : Nat → Bool} {s : Bool} (h : ∀ i < 256, S i = T i) : cellA t S s = cellA t T s := by
  unfold cellA cellL; rw [rowL_congr h]
theorem elA_one' (c : UInt8) : cellA (bOne c) (bytesOf [c]) false = elA (.one c) := by
  unfold elA
  have h1 : elB (.one c) = bOne c := ba_of (by rw [elB_list]; rfl)
  rw [h1]
  refine cellA_congr fun i hi => ?_
  show (c.toNat == i || false) = (c == UInt8.ofNat i)
  rw [Bool.or_false]
  by_cases e : c.toNat = i
  · subst e; simp
  · have h1 : (c.toNat == i) = false := by simpa using e
    have h2 : (c == UInt8.ofNat i) = false := by
      rw [beq_eq_false_iff_ne]
      rintro rfl
      exact e (UInt8.toNat_ofNat_of_lt' (by simpa using hi))
    rw [h1, h2]
theorem elA_cls {d tx : ByteArray} (ht : tx.data.toList = 91 :: (d.data.toList ++ [93])) : cellA tx (bytesOf d.data.toList) false = elA (.cls d.data.toList) := by
  unfold elA
  have h1 : elB (.cls d.data.toList) = tx := ba_of (by rw [elB_list, ht]; rfl)
  rw [h1]
  refine cellA_congr fun i hi => ?_
  show (d.data.toList.any fun c => c.toNat == i) = d.data.toList.any (· == UInt8.ofNat i)
  congr 1
  funext c
  by_cases e : c.toNat = i
  · subst e; simp
  · have h1 : (c.toNat == i) = false := by simpa using e
    have h2 : (c == UInt8.ofNat i) = false := by
      rw [beq_eq_false_iff_ne]
      rintro rfl
      exact e (UInt8.toNat_ofNat_of_lt' (by simpa using hi))
    rw [h1, h2]
theorem elA_star : cellA ⟨#[42]⟩ (fun _ => true) true = elA .star := rfl
theorem elA_any : cellA ⟨#[63]⟩ (fun _ => true) false = elA .any := rfl
/-- what firstBrackets and firstElement give -/
def FirstPost (er : Int) (x : El) (w : World) (e : Ending) (w' : World) : Prop := e = .returned (.tuple #[.agg (elV er x), intV er]) ∧ Below w.heap.size w w'
theorem size_elV (er : Int) (x : El) : (Try.prog.info? 55).map (·.size) = some (elV er x).size := by rw [elV_size]; exact (zero_of_info info_el).2
set_option maxHeartbeats 1000000 in
theorem brackets_at (p : ByteArray) (h0 : 0 < p.size) (hp : p.size ≤ 64) (h91 : p[0] = 91) (er : Int) (x : El) (n : Nat) (h : pel p.data.toList = (er, x, n)) (w : World) :
    Calls Try.prog 70 #[.string p] w (FirstPost er x w) := by
  obtain ⟨hz, hi⟩ := zero_of_info info_el
  obtain ⟨q, hq⟩ : ∃ q, p.extract 1 p.size = q := ⟨_, rfl⟩
  have hpl : p.data.toList = 91 :: q.data.toList := by
    have := drop_at p 0 h0
    rw [List.drop_zero, h91] at this
    rw [this, ← hq, ext_list, List.take_of_length_le (by rw [List.length_drop, size_list]; omega)]
  have hqs : q.size ≤ 64 := by
    have := congrArg List.length hpl
    rw [size_list, List.length_cons, size_list] at this; omega
  rw [hpl] at h
  unfold pel at h
  simp only at h
  rw [if_neg (by decide), if_pos trivial] at h
  have HC := Lib.hid (cut_any q 93 hqs (w.alloc (.cells zeroA 55)))
  have HH := Lib.hid h
  have HQS := Lib.hid (show q.size + 1 ≤ 64 by have := congrArg List.length hpl; rw [size_list, List.length_cons, size_list] at this; omega)
  have h1p : (1 : Int) ≤ p.size := by omega
  have HB0 := Lib.hid ((Below.refl w.heap.size w).alloc (Nat.le_refl _) (.cells zeroA 55))
  have HG0 := Lib.hid (heap_alloc_new w (.cells zeroA 55))
  clear hpl h hi
  go_enter Try.func70, Try.ntmps70
  go_wp2_with fail
  refine HC.out.mono ?_
  rintro e w1 (⟨hc, rfl, rfl⟩ | ⟨d, r, hc, rfl, m, rfl⟩)
  · have hh := HH.out
    rw [hc] at hh
    simp only [Prod.mk.injEq] at hh
    obtain ⟨rfl, rfl, rfl⟩ := hh
    clear hc
    go_wp2_with (refine wpList_store_into rfl 55 (.tmp 2) (.tmp 20) rfl w.heap.size zeroA rfl rfl 55 zeroA HG0.out (size_el _ _ _) rfl (cellA_one _ _ _) ?_; intro W1 g1 g2 g3; have HG1 := Lib.hid (And.intro g1 (below_seq HB0.out (g3 w.heap.size (Nat.le_refl _)) (Nat.le_refl _))); clear g1 g2 g3)
    have hl := load_el HG1.out.1 (cellA_size _ _ _)
    refine bodyPost_ret (v := .tuple #[.agg zeroA, intV 3]) ?_ rfl ⟨rfl, HG1.out.2⟩
    simp [results, Try.results70, asAddr, hl]
  · have hh := HH.out
    rw [hc] at hh
    simp only at hh
    have hds : d.size + 2 ≤ 65 := by
      have := (cutAt_some hc).1
      have := congrArg List.length this
      rw [size_list, List.length_append, List.length_cons, size_list] at this
      have := HQS.out
      omega
    clear hc
    have HH2 := Lib.hid hh
    clear hh
    by_cases hd0 : d.size = 0
    · have hdn : d.data.toList = [] := List.eq_nil_of_length_eq_zero (by rw [size_list]; exact hd0)
      have hh := HH2.out
      rw [if_pos hdn] at hh
      simp only [Prod.mk.injEq] at hh
      obtain ⟨rfl, rfl, rfl⟩ := hh
      have q1 : (d.toList == []) = true := by rw [ByteArray.toList_eq, hdn]; rfl
      have q2 : d.toList.isEmpty = true := by rw [ByteArray.toList_eq, hdn]; rfl
      have q3 : d.toList = [] := by rw [ByteArray.toList_eq, hdn]
      clear hdn hd0
      go_wp2_with (refine wpList_store_into rfl 55 (.tmp 2) (.tmp 20) rfl w.heap.size zeroA rfl rfl 55 zeroA HG0.out (size_el _ _ _) rfl (cellA_one _ _ _) ?_; intro W1 g1 g2 g3; have HG1 := Lib.hid (And.intro g1 (below_seq (HB0.out.trans (below_drewN _ m |>.mono HB0.out.size)) (g3 w.heap.size (Nat.le_refl _)) (Nat.le_refl _))); clear g1 g2 g3)
      have hl := load_el HG1.out.1 (cellA_size _ _ _)
      refine bodyPost_ret (v := .tuple #[.agg zeroA, intV 3]) ?_ rfl ⟨rfl, HG1.out.2⟩
      simp [results, Try.results70, asAddr, hl]
    · have hdn : d.data.toList ≠ [] := by intro e; have := congrArg List.length e; rw [size_list, List.length_nil] at this; omega
      have hh := HH2.out
      rw [if_neg hdn] at hh
      have q1 : (d.toList == []) = false := by rw [ByteArray.toList_eq]; simpa using hdn
      have q2 : d.toList.isEmpty = false := by rw [ByteArray.toList_eq]; simpa using hdn
      have q3 : ¬ d.toList = [] := by rw [ByteArray.toList_eq]; exact hdn
      obtain ⟨tx1, ht1⟩ : ∃ tx1, (⟨#[91]⟩ : ByteArray) ++ d = tx1 := ⟨_, rfl⟩
      obtain ⟨tx, htx⟩ : ∃ tx, tx1 ++ (⟨#[93]⟩ : ByteArray) = tx := ⟨_, rfl⟩
      have s1 : tx1.size = 1 + d.size := by rw [← ht1, ByteArray.size_append]; rfl
      have hadd1 : ∀ w, (Op.stringOp .add (⟨#[91]⟩ : ByteArray) d).run Try.prog w = .ok (.string tx1) w := fun w => by
        rw [← ht1]; exact run_string_add_sum w _ _ (by show 1 + d.size ≤ _; omega)
      have hadd2 : ∀ w, (Op.stringOp .add tx1 (⟨#[93]⟩ : ByteArray)).run Try.prog w = .ok (.string tx) w := fun w => by
        rw [← htx]; exact run_string_add_sum w _ _ (by show tx1.size + 1 ≤ _; omega)
      have htl : tx.data.toList = 91 :: (d.data.toList ++ [93]) := by rw [← htx, ← ht1]; simp
      have HO := Lib.hid (show ∀ w, Calls Try.prog 71 #[.string d, .string tx] w (FirstPost er x w) from fun w => by
        refine oneOf_at d tx (by omega) (elV er x) er ?_ w
        unfold oneV elV
        by_cases hall : d.data.toList.all chW = true
        · rw [if_pos hall] at hh
          simp only [Prod.mk.injEq] at hh
          obtain ⟨rfl, rfl, _⟩ := hh
          rw [if_pos hall, if_pos rfl, elA_cls htl]
        · rw [if_neg hall] at hh
          simp only [Prod.mk.injEq] at hh
          obtain ⟨rfl, rfl, _⟩ := hh
          rw [if_neg hall, if_neg (by decide)])
      clear hdn hd0 htl htx ht1 hh s1
      go_wp2_with fail
      refine (HO.out _).mono ?_
      rintro e w2 ⟨rfl, h2⟩
      have HG2 := Lib.hid ((h2.block w.heap.size (by show w.heap.size < (w.alloc _).heap.size; simp)).trans HG0.out)
      have HB2 := Lib.hid ((HB0.out.trans (below_drewN _ m |>.mono HB0.out.size)).trans (h2.mono HB0.out.size))
      clear h2
      go_wp2_with (refine wpList_store_into rfl 55 (.tmp 2) (.tmp 26) rfl w.heap.size (elV er x) rfl rfl 55 zeroA HG2.out (size_elV _ _) (by rw [elV_size, zeroA_eq, cellA_size]) (elV_one _ _) ?_; intro W1 g1 g2 g3; have HG1 := Lib.hid (And.intro g1 (below_seq HB2.out (g3 w.heap.size (Nat.le_refl _)) (Nat.le_refl _))); clear g1 g2 g3)
      have hl := load_el HG1.out.1 (elV_size _ _)
      refine bodyPost_ret (v := .tuple #[.agg (elV er x), intV er]) ?_ rfl ⟨rfl, HG1.out.2⟩
      simp [results, Try.results70, asAddr, hl]
theorem not_br {c : UInt8} (h : c ≠ 91) (h2 : c ≠ 93) (l : List UInt8) : pel (c :: l) = if chW c then (0, chEl c, 1) else (11, .any, 0) := by
  show (if c = 93 then _ else if c = 91 then _ else _) = _
  rw [if_neg h2, if_neg h]
set_option maxHeartbeats 1000000 in
theorem first_at (p : ByteArray) (h0 : 0 < p.size) (hp : p.size ≤ 64) (er : Int) (x : El) (n : Nat) (h : pel p.data.toList = (er, x, n)) (w : World) :
    Calls Try.prog 56 #[.string p] w (FirstPost er x w) := by
  obtain ⟨hz, hi⟩ := zero_of_info info_el
  obtain ⟨c, hc⟩ : ∃ c, p[0] = c := ⟨_, rfl⟩
  have hpl : p.data.toList = c :: p.data.toList.drop 1 := by
    have := drop_at p 0 h0
    rw [List.drop_zero, hc] at this
    exact this
  have HB0 := Lib.hid ((Below.refl w.heap.size w).alloc (Nat.le_refl _) (.cells zeroA 55))
  have HG0 := Lib.hid (heap_alloc_new w (.cells zeroA 55))
  have h1p : (1 : Int) ≤ p.size := by omega
  clear hi
  by_cases e42 : c = 42
  · subst e42
    rw [hpl, not_br (by decide) (by decide)] at h
    have hh : (0, El.star, 1) = (er, x, n) := h
    simp only [Prod.mk.injEq] at hh
    obtain ⟨rfl, rfl, rfl⟩ := hh
    have q1 : (((42 : UInt8).toNat : Int) == 42) = true := rfl
    clear h hpl
    go_enter Try.func56, Try.ntmps56
    go_wp2_with fail
    refine (allBytes_any _).mono ?_
    rintro e w2 ⟨rfl, h2⟩
    have HG2 := Lib.hid ((h2.block w.heap.size (by show w.heap.size < (w.alloc _).heap.size; simp)).trans HG0.out)
    have HB2 := Lib.hid (HB0.out.trans (h2.mono HB0.out.size))
    clear h2
    rename_i hK
    refine hK _ _ ?_
    clear hK
    refine wpList_build_as rfl 55 #[(0, .const (.string ⟨#[42]⟩)), (1, .tmp 8), (2, .const (.bool true))] rfl [(0, .string ⟨#[42]⟩), (1, .agg (rowA fun _ => true)), (2, .bool true)] (by simp [Act.eval]) _ built_star ?_
    go_wp2_with (first
      | (refine wpList_store_into rfl 55 (.tmp 2) (.tmp 9) rfl w.heap.size (cellA ⟨#[42]⟩ (fun _ => true) true) rfl rfl 55 zeroA HG2.out (size_el _ _ _) (by rw [zeroA_eq, cellA_size, cellA_size]) (cellA_one _ _ _) ?_; intro W1 g1 g2 g3; have HG1 := Lib.hid (And.intro g1 (below_seq HB2.out (g3 w.heap.size (Nat.le_refl _)) (Nat.le_refl _))); clear g1 g2 g3))
    have hl := load_el HG1.out.1 (cellA_size _ _ _)
    refine bodyPost_ret (v := .tuple #[.agg (cellA ⟨#[42]⟩ (fun _ => true) true), intV 0]) ?_ rfl ⟨rfl, HG1.out.2⟩
    simp [results, Try.results56, asAddr, hl]
  by_cases e63 : c = 63
  · subst e63
    rw [hpl, not_br (by decide) (by decide)] at h
    have hh : (0, El.any, 1) = (er, x, n) := h
    simp only [Prod.mk.injEq] at hh
    obtain ⟨rfl, rfl, rfl⟩ := hh
    clear h hpl e42
    go_enter Try.func56, Try.ntmps56
    go_wp2_with fail
    refine (allBytes_any _).mono ?_
    rintro e w2 ⟨rfl, h2⟩
    have HG2 := Lib.hid ((h2.block w.heap.size (by show w.heap.size < (w.alloc _).heap.size; simp)).trans HG0.out)
    have HB2 := Lib.hid (HB0.out.trans (h2.mono HB0.out.size))
    clear h2
    rename_i hK
    refine hK _ _ ?_
    clear hK
    refine wpList_build_as rfl 55 #[(0, .const (.string ⟨#[63]⟩)), (1, .tmp 12)] rfl [(0, .string ⟨#[63]⟩), (1, .agg (rowA fun _ => true))] (by simp [Act.eval]) _ built_any ?_
    go_wp2_with (first
      | (refine wpList_store_into rfl 55 (.tmp 2) (.tmp 13) rfl w.heap.size (cellA ⟨#[63]⟩ (fun _ => true) false) rfl rfl 55 zeroA HG2.out (size_el _ _ _) (by rw [zeroA_eq, cellA_size, cellA_size]) (cellA_one _ _ _) ?_; intro W1 g1 g2 g3; have HG1 := Lib.hid (And.intro g1 (below_seq HB2.out (g3 w.heap.size (Nat.le_refl _)) (Nat.le_refl _))); clear g1 g2 g3))
    have hl := load_el HG1.out.1 (cellA_size _ _ _)
    refine bodyPost_ret (v := .tuple #[.agg (cellA ⟨#[63]⟩ (fun _ => true) false), intV 0]) ?_ rfl ⟨rfl, HG1.out.2⟩
    simp [results, Try.results56, asAddr, hl]
  have q42 := byte_ne (ev := 42) rfl e42
  have q63 := byte_ne (ev := 63) rfl e63
  by_cases e91 : c = 91
  · subst e91
    have HBR := Lib.hid (fun w => brackets_at p h0 hp hc er x n h w)
    clear h hpl e42 e63
    go_enter Try.func56, Try.ntmps56
    go_wp2_with fail
    refine (HBR.out _).mono ?_
    rintro e w2 ⟨rfl, h2⟩
    have HG2 := Lib.hid ((h2.block w.heap.size (by show w.heap.size < (w.alloc _).heap.size; simp)).trans HG0.out)
    have HB2 := Lib.hid (HB0.out.trans (h2.mono HB0.out.size))
    clear h2
    go_wp2_with (refine wpList_store_into rfl 55 (.tmp 2) (.tmp 18) rfl w.heap.size (elV er x) rfl rfl 55 zeroA HG2.out (size_elV _ _) (by rw [elV_size, zeroA_eq, cellA_size]) (elV_one _ _) ?_; intro W1 g1 g2 g3; have HG1 := Lib.hid (And.intro g1 (below_seq HB2.out (g3 w.heap.size (Nat.le_refl _)) (Nat.le_refl _))); clear g1 g2 g3)
    have hl := load_el HG1.out.1 (elV_size _ _)
    refine bodyPost_ret (v := .tuple #[.agg (elV er x), intV er]) ?_ rfl ⟨rfl, HG1.out.2⟩
    simp [results, Try.results56, asAddr, hl]
  have q91 := byte_ne (ev := 91) rfl e91
  by_cases e93 : c = 93
  · subst e93
    rw [hpl] at h
    have hh : (3, El.any, 0) = (er, x, n) := h
    simp only [Prod.mk.injEq] at hh
    obtain ⟨rfl, rfl, rfl⟩ := hh
    clear h hpl e42 e63 e91
    go_enter Try.func56, Try.ntmps56
    go_wp2_with (refine wpList_store_into rfl 55 (.tmp 2) (.tmp 22) rfl w.heap.size zeroA rfl rfl 55 zeroA HG0.out (size_el _ _ _) rfl (cellA_one _ _ _) ?_; intro W1 g1 g2 g3; have HG1 := Lib.hid (And.intro g1 (below_seq HB0.out (g3 w.heap.size (Nat.le_refl _)) (Nat.le_refl _))); clear g1 g2 g3)
    have hl := load_el HG1.out.1 (cellA_size _ _ _)
    refine bodyPost_ret (v := .tuple #[.agg zeroA, intV 3]) ?_ rfl ⟨rfl, HG1.out.2⟩
    simp [results, Try.results56, asAddr, hl]
  have q93 := byte_ne (ev := 93) rfl e93
  rw [hpl, not_br e91 e93] at h
  have he1 : p.extract 0 1 = bOne c := by rw [ext_one p 0 h0, hc]
  have HO := Lib.hid (show ∀ w, Calls Try.prog 71 #[.string (bOne c), .string (bOne c)] w (FirstPost er x w) from fun w => by
    refine oneOf_at (bOne c) (bOne c) (by show 1 ≤ 64; omega) (elV er x) er ?_ w
    unfold oneV elV
    rw [bOne_list]
    by_cases hall : chW c = true
    · rw [if_pos hall, chEl, if_neg e63, if_neg e42] at h
      simp only [Prod.mk.injEq] at h
      obtain ⟨rfl, rfl, _⟩ := h
      rw [if_pos (by simp [hall]), if_pos rfl, elA_one']
    · rw [if_neg hall] at h
      simp only [Prod.mk.injEq] at h
      obtain ⟨rfl, rfl, _⟩ := h
      rw [if_neg (by simp [hall]), if_neg (by decide)])
  clear h hpl e42 e63 e91 e93
  go_enter Try.func56, Try.ntmps56
  go_wp2_with fail
  have HBD := Lib.hid (HB0.out.trans (show Below w.heap.size (w.alloc (.cells zeroA 55)) (w.alloc (.cells zeroA 55)).drew from ⟨rfl, rfl, rfl, Nat.le_refl _, fun _ _ => rfl⟩))
  refine wp_region_noPanic ?_
  refine wp_region_any (by kernel_rfl) (wpAny_of_k (S := fun _ => True) (S' := fun _ => True) (k := 99) _ _ _ _ ?_)
  change wpAnyK _ _ _ _ _ _ _ 9 _ _ (w.alloc (.cells zeroA 55)).drew
  refine wpAnyK_takeD (i := 0) (v := .string p) (some 23) rfl rfl (by kernel_rfl) (by kernel_rfl) (by kernel_rfl) (by decide) (fun _ _ _ h => h) (Or.inl ⟨by rfl, fun w' hw' => ?_⟩) (fun _ => trivial) (trivial) ?_
  · go_simp
  (try simp only [Act.put, List.setIfInBounds_toArray, List.set_cons_zero, List.set_cons_succ])
  refine wpAnyK_takeD (i := 1) (v := .string (bOne c)) (some 24) rfl rfl (by kernel_rfl) (by kernel_rfl) (by kernel_rfl) (by decide) (fun _ _ _ h => h) (Or.inl ⟨by rfl, fun w' hw' => ?_⟩) (fun _ => trivial) (trivial) ?_
  · go_simp
  (try simp only [Act.put, List.setIfInBounds_toArray, List.set_cons_zero, List.set_cons_succ])
  refine wpAnyK_takeD (i := 2) (v := .string p) (some 25) rfl rfl (by kernel_rfl) (by kernel_rfl) (by kernel_rfl) (by decide) (fun _ _ _ h => h) (Or.inl ⟨by rfl, fun w' hw' => ?_⟩) (fun _ => trivial) (trivial) ?_
  · go_simp
  (try simp only [Act.put, List.setIfInBounds_toArray, List.set_cons_zero, List.set_cons_succ])
  refine wpAnyK_takeD (i := 3) (v := .string (bOne c)) (some 26) rfl rfl (by kernel_rfl) (by kernel_rfl) (by kernel_rfl) (by decide) (fun _ _ _ h => h) (Or.inl ⟨by rfl, fun w' hw' => ?_⟩) (fun _ => trivial) (trivial) ?_
  · go_simp
  (try simp only [Act.put, List.setIfInBounds_toArray, List.set_cons_zero, List.set_cons_succ])
  refine wpAnyK_all (rs := [4]) (by kernel_rfl) (by simp) ?_
  intro i' hi'
  obtain rfl := List.mem_singleton.1 hi'
  clear hi'
  refine wpOp_step rfl fun K hK => ?_
  go_simp
  refine (HO.out _).mono ?_
  rintro e w2 ⟨rfl, h2⟩
  refine hK _ _ ⟨fun _ => trivial, trivial, ?_⟩
  clear hK K
  have HG2 := Lib.hid ((h2.block w.heap.size (by show w.heap.size < (w.alloc _).heap.size; simp)).trans HG0.out)
  have HB2 := Lib.hid (HBD.out.trans (h2.mono HBD.out.size))
  clear h2
  refine wpAnyK_takeD (i := 5) (v := .agg (elV er x)) (some 28) rfl rfl (by kernel_rfl) (by kernel_rfl) (by kernel_rfl) (by decide) (fun _ _ _ h => h) (Or.inl ⟨by rfl, fun w' hw' => ?_⟩) (fun _ => trivial) (trivial) ?_
  · go_simp
  (try simp only [Act.put, List.setIfInBounds_toArray, List.set_cons_zero, List.set_cons_succ])
  refine wpAnyK_takeD (i := 6) (v := intV er) (some 29) rfl rfl (by kernel_rfl) (by kernel_rfl) (by kernel_rfl) (by decide) (fun _ _ _ h => h) (Or.inl ⟨by rfl, fun w' hw' => ?_⟩) (fun _ => trivial) (trivial) ?_
  · go_simp
  (try simp only [Act.put, List.setIfInBounds_toArray, List.set_cons_zero, List.set_cons_succ])
  refine wpAnyK_all (rs := [7]) (by kernel_rfl) (by simp) ?_
  intro i' hi'
  obtain rfl := List.mem_singleton.1 hi'
  clear hi'
  refine wpOp_step rfl fun K hK => ?_
  refine wp_store_into 55 (.tmp 2) (.tmp 28) rfl w.heap.size (elV er x) rfl rfl 55 zeroA HG2.out (size_elV _ _) (by rw [elV_size, zeroA_eq, cellA_size]) (elV_one _ _) ?_
  intro W1 g1 g2 g3
  have HG1 := Lib.hid (And.intro g1 (below_seq HB2.out (g3 w.heap.size (Nat.le_refl _)) (Nat.le_refl _)))
  clear g1 g2 g3
  refine hK _ _ ⟨fun _ => trivial, trivial, ?_⟩
  clear hK K
  refine wpAnyK_takeD (i := 8) (v := intV er) (some 3) rfl rfl (by kernel_rfl) (by kernel_rfl) (by kernel_rfl) (by decide) (fun _ _ _ h => h) (Or.inl ⟨by rfl, fun w' hw' => ?_⟩) (fun _ => trivial) (trivial) ?_
  · go_simp
  (try simp only [Act.put, List.setIfInBounds_toArray, List.set_cons_zero, List.set_cons_succ])
  refine wpAnyK_done (by kernel_rfl) ?_ _
  refine NoPanic.normal ?_
  go_wp2
  have hl := load_el HG1.out.1 (elV_size _ _)
  refine bodyPost_ret (v := .tuple #[.agg (elV er x), intV er]) ?_ rfl ⟨rfl, HG1.out.2⟩
  simp [results, Try.results56, asAddr, hl]
end Go.Proofs.Ytjjdihkjkmhjnaa
