/- The reference's Lists, Distance, Bounded, Similarity, Great, GreatWords. -/
import Derived.Test.YtbdeakodmhcgdaaEdTable
namespace Go.Proofs.Ytbdeakodmhcgdaa
set_option linter.unusedSimpArgs false
set_option linter.unusedVariables false
set_option maxRecDepth 100000
open Go.RowKit Go.Deep

abbrev pairV (p : Int × Int) : Value := .tuple #[.int .i64 p.1, .int .i64 p.2]
theorem ret_pair {p : Int × Int} {x y : Int} (h : p = (x, y)) : Ending.returned (.tuple #[.int .i64 x, .int .i64 y]) = .returned (pairV p) := by rw [h]
theorem below_seq {N M : Nat} {w w1 w2 : World} (h1 : Below N w w1) (h2 : Below M w1 w2) (h : N ≤ M) : Below N w w2 := h1.trans (h2.mono h)
/-- the distance of lists, or why there is none -/
def listsR (xs ys : List ByteArray) : Int × Int := if 256 < xs.length ∨ 256 < ys.length then (0, 4) else ((lev xs ys : Nat), 0)
def distR (a b : ByteArray) : Int × Int := if 256 < a.size ∨ 256 < b.size then (0, 4) else ((lev a.data.toList b.data.toList : Nat), 0)
theorem one_inj (x y : UInt8) (h : oneB x = oneB y) : x = y := by
  have := congrArg (fun s : ByteArray => s.data.toList) h
  simpa [oneB] using this
theorem lists_dist (a b : ByteArray) : listsR (a.data.toList.map oneB) (b.data.toList.map oneB) = distR a b := by
  rw [listsR, distR, List.length_map, List.length_map, size_list, size_list, lev_map oneB one_inj]

set_option maxHeartbeats 1000000 in
theorem refLists_any (xs ys : List ByteArray) (vx vy : Value) (w : World) (hx : StrsAt w vx xs) (hy : StrsAt w vy ys) (lx : xs.length ≤ 1000000) (ly : ys.length ≤ 1000000) :
    Calls Try.prog 27 #[vx, vy] w fun e w' => e = .returned (pairV (listsR xs ys)) ∧ Below w.heap.size w w' := by
  have HX := Lib.hid hx
  have HY := Lib.hid hy
  obtain ⟨ax, cx, rfl, _⟩ := hx
  obtain ⟨ay, cy, rfl, _⟩ := hy
  by_cases h1 : 256 < xs.length
  · have hr : listsR xs ys = (0, 4) := by rw [listsR, if_pos (.inl h1)]
    rw [hr]
    clear hr
    go_enter Try.func27, Try.ntmps27
    go_wp2
    go_ret2
    exact ⟨rfl, Below.refl _ _⟩
  · by_cases h2 : 256 < ys.length
    · have hr : listsR xs ys = (0, 4) := by rw [listsR, if_pos (.inr h2)]
      rw [hr]
      clear hr
      go_enter Try.func27, Try.ntmps27
      go_wp2
      go_ret2
      exact ⟨rfl, Below.refl _ _⟩
    · have hr : listsR xs ys = (DI xs ys xs.length ys.length, 0) := by rw [listsR, if_neg (by omega), DI, List.take_length, List.take_length]
      rw [hr]
      clear hr
      obtain ⟨d, hD⟩ : ∃ d : Int, DI xs ys xs.length ys.length = d := ⟨_, rfl⟩
      rw [hD]
      have HD := Lib.hid hD
      clear hD
      go_enter Try.func27, Try.ntmps27
      go_wp2_with fail
      refine (refTable_any xs ys _ _ _ HX.out HY.out lx ly).mono ?_
      rintro e w1 ⟨v, bs, rfl, hT⟩
      obtain ⟨g, cap, rfl, hg⟩ := hT.hdr xs.length (by omega)
      have hc := (hT.done xs.length (by omega)).2.cell (i := ys.length) (by omega)
      rw [HD.out] at hc
      have HB := Lib.hid hT.below
      clear hT
      go_wp2
      go_ret2
      exact ⟨rfl, HB.out⟩
theorem refLists_at (xs ys : List ByteArray) (r : Int × Int) (h : listsR xs ys = r) (vx vy : Value) (w : World) (hx : StrsAt w vx xs) (hy : StrsAt w vy ys) (lx : xs.length ≤ 1000000) (ly : ys.length ≤ 1000000) :
    Calls Try.prog 27 #[vx, vy] w fun e w' => e = .returned (pairV r) ∧ Below w.heap.size w w' := by subst h; exact refLists_any xs ys vx vy w hx hy lx ly

set_option maxHeartbeats 1000000 in
theorem refDistance_any (a b : ByteArray) (ha : a.size ≤ 1000000) (hb : b.size ≤ 1000000) (w : World) :
    Calls Try.prog 15 #[.string a, .string b] w fun e w' => e = .returned (pairV (distR a b)) ∧ Below w.heap.size w w' := by
  have HR := Lib.hid (lists_dist a b)
  obtain ⟨p, hp⟩ : ∃ p, distR a b = p := ⟨_, rfl⟩
  rw [hp] at HR ⊢
  clear hp
  obtain ⟨p1, p2⟩ := p
  go_enter Try.func15, Try.ntmps15
  go_wp2_with fail
  refine (refBytes_any a (by omega) _).mono ?_
  rintro e w1 ⟨v1, rfl, o1, b1⟩
  have S1 := Lib.hid (StrsAt.of_own o1)
  have B1 := Lib.hid b1
  clear o1 b1
  go_wp2_with fail
  refine (refBytes_any b (by omega) _).mono ?_
  rintro e w2 ⟨v2, rfl, o2, b2⟩
  have S2 := Lib.hid (StrsAt.of_own o2)
  have S1' := Lib.hid (S1.out.below b2)
  have B2 := Lib.hid (below_seq B1.out b2 B1.out.size)
  clear o2 b2
  go_wp2_with fail
  refine (refLists_at _ _ _ HR.out _ _ _ S1'.out S2.out (by rw [List.length_map, size_list]; exact ha) (by rw [List.length_map, size_list]; exact hb)).mono ?_
  rintro e w3 ⟨rfl, b3⟩
  have B3 := Lib.hid (below_seq B2.out b3 B2.out.size)
  clear b3
  go_wp2
  go_ret2
  exact ⟨rfl, B3.out⟩
theorem refDistance_at (a b : ByteArray) (r : Int × Int) (h : distR a b = r) (ha : a.size ≤ 1000000) (hb : b.size ≤ 1000000) (w : World) :
    Calls Try.prog 15 #[.string a, .string b] w fun e w' => e = .returned (pairV r) ∧ Below w.heap.size w w' := by subst h; exact refDistance_any a b ha hb w
theorem distR_bd (a b : ByteArray) : ((distR a b).2 = 4 ∧ (distR a b).1 = 0) ∨ ((distR a b).2 = 0 ∧ a.size ≤ 256 ∧ b.size ≤ 256 ∧ 0 ≤ (distR a b).1 ∧ (distR a b).1 ≤ (max a.size b.size : Nat)) := by
  rw [distR]
  by_cases h : 256 < a.size ∨ 256 < b.size
  · rw [if_pos h]; exact .inl ⟨rfl, rfl⟩
  · rw [if_neg h]
    have := lev_most a.data.toList b.data.toList
    rw [size_list, size_list] at this
    refine .inr ⟨rfl, by omega, by omega, by simp, ?_⟩
    show ((lev a.data.toList b.data.toList : Nat) : Int) ≤ _
    omega

/-- the distance up to a bound -/
def boundR (a b : ByteArray) (n : Int) : Int × Bool × Int :=
  if (distR a b).2 ≠ 0 then (0, false, (distR a b).2) else if n < 0 then (0, false, 2) else if n < (distR a b).1 then (0, false, 0) else ((distR a b).1, true, 0)
abbrev tripV (p : Int × Bool × Int) : Value := .tuple #[.int .i64 p.1, .bool p.2.1, .int .i64 p.2.2]
theorem ret_trip {p : Int × Bool × Int} {x y : Int} {c : Bool} (h : p = (x, c, y)) : Ending.returned (.tuple #[.int .i64 x, .bool c, .int .i64 y]) = .returned (tripV p) := by rw [h]
set_option maxHeartbeats 1000000 in
theorem refBounded_any (a b : ByteArray) (n : Int) (ha : a.size ≤ 1000000) (hb : b.size ≤ 1000000) (w : World) :
    Calls Try.prog 19 #[.string a, .string b, .int .i64 n] w fun e w' => e = .returned (tripV (boundR a b n)) ∧ Below w.heap.size w w' := by
  have hbd := distR_bd a b
  obtain ⟨p, hp⟩ : ∃ p, distR a b = p := ⟨_, rfl⟩
  have C1 := Lib.hid (refDistance_at a b p hp ha hb)
  have hR : boundR a b n = (if p.2 ≠ 0 then (0, false, p.2) else if n < 0 then (0, false, 2) else if n < p.1 then (0, false, 0) else (p.1, true, 0)) := by rw [boundR, hp]
  rw [hp] at hbd
  have HR := Lib.hid hR
  clear hp hR
  obtain ⟨d, k⟩ := p
  have hways : (k = 4 ∧ d = 0) ∨ (k = 0 ∧ n < 0) ∨ (k = 0 ∧ 0 ≤ n ∧ n < d) ∨ (k = 0 ∧ 0 ≤ n ∧ d ≤ n) := by
    rcases hbd with ⟨h1, h2⟩ | ⟨h1, _⟩
    · exact .inl ⟨h1, h2⟩
    · have h1 : k = 0 := h1
      omega
  clear hbd
  obtain ⟨res, hres⟩ : ∃ res, boundR a b n = res := ⟨_, rfl⟩
  rw [hres] at HR ⊢
  clear hres
  rcases hways with ⟨rfl, rfl⟩ | ⟨rfl, hn⟩ | ⟨rfl, h0, hn⟩ | ⟨rfl, h0, hn⟩
  · obtain rfl : res = (0, false, 4) := HR.out
    clear HR
    go_enter Try.func19, Try.ntmps19
    go_wp2_with fail
    refine (C1.out _).mono ?_
    rintro e w1 ⟨rfl, b1⟩
    have B1 := Lib.hid b1
    clear b1
    go_wp2
    exact bodyPost_ret (v := tripV (0, false, 4)) (by simp [results, Try.results19, go_sem]) rfl ⟨rfl, B1.out⟩
  · obtain rfl : res = (0, false, 2) := by have := HR.out; rwa [if_neg (by simp), if_pos hn] at this
    clear HR
    go_enter Try.func19, Try.ntmps19
    go_wp2_with fail
    refine (C1.out _).mono ?_
    rintro e w1 ⟨rfl, b1⟩
    have B1 := Lib.hid b1
    clear b1
    go_wp2
    exact bodyPost_ret (v := tripV (0, false, 2)) (by simp [results, Try.results19, go_sem]) rfl ⟨rfl, B1.out⟩
  · obtain rfl : res = (0, false, 0) := by have := HR.out; rwa [if_neg (by simp), if_neg (by omega), if_pos hn] at this
    clear HR
    go_enter Try.func19, Try.ntmps19
    go_wp2_with fail
    refine (C1.out _).mono ?_
    rintro e w1 ⟨rfl, b1⟩
    have B1 := Lib.hid b1
    clear b1
    go_wp2
    exact bodyPost_ret (v := tripV (0, false, 0)) (by simp [results, Try.results19, go_sem]) rfl ⟨rfl, B1.out⟩
  · obtain rfl : res = (d, true, 0) := by have := HR.out; rwa [if_neg (by simp), if_neg (by omega), if_neg (by simpa using hn)] at this
    clear HR
    go_enter Try.func19, Try.ntmps19
    go_wp2_with fail
    refine (C1.out _).mono ?_
    rintro e w1 ⟨rfl, b1⟩
    have B1 := Lib.hid b1
    clear b1
    go_wp2
    exact bodyPost_ret (v := tripV (d, true, 0)) (by simp [results, Try.results19, go_sem]) rfl ⟨rfl, B1.out⟩
theorem refBounded_at (a b : ByteArray) (n : Int) (r : Int × Bool × Int) (h : boundR a b n = r) (ha : a.size ≤ 1000000) (hb : b.size ≤ 1000000) (w : World) :
    Calls Try.prog 19 #[.string a, .string b, .int .i64 n] w fun e w' => e = .returned (tripV r) ∧ Below w.heap.size w w' := by subst h; exact refBounded_any a b n ha hb w

/-- the similarity -/
def simR (a b : ByteArray) : Int × Int :=
  if (distR a b).2 ≠ 0 then (0, (distR a b).2) else if max a.size b.size = 0 then (1000, 0) else (1000 * ((max a.size b.size : Nat) - (distR a b).1) / (max a.size b.size : Nat), 0)
set_option maxHeartbeats 1000000 in
theorem refSimilarity_any (a b : ByteArray) (ha : a.size ≤ 1000000) (hb : b.size ≤ 1000000) (w : World) :
    Calls Try.prog 21 #[.string a, .string b] w fun e w' => e = .returned (pairV (simR a b)) ∧ Below w.heap.size w w' := by
  have hbd := distR_bd a b
  obtain ⟨p, hp⟩ : ∃ p, distR a b = p := ⟨_, rfl⟩
  have C1 := Lib.hid (refDistance_at a b p hp ha hb)
  obtain ⟨M, hM⟩ : ∃ M : Nat, max a.size b.size = M := ⟨_, rfl⟩
  have hR : simR a b = (if p.2 ≠ 0 then (0, p.2) else if M = 0 then (1000, 0) else (1000 * ((M : Nat) - p.1) / (M : Nat), 0)) := by rw [simR, hp, hM]
  rw [hp, hM] at hbd
  obtain ⟨d, k⟩ := p
  obtain ⟨res, hres⟩ : ∃ res, simR a b = res := ⟨_, rfl⟩
  rw [hres] at hR ⊢
  have HR := Lib.hid hR
  clear hp hR hres
  have hmx : max (a.size : Int) (b.size : Int) = (M : Int) := by omega
  have hmb : M ≤ 1000000 := by omega
  clear hM
  have hways : (k = 4 ∧ d = 0) ∨ (k = 0 ∧ M = 0) ∨ (k = 0 ∧ 0 < M ∧ 0 ≤ d ∧ d ≤ M) := by
    rcases hbd with ⟨h1, h2⟩ | ⟨h1, _, _, h2, h3⟩
    · exact .inl ⟨h1, h2⟩
    · have h1 : k = 0 := h1
      have h2 : 0 ≤ d := h2
      have h3 : d ≤ M := h3
      omega
  clear hbd
  rcases hways with ⟨rfl, rfl⟩ | ⟨rfl, hn⟩ | ⟨rfl, h0, d0, d1⟩
  · obtain rfl : res = (0, 4) := HR.out
    clear HR
    go_enter Try.func21, Try.ntmps21
    go_wp2_with fail
    refine (C1.out _).mono ?_
    rintro e w1 ⟨rfl, b1⟩
    have B1 := Lib.hid b1
    clear b1
    go_wp2
    go_ret2
    exact ⟨rfl, B1.out⟩
  · obtain rfl : res = (1000, 0) := by have := HR.out; rwa [if_neg (by simp), if_pos hn] at this
    clear HR
    subst hn
    go_enter Try.func21, Try.ntmps21
    go_wp2_with fail
    refine (C1.out _).mono ?_
    rintro e w1 ⟨rfl, b1⟩
    have B1 := Lib.hid b1
    clear b1
    go_wp2
    go_ret2
    exact ⟨rfl, B1.out⟩
  · rcases (show (a.size < b.size ∧ M = b.size) ∨ (b.size ≤ a.size ∧ M = a.size) by omega) with ⟨hlt, rfl⟩ | ⟨hlt, rfl⟩
    all_goals
      obtain rfl := (show res = _ from HR.out)
      rw [if_neg (by simp), if_neg (by omega)]
      clear HR hmx
      go_enter Try.func21, Try.ntmps21
      go_wp2_with fail
      refine (C1.out _).mono ?_
      rintro e w1 ⟨rfl, b1⟩
      have B1 := Lib.hid b1
      clear b1
      go_wp2
      go_ret2
      exact ⟨rfl, B1.out⟩
theorem refSimilarity_at (a b : ByteArray) (r : Int × Int) (h : simR a b = r) (ha : a.size ≤ 1000000) (hb : b.size ≤ 1000000) (w : World) :
    Calls Try.prog 21 #[.string a, .string b] w fun e w' => e = .returned (pairV r) ∧ Below w.heap.size w w' := by subst h; exact refSimilarity_any a b ha hb w

def greatB (s : Nat) (n : Int) : Bool := (decide (n < s) && decide (s ≤ 256)) || decide (258 < s)
set_option maxHeartbeats 400000 in
theorem refGreat_any (s : ByteArray) (n : Int) (hs : s.size ≤ maxLen) (w : World) :
    Calls Try.prog 12 #[.string s, .int .i64 n] w fun e w' => e = .returned (.bool (greatB s.size n)) ∧ w = w' := by
  unfold maxLen at hs
  rcases (show (n < s.size ∧ s.size ≤ 256) ∨ (n < s.size ∧ 256 < s.size ∧ s.size ≤ 258) ∨ (n < s.size ∧ 256 < s.size ∧ 258 < s.size) ∨ ((s.size : Int) ≤ n ∧ s.size ≤ 258) ∨ ((s.size : Int) ≤ n ∧ 258 < s.size) by omega) with ⟨h1, h2⟩ | ⟨h1, h2, h3⟩ | ⟨h1, h2, h3⟩ | ⟨h1, h2⟩ | ⟨h1, h2⟩
  all_goals
    go_enter Try.func12, Try.ntmps12
    go_wp2
    go_ret
    exact ⟨ret_bool (by rw [Bool.eq_iff_iff]; simp [greatB]; omega), rfl⟩
end Go.Proofs.Ytbdeakodmhcgdaa
