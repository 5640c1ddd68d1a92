/- The program's Distance, Lists, Bounded, Similarity. -/
import Derived.Test.YtbdeakodmhcgdaaEdSeq
import Derived.Lib.ConvBytes
namespace Go.Proofs.Ytbdeakodmhcgdaa
set_option linter.unusedSimpArgs false
set_option linter.unusedVariables false
set_option maxRecDepth 100000
open Go.RowKit Go.Deep

/-! ### []byte(s) -/
def convW (W : World) (s : ByteArray) : World := W.drew.alloc (.cells (bytesRow s (grownCap W s.size 0 5)) 5 ((bytesRow s (grownCap W s.size 0 5)).size, (bytesRow s (grownCap W s.size 0 5)).size + 1))
theorem conv_run (W : World) (s : ByteArray) : (convert 9 57 (.string s)).run Try.prog W = .ok (.slice (some ⟨W.heap.size, 0, none⟩) s.size (grownCap W s.size 0 5)) (convW W s) :=
  run_bytes_of_string (P := Try.prog) W 9 57 5 s Try.underlying9 Try.underlying57 Try.underlying5
theorem conv_below (W : World) (s : ByteArray) : Below W.heap.size W (convW W s) := (Below.refl _ _).drew.alloc (Nat.le_refl _) _
theorem conv_size (W : World) (s : ByteArray) : (convW W s).heap.size = W.heap.size + 1 := by rw [convW, nblk_alloc]; rfl
theorem conv_at (W : World) (s : ByteArray) (cap : Nat) : LAt u8V (convW W s) (.slice (some ⟨W.heap.size, 0, none⟩) s.size cap) s.data.toList := by
  refine ⟨_, cap, by rw [size_list], fun _ => ⟨_, _, rfl, by rw [conv_size]; omega, fun j hj => ?_⟩⟩
  have hj' : j < s.data.size := by simpa using hj
  have := World.cell?_alloc_mark W.drew (bytesRow s (grownCap W s.size 0 5)) 5 ((bytesRow s (grownCap W s.size 0 5)).size, (bytesRow s (grownCap W s.size 0 5)).size + 1) j
  rw [show W.drew.heap.size = W.heap.size from rfl] at this
  rw [convW, Nat.zero_add, this, bytesRow_at s _ j hj']
  simp
theorem seq_dist (a b : ByteArray) : seqR a.data.toList b.data.toList = distR a b := by rw [seqR, distR, size_list, size_list]
theorem seq_lists (xs ys : List ByteArray) : seqR xs ys = listsR xs ys := rfl

set_option maxHeartbeats 1000000 in
theorem dist_any (a b : ByteArray) (ha : a.size ≤ 1000000) (hb : b.size ≤ 1000000) (w : World) :
    Calls Try.prog 14 #[.string a, .string b] w fun e w' => e = .returned (pairV (distR a b)) ∧ Below w.heap.size w w' := by
  have hrun := conv_run
  have HR := Lib.hid (seq_dist a b)
  obtain ⟨p, hp⟩ : ∃ p, distR a b = p := ⟨_, rfl⟩
  rw [hp] at HR ⊢
  clear hp
  obtain ⟨p1, p2⟩ := p
  go_enter Try.func14, Try.ntmps14
  go_wp2_with fail
  clear hrun
  refine (distanceB_any a.data.toList b.data.toList (by rw [size_list]; exact ha) (by rw [size_list]; exact hb) _ _ _ ((conv_at w a _).below (conv_below _ b)) (conv_at _ b _)).mono ?_
  rw [HR.out]
  rintro e w3 ⟨rfl, b3⟩
  have HB := Lib.hid (below_seq (below_seq (conv_below w a) (conv_below (convW w a) b) (conv_below w a).size) b3 (by have := (conv_below w a).size; have := (conv_below (convW w a) b).size; omega))
  clear b3
  go_wp2
  go_ret2
  exact ⟨rfl, HB.out⟩
theorem dist_at (a b : ByteArray) (r : Int × Int) (h : distR a b = r) (ha : a.size ≤ 1000000) (hb : b.size ≤ 1000000) (w : World) :
    Calls Try.prog 14 #[.string a, .string b] w fun e w' => e = .returned (pairV r) ∧ Below w.heap.size w w' := by subst h; exact dist_any a b ha hb w

set_option maxHeartbeats 1000000 in
theorem lists_any (xs ys : List ByteArray) (vx vy : Value) (w : World) (hx : StrsAt w vx xs) (hy : StrsAt w vy ys) (lx : xs.length ≤ 1000000) (ly : ys.length ≤ 1000000) :
    Calls Try.prog 26 #[vx, vy] w fun e w' => e = .returned (pairV (listsR xs ys)) ∧ Below w.heap.size w w' := by
  have HR := Lib.hid (seq_lists xs ys)
  obtain ⟨p, hp⟩ : ∃ p, listsR xs ys = p := ⟨_, rfl⟩
  rw [hp] at HR ⊢
  clear hp
  obtain ⟨p1, p2⟩ := p
  have HX := Lib.hid hx
  have HY := Lib.hid hy
  obtain ⟨ax, cx, rfl, _⟩ := hx
  obtain ⟨ay, cy, rfl, _⟩ := hy
  go_enter Try.func26, Try.ntmps26
  go_wp2_with fail
  refine (distanceS_any xs ys lx ly _ _ _ HX.out HY.out).mono ?_
  rw [HR.out]
  rintro e w3 ⟨rfl, b3⟩
  have HB := Lib.hid b3
  clear b3
  go_wp2
  go_ret2
  exact ⟨rfl, HB.out⟩
theorem lists_at (xs ys : List ByteArray) (r : Int × Int) (h : listsR xs ys = r) (vx vy : Value) (w : World) (hx : StrsAt w vx xs) (hy : StrsAt w vy ys) (lx : xs.length ≤ 1000000) (ly : ys.length ≤ 1000000) :
    Calls Try.prog 26 #[vx, vy] w fun e w' => e = .returned (pairV r) ∧ Below w.heap.size w w' := by subst h; exact lists_any xs ys vx vy w hx hy lx ly

set_option maxHeartbeats 1000000 in
theorem bounded_any (a b : ByteArray) (n : Int) (ha : a.size ≤ 1000000) (hb : b.size ≤ 1000000) (w : World) :
    Calls Try.prog 18 #[.string a, .string b, .int .i64 n] w fun e w' => e = .returned (tripV (boundR a b n)) ∧ Below w.heap.size w w' := by
  have hbd := distR_bd a b
  obtain ⟨p, hp⟩ : ∃ p, distR a b = p := ⟨_, rfl⟩
  have C1 := Lib.hid (dist_at a b p hp ha hb)
  have hR : boundR a b n = (if p.2 ≠ 0 then (0, false, p.2) else if n < 0 then (0, false, 2) else if n < p.1 then (0, false, 0) else (p.1, true, 0)) := by rw [boundR, hp]
  rw [hp] at hbd
  have HR := Lib.hid hR
  clear hp hR
  obtain ⟨d, k⟩ := p
  have hways : (k = 4 ∧ d = 0) ∨ (k = 0 ∧ n < 0) ∨ (k = 0 ∧ 0 ≤ n ∧ n < d) ∨ (k = 0 ∧ 0 ≤ n ∧ d ≤ n) := by
    rcases hbd with ⟨h1, h2⟩ | ⟨h1, _⟩
    · exact .inl ⟨h1, h2⟩
    · have h1 : k = 0 := h1
      omega
  clear hbd
  obtain ⟨res, hres⟩ : ∃ res, boundR a b n = res := ⟨_, rfl⟩
  rw [hres] at HR ⊢
  clear hres
  rcases hways with ⟨rfl, rfl⟩ | ⟨rfl, hn⟩ | ⟨rfl, h0, hn⟩ | ⟨rfl, h0, hn⟩
  · obtain rfl : res = (0, false, 4) := HR.out
    clear HR
    go_enter Try.func18, Try.ntmps18
    go_wp2_with fail
    refine (C1.out _).mono ?_
    rintro e w1 ⟨rfl, b1⟩
    have B1 := Lib.hid b1
    clear b1
    go_wp2
    exact bodyPost_ret (v := tripV (0, false, 4)) (by simp [results, Try.results18, go_sem]) rfl ⟨rfl, B1.out⟩
  · obtain rfl : res = (0, false, 2) := by have := HR.out; rwa [if_neg (by simp), if_pos hn] at this
    clear HR
    go_enter Try.func18, Try.ntmps18
    go_wp2_with fail
    refine (C1.out _).mono ?_
    rintro e w1 ⟨rfl, b1⟩
    have B1 := Lib.hid b1
    clear b1
    go_wp2
    exact bodyPost_ret (v := tripV (0, false, 2)) (by simp [results, Try.results18, go_sem]) rfl ⟨rfl, B1.out⟩
  · obtain rfl : res = (0, false, 0) := by have := HR.out; rwa [if_neg (by simp), if_neg (by omega), if_pos hn] at this
    clear HR
    go_enter Try.func18, Try.ntmps18
    go_wp2_with fail
    refine (C1.out _).mono ?_
    rintro e w1 ⟨rfl, b1⟩
    have B1 := Lib.hid b1
    clear b1
    go_wp2
    exact bodyPost_ret (v := tripV (0, false, 0)) (by simp [results, Try.results18, go_sem]) rfl ⟨rfl, B1.out⟩
  · obtain rfl : res = (d, true, 0) := by have := HR.out; rwa [if_neg (by simp), if_neg (by omega), if_neg (by simpa using hn)] at this
    clear HR
    go_enter Try.func18, Try.ntmps18
    go_wp2_with fail
    refine (C1.out _).mono ?_
    rintro e w1 ⟨rfl, b1⟩
    have B1 := Lib.hid b1
    clear b1
    go_wp2
    exact bodyPost_ret (v := tripV (d, true, 0)) (by simp [results, Try.results18, go_sem]) rfl ⟨rfl, B1.out⟩
theorem bounded_at (a b : ByteArray) (n : Int) (r : Int × Bool × Int) (h : boundR a b n = r) (ha : a.size ≤ 1000000) (hb : b.size ≤ 1000000) (w : World) :
    Calls Try.prog 18 #[.string a, .string b, .int .i64 n] w fun e w' => e = .returned (tripV r) ∧ Below w.heap.size w w' := by subst h; exact bounded_any a b n ha hb w

set_option maxHeartbeats 1000000 in
theorem similarity_any (a b : ByteArray) (ha : a.size ≤ 1000000) (hb : b.size ≤ 1000000) (w : World) :
    Calls Try.prog 20 #[.string a, .string b] w fun e w' => e = .returned (pairV (simR a b)) ∧ Below w.heap.size w w' := by
  have hbd := distR_bd a b
  obtain ⟨p, hp⟩ : ∃ p, distR a b = p := ⟨_, rfl⟩
  have C1 := Lib.hid (dist_at a b p hp ha hb)
  obtain ⟨M, hM⟩ : ∃ M : Nat, max a.size b.size = M := ⟨_, rfl⟩
  have hR : simR a b = (if p.2 ≠ 0 then (0, p.2) else if M = 0 then (1000, 0) else (1000 * ((M : Nat) - p.1) / (M : Nat), 0)) := by rw [simR, hp, hM]
  rw [hp, hM] at hbd
  obtain ⟨d, k⟩ := p
  obtain ⟨res, hres⟩ : ∃ res, simR a b = res := ⟨_, rfl⟩
  rw [hres] at hR ⊢
  have HR := Lib.hid hR
  clear hp hR hres
  have hmx : max (a.size : Int) (b.size : Int) = (M : Int) := by omega
  have hmb : M ≤ 1000000 := by omega
  clear hM
  have hways : (k = 4 ∧ d = 0) ∨ (k = 0 ∧ M = 0) ∨ (k = 0 ∧ 0 < M ∧ 0 ≤ d ∧ d ≤ M) := by
    rcases hbd with ⟨h1, h2⟩ | ⟨h1, _, _, h2, h3⟩
    · exact .inl ⟨h1, h2⟩
    · have h1 : k = 0 := h1
      have h2 : 0 ≤ d := h2
      have h3 : d ≤ M := h3
      omega
  clear hbd
  rcases hways with ⟨rfl, rfl⟩ | ⟨rfl, hn⟩ | ⟨rfl, h0, d0, d1⟩
  · obtain rfl : res = (0, 4) := HR.out
    clear HR
    go_enter Try.func20, Try.ntmps20
    go_wp2_with fail
    refine (C1.out _).mono ?_
    rintro e w1 ⟨rfl, b1⟩
    have B1 := Lib.hid b1
    clear b1
    go_wp2
    go_ret2
    exact ⟨rfl, B1.out⟩
  · obtain rfl : res = (1000, 0) := by have := HR.out; rwa [if_neg (by simp), if_pos hn] at this
    clear HR
    subst hn
    go_enter Try.func20, Try.ntmps20
    go_wp2_with fail
    refine (C1.out _).mono ?_
    rintro e w1 ⟨rfl, b1⟩
    have B1 := Lib.hid b1
    clear b1
    go_wp2
    go_ret2
    exact ⟨rfl, B1.out⟩
  · rcases (show (a.size < b.size ∧ M = b.size) ∨ (b.size ≤ a.size ∧ M = a.size) by omega) with ⟨hlt, rfl⟩ | ⟨hlt, rfl⟩
    all_goals
      obtain rfl := (show res = _ from HR.out)
      rw [if_neg (by simp), if_neg (by omega)]
      clear HR hmx
      go_enter Try.func20, Try.ntmps20
      go_wp2_with fail
      refine (C1.out _).mono ?_
      rintro e w1 ⟨rfl, b1⟩
      have B1 := Lib.hid b1
      clear b1
      go_wp2
      go_ret2
      exact ⟨rfl, B1.out⟩
theorem similarity_at (a b : ByteArray) (r : Int × Int) (h : simR a b = r) (ha : a.size ≤ 1000000) (hb : b.size ≤ 1000000) (w : World) :
    Calls Try.prog 20 #[.string a, .string b] w fun e w' => e = .returned (pairV r) ∧ Below w.heap.size w w' := by subst h; exact similarity_any a b ha hb w

end Go.Proofs.Ytbdeakodmhcgdaa
