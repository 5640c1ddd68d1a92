/- The results of layer 7 as plain functions, lists of strings as a world holds them. No function of the program or of the reference is named here. -/
import Derived.Test.YtjjdihkjkmhjnaaGlBase
namespace Go.Proofs.Ytjjdihkjkmhjnaa
set_option linter.unusedSimpArgs false
set_option linter.unusedVariables false
set_option maxRecDepth 100000
open Go.RowKit Go.Deep

/-- what Check gives -/
def chk (p : List UInt8) : Int := if 64 < p.length then 4 else (par p).1
theorem ext_drop {s sb : ByteArray} {n : Nat} (h : s.extract n s.size = sb) : sb.data.toList = s.data.toList.drop n ∧ sb.size = s.size - n := by
  have h1 : sb.data.toList = s.data.toList.drop n := by
    rw [← h, ext_list, List.take_of_length_le]; rw [List.length_drop, size_list]; omega
  exact ⟨h1, by rw [← size_list, h1, List.length_drop, size_list]⟩
/-! ### lists of strings that are only read -/
def StrsAt (W : World) (v : Value) (xs : List ByteArray) : Prop :=
  ∃ a cap, v = .slice a xs.length cap ∧ (0 < xs.length → ∃ b off, a = some ⟨b, off, none⟩ ∧ b < W.heap.size ∧ ∀ j (h : j < xs.length), W.cell? ⟨b, off + j, none⟩ = some (.string xs[j]))
theorem StrsAt.below {W W' : World} {v : Value} {xs : List ByteArray} (h : StrsAt W v xs) (hB : Below W.heap.size W W') : StrsAt W' v xs := by
  obtain ⟨a, cap, rfl, hc⟩ := h
  refine ⟨a, cap, rfl, fun h0 => ?_⟩
  obtain ⟨b, off, rfl, hb, hcs⟩ := hc h0
  exact ⟨b, off, rfl, Nat.lt_of_lt_of_le hb hB.size, fun j hj => (hB.cell (p := ⟨b, off + j, none⟩) hb).trans (hcs j hj)⟩
theorem StrsAt.of_own {W : World} {base : Nat} {e : TypeId} {v : Value} {xs : List ByteArray} {n : Nat} (h : W.ownsRow base e 1 v n (xs.map Value.string)) : StrsAt W v xs := by
  have hl := h.1
  rw [List.length_map, Nat.mul_one] at hl
  subst hl
  have hc := fun g hg => h.cells (g := g) hg
  have hlt := h.lt
  rcases h.2 with ⟨rfl, hn⟩ | ⟨g, cap, cur, rfl, _⟩
  · exact ⟨Option.none, 0, by rw [hn], fun h0 => by omega⟩
  · refine ⟨some ⟨g, 0, none⟩, cap, rfl, fun h0 => ⟨g, 0, rfl, (hlt g rfl).2, fun j hj => ?_⟩⟩
    have := hc g rfl j (.string xs[j]) (by rw [List.getElem?_map, List.getElem?_eq_getElem hj]; rfl)
    rw [show (⟨g, 0, none⟩ : Addr).add j = ⟨g, j, none⟩ by unfold Addr.add; split <;> simp_all] at this
    rwa [Nat.zero_add]
/-- an element as a string -/
def elB (x : El) : ByteArray := ⟨x.txt.toArray⟩
theorem elB_list (x : El) : (elB x).data.toList = x.txt := by simp [elB]
theorem elB_size (x : El) : (elB x).size = x.txt.length := by rw [← size_list, elB_list]
/-- elements as a list of strings -/
def ElsAt (W : World) (v : Value) (l : List El) : Prop := StrsAt W v (l.map elB)
theorem ElsAt.below {W W' : World} {v : Value} {l : List El} (h : ElsAt W v l) (hB : Below W.heap.size W W') : ElsAt W' v l := StrsAt.below h hB
theorem ElsAt.slice {W : World} {v : Value} {l : List El} (h : ElsAt W v l) : ∃ a cap, v = .slice a l.length cap := by
  obtain ⟨a, cap, rfl, _⟩ := h
  exact ⟨a, cap, by rw [List.length_map]⟩
theorem ElsAt.get {W : World} {a : Option Addr} {n cap : Nat} {l : List El} (h : ElsAt W (.slice a n cap) l) {j : Nat} (hj : j < l.length) : ∃ b off, a = some ⟨b, off, none⟩ ∧ b < W.heap.size ∧ W.cell? ⟨b, off + j, none⟩ = some (.string (elB l[j])) := by
  obtain ⟨a', cap', e, hc⟩ := h
  simp only [Value.slice.injEq] at e
  obtain ⟨rfl, _, _⟩ := e
  obtain ⟨b, off, rfl, hb, hcs⟩ := hc (by rw [List.length_map]; omega)
  refine ⟨b, off, rfl, hb, ?_⟩
  have := hcs j (by rw [List.length_map]; exact hj)
  rwa [List.getElem_map] at this
theorem info_str : (Try.prog.info? 9).map (fun i => (i.zero, i.size, i.bytes)) = some (some (.string ⟨#[]⟩), 1, 16) := by kernel_rfl
theorem one_news (W : World) (x : Value) (t : TypeId) (n : Nat) (h : n = W.heap.size) : ∀ j u, [x][j]? = some u → (W.alloc (.cells #[x] t)).cell? ((⟨n, 0, none⟩ : Addr).add j) = some u := by
  intro j u hj
  subst h
  match j, hj with
  | 0, hj => simp at hj; subst hj; simp [Addr.add]
theorem own_below {w wr w1 : World} {base : Nat} {e : TypeId} {size n : Nat} {v : Value} {xs : List Value} {o : Obj} (hB : Below base w wr) (hb : base ≤ wr.heap.size) (hown : wr.ownsRow base e size v n xs) (hg : (wr.alloc o).grownBy w1 v.ownBlock) : Below base w w1 :=
  (hB.alloc hb o).grown hg (by simp; omega) (fun k hk => (hown.lt k hk).1)
/-- the elements of a pattern -/
def ElsPost (l : List El) (w : World) (e : Ending) (w' : World) : Prop := ∃ v, e = .returned v ∧ ElsAt w' v l ∧ Below w.heap.size w w'
/-- the error of a string -/
def chkW (w : List UInt8) : Int := if 64 < w.length then 4 else if w.any (· == 32) then 11 else 0
theorem any_of_mem {w : List UInt8} {c : UInt8} (h : c ∈ w) (hc : c = 32) : w.any (· == 32) = true := by
  rw [List.any_eq_true]
  exact ⟨c, h, by rw [hc]; rfl⟩
/-- a string is longer than the statements examine, but not too long -/
def greatB (n : Nat) : Bool := (decide (12 < n) && decide (n ≤ 64)) || decide (66 < n)
theorem ok_one {a : UInt8} (h : (El.one a).ok = true) : a ≠ 91 ∧ a ≠ 63 ∧ a ≠ 42 := by
  simp only [El.ok, Bool.and_eq_true, bne_iff_ne, ne_eq] at h
  exact ⟨(chW_ne h.1.1).1, h.1.2, h.2⟩
theorem txts_len : ∀ (l : List El), l.length ≤ (txts l).length ∧ ∀ x ∈ l, x.txt.length ≤ (txts l).length
  | [] => ⟨by simp, fun x h => by simp at h⟩
  | y :: l => by
    obtain ⟨h1, h2⟩ := txts_len l
    have := txt_pos y
    rw [txts_cons, List.length_append, List.length_cons]
    refine ⟨by omega, fun x hx => ?_⟩
    rcases List.mem_cons.1 hx with rfl | hx
    · omega
    · have := h2 x hx; omega
theorem chk_ok {p : List UInt8} (h : chk p = 0) : p.length ≤ 64 ∧ ∃ l, par p = (0, l) ∧ oks l ∧ txts l = p ∧ l.length ≤ 64 ∧ ∀ x ∈ l, x.txt.length ≤ 64 := by
  unfold chk at h
  by_cases h1 : 64 < p.length
  · rw [if_pos h1] at h; cases h
  · rw [if_neg h1] at h
    obtain ⟨⟨e, l⟩, hp⟩ : ∃ q, par p = q := ⟨_, rfl⟩
    rw [hp] at h
    simp only at h
    subst h
    obtain ⟨k1, k2⟩ := par_ok _ (Nat.le_refl _) hp
    obtain ⟨k3, k4⟩ := txts_len l
    rw [k2] at k3 k4
    exact ⟨by omega, l, hp, k1, k2, by omega, fun x hx => by have := k4 x hx; omega⟩
/-- what Match gives -/
def matchR (p w : List UInt8) : Bool × Int := if chk p ≠ 0 then (false, 1) else if chkW w ≠ 0 then (false, chkW w) else (matB (par p).2 w, 0)
/-- the elements other than stars -/
def leastN (l : List El) : Nat := (l.filter fun x => !x.isS).length
theorem leastN_nil : leastN [] = 0 := rfl
theorem leastN_snoc (l : List El) (x : El) : leastN (l ++ [x]) = leastN l + (if x.isS then 0 else 1) := by
  unfold leastN
  rw [List.filter_append, List.length_append]
  cases h : x.isS <;> simp [List.filter_cons, h]
def starsB (l : List El) : Bool := l.any El.isS
theorem starsB_snoc (l : List El) (x : El) : starsB (l ++ [x]) = (starsB l || x.isS) := by simp [starsB]
/-- what Bounds gives -/
def boundsR (p : List UInt8) : Int × Int × Int := if chk p ≠ 0 then (0, 0, 1) else if starsB (par p).2 then (leastN (par p).2, -1, 0) else (leastN (par p).2, leastN (par p).2, 0)
/-- the test for a star -/
theorem star_test {x : El} (hok : x.ok = true) : ((elB x).toList == [42]) = x.isS := by
  rw [ByteArray.toList_eq, elB_list]
  cases x with
  | star => rfl
  | any => rfl
  | one a => have := (ok_one hok).2.2; show ([a] == [42]) = false; simpa using this
  | cls cs => show ((91 :: (cs ++ [93])) == [42]) = false; simp
/-- what Reverse gives -/
def revR (p : List UInt8) : List UInt8 × Int := if chk p ≠ 0 then ([], 1) else (txts (par p).2.reverse, 0)
/-- the only byte that an element stands for -/
def El.lit : El → Option UInt8
  | .one c => some c
  | .any => none
  | .star => none
  | .cls [] => none
  | .cls (c :: r) => if r.all (· == c) then some c else none
def lits : List El → Option (List UInt8)
  | [] => some []
  | x :: l => match x.lit with | none => none | some c => match lits l with | none => none | some v => some (c :: v)
theorem lits_none {x : El} : ∀ {l : List El}, x ∈ l → x.lit = none → lits l = none
  | y :: l, hx, h => by
    rw [lits]
    rcases List.mem_cons.1 hx with rfl | hx
    · rw [h]
    · rw [lits_none hx h]
      cases y.lit <;> rfl
theorem lits_snoc {x : El} {c : UInt8} (h : x.lit = some c) : ∀ {l : List El} {v : List UInt8}, lits l = some v → lits (l ++ [x]) = some (v ++ [c])
  | [], v, hv => by
    rw [lits] at hv
    cases hv
    show lits [x] = _
    rw [lits, h]; rfl
  | y :: l, v, hv => by
    rw [lits] at hv
    rw [List.cons_append, lits]
    cases hy : y.lit with
    | none => rw [hy] at hv; cases hv
    | some d =>
      rw [hy] at hv
      cases hl : lits l with
      | none => rw [hl] at hv; cases hv
      | some u =>
        rw [hl] at hv
        cases hv
        rw [lits_snoc h hl]; rfl
/-- what Literal gives -/
def litR (p : List UInt8) : List UInt8 × Bool × Int := if chk p ≠ 0 then ([], false, 1) else match lits (par p).2 with | some v => (v, true, 0) | none => ([], false, 0)
def bOne (c : UInt8) : ByteArray := ⟨#[c]⟩
theorem bOne_list (c : UInt8) : (bOne c).data.toList = [c] := rfl
theorem ext_one (s : ByteArray) (k : Nat) (h : k < s.size) : s.extract k (k + 1) = bOne s[k] := by
  apply ba_of
  rw [ext_list, drop_at s k h, Nat.add_sub_cancel_left]
  rfl
theorem bOne_beq (a b : UInt8) : ((bOne a).toList == (bOne b).toList) = (a == b) := by
  rw [ByteArray.toList_eq, ByteArray.toList_eq, bOne_list, bOne_list]
  by_cases h : a = b
  · subst h; simp
  · rw [beq_false_of_ne h, beq_false_of_ne (by intro e; injection e with e; exact h e)]
theorem bOne_lit (a : UInt8) (b : UInt8) : ((bOne a).toList == [b]) = (a == b) := by
  rw [ByteArray.toList_eq, bOne_list]
  by_cases h : a = b
  · subst h; simp
  · rw [beq_false_of_ne h, beq_false_of_ne (by intro e; injection e with e; exact h e)]
theorem own_keep {w w' : World} {b : Nat} {v : Value} {n size : Nat} {xs : List Value} {e : TypeId} (h : w.ownsRow b e size v n xs) (hb : Below w.heap.size w w') : w'.ownsRow b e size v n xs := by
  refine ⟨h.1, ?_⟩
  rcases h.2 with hn | ⟨g, cap, cur, rfl, hbg, hg, rest⟩
  · exact .inl hn
  · exact .inr ⟨g, cap, cur, rfl, hbg, (hb.block g (Array.getElem?_eq_some_iff.1 hg).1).trans hg, rest⟩
theorem StrsAt.slice {W : World} {v : Value} {xs : List ByteArray} (h : StrsAt W v xs) : ∃ a cap, v = .slice a xs.length cap := by
  obtain ⟨a, cap, rfl, _⟩ := h
  exact ⟨a, cap, rfl⟩
theorem StrsAt.get {W : World} {a : Option Addr} {n cap : Nat} {xs : List ByteArray} (h : StrsAt W (.slice a n cap) xs) {j : Nat} (hj : j < xs.length) : ∃ b off, a = some ⟨b, off, none⟩ ∧ b < W.heap.size ∧ W.cell? ⟨b, off + j, none⟩ = some (.string xs[j]) := by
  obtain ⟨a', cap', e, hc⟩ := h
  simp only [Value.slice.injEq] at e
  obtain ⟨rfl, _, _⟩ := e
  obtain ⟨b, off, rfl, hb, hcs⟩ := hc (by omega)
  exact ⟨b, off, rfl, hb, hcs j hj⟩
theorem StrsAt.nil (W : World) : StrsAt W (.slice none 0 0) [] := ⟨none, 0, rfl, fun h => by simp at h⟩
/-- the first error of some strings -/
def firstE : List ByteArray → Int
  | [] => 0
  | x :: l => if chkW x.data.toList ≠ 0 then chkW x.data.toList else firstE l
theorem firstE_at : ∀ {l : List ByteArray} {k : Nat} (h : k < l.length), firstE (l.take k) = 0 → chkW (l[k]).data.toList ≠ 0 → firstE l = chkW (l[k]).data.toList
  | x :: l, 0, _, _, h2 => by rw [firstE]; exact if_pos h2
  | x :: l, k + 1, h, h1, h2 => by
    rw [List.take_succ_cons, firstE] at h1
    rw [firstE]
    by_cases hx : chkW x.data.toList ≠ 0
    · rw [if_pos hx] at h1; exact absurd h1 hx
    · rw [if_neg hx] at h1 ⊢
      exact firstE_at (by simpa using h) h1 h2
theorem firstE_snoc : ∀ {l : List ByteArray} {x : ByteArray}, firstE l = 0 → chkW x.data.toList = 0 → firstE (l ++ [x]) = 0
  | [], x, _, h => by show (if chkW x.data.toList ≠ 0 then _ else firstE []) = 0; rw [if_neg (by simpa using h)]; rfl
  | y :: l, x, h1, h2 => by
    rw [firstE] at h1
    rw [List.cons_append, firstE]
    by_cases hx : chkW y.data.toList ≠ 0
    · rw [if_pos hx] at h1; exact absurd h1 hx
    · rw [if_neg hx] at h1 ⊢
      exact firstE_snoc h1 h2
/-- what Filter gives -/
def filterR (p : List UInt8) (xs : List ByteArray) : List ByteArray × Int :=
  if chk p ≠ 0 then ([], 1) else if 4096 < xs.length then ([], 4) else if firstE xs ≠ 0 then ([], firstE xs) else (xs.filter fun x => matB (par p).2 x.data.toList, 0)
def FiltPost (out : List ByteArray) (r : Int) (w : World) (e : Ending) (w' : World) : Prop := ∃ v, e = .returned (.tuple #[v, intV r]) ∧ StrsAt w' v out ∧ Below w.heap.size w w'
end Go.Proofs.Ytjjdihkjkmhjnaa
