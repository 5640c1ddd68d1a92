/- isWhole and isFraction of layer 2, over any string of a length that an int holds. -/
import Derived.Test.YtkiaiiepfphllaaDoorFpIter
namespace Go.Proofs.YtkiaiiepfphllaaDoor
set_option linter.unusedSimpArgs false
set_option linter.unusedVariables false
set_option maxRecDepth 100000
open Go.RowKit Go.Shelf
attribute [local go_sem] Oper.semAt_some wide_fn

def badW (n : Nat) (p : Nat × UInt8) : Bool := !digI p.2.toNat || (((p.2.toNat : Int) == 48) && (((p.1 : Int) == 0) && decide (1 < (n : Int))))
/-- isWhole's result -/
def wholeB (l : List UInt8) : Bool := !((prs l).any (badW l.length)) && !l.isEmpty

theorem str_ne (s : ByteArray) : (!s.toList.isEmpty) = !s.data.toList.isEmpty := by rw [ByteArray.toList_eq]

set_option maxHeartbeats 2000000 in
theorem whole_any (s : ByteArray) (hs : s.size ≤ maxLen) (w : World) :
    Calls Tryd.prog 33 #[.string s] w fun e w' => e = .returned (.bool (wholeB s.data.toList)) ∧ Below w.heap.size w w' := by
  have hr : wholeB s.data.toList = (!((prs s.data.toList).any (badW s.size)) && !s.data.toList.isEmpty) := by rw [wholeB, size_list]
  rw [hr]
  clear hr
  refine (callsIn_wide (n := 9)).1 ?_
  refine callsIn_of_wp_marks Tryd.func33 rfl trivial ?_ rfl
  simp only [Tryd.ntmps33, List.size_toArray, List.length_cons, List.length_nil, Nat.reduceAdd, Nat.reduceSub, Array.replicate_succ, Array.replicate_zero, List.push_toArray, List.append_toArray, List.nil_append, List.cons_append]
  gi_wp2_with (gi_at_call 54; refine (callsIn_wide.2 (chars_in s _)).mono ?_; rintro e w' ⟨rfl, rfl⟩)
  have bS := (Boxed.new w 9 (.string s))
  have bR := Boxed.new (w.alloc (.cells #[.string s] 9)) 4 (.bool false)
  have bN := Boxed.new ((w.alloc (.cells #[.string s] 9)).alloc (.cells #[.bool false] 4)) 9 (.string s)
  rw [World.size_alloc] at bR
  rw [World.size_alloc, World.size_alloc] at bN
  refine wpIn_rangeFunc_ownG rfl (by omega) (gf := 71) (lb := #[.pointer (some ⟨w.heap.size + 1 + 1, 0, none⟩)]) rfl trivial (enters_of Tryd.func71 (by kernel_rfl) rfl)
    (chars_stops (w.heap.size + 1 + 1) w.heap.size s hs _ (by simp) bN.cell) KB.t (KB.b (by simp; omega) (by simp)) (Below.refl _ _) (fun _ => rfl)
    (fun pre W => (Boxed W w.heap.size 9 (.string s) ∧ Boxed W (w.heap.size + 1) 4 (.bool false) ∧ pre.any (badW s.size) = false) ∧ Below w.heap.size w W)
    (fun c pre W => (Boxed W (w.heap.size + 1) 4 (.bool false) ∧ c = .ret ∧ pre.any (badW s.size) = true) ∧ Below w.heap.size w W)
    (OwnFrom.and (OwnFrom.and (Own.from (boxed_own _ _ _) _) (OwnFrom.and (Own.from (boxed_own _ _ _) _) (ownFrom_pure _ _))) (ownFrom_below (Nat.le_refl _) (by simp; omega)))
    (fun c => OwnFrom.and (OwnFrom.and (Own.from (boxed_own _ _ _) _) (ownFrom_pure _ _)) (ownFrom_below (Nat.le_refl _) (by simp; omega)))
    ⟨⟨(bS.alloc _).alloc _, bR.alloc _, rfl⟩, (((Below.refl _ _).alloc (Nat.le_refl _) _).alloc (by simp) _).alloc (by simp; omega) _⟩
    (fun x => { tmps := #[.string s, .pointer (some ⟨w.heap.size, 0, none⟩), .pointer (some ⟨w.heap.size + 1, 0, none⟩), .int .i64 x.1, .int .u8 x.2.toNat, .string s, .func (.func 71) #[] #[.pointer (some ⟨w.heap.size + 1 + 1, 0, none⟩)], .int .i64 x.1, .int .u8 x.2.toNat, undef, undef, undef, undef, undef, undef, undef, undef, undef, undef, undef, undef, undef, undef, undef, undef, undef, undef], defers := [] }) ?assign ?body ?done ?stop
  case assign =>
    intro l x W K hK
    gi_wp2
    exact hK
  case body =>
    rintro l pre x W ⟨⟨hbs, hb, hn⟩, hB⟩ hlt
    have hcs := hbs.cell
    have hc := hb.cell
    have hf := hb.frozen
    have HN := Lib.hid hn
    clear hn
    unfold maxLen at hs
    have hway : digI x.2.toNat = false ∨ (digI x.2.toNat = true ∧ (((x.2.toNat : Int) == 48) = false ∨ (((x.2.toNat : Int) == 48) = true ∧ (((x.1 : Int) == 0) = false ∨ (((x.1 : Int) == 0) = true ∧ ((s.size : Int) ≤ 1 ∨ 1 < (s.size : Int))))))) := by
      cases digI x.2.toNat <;> cases ((x.2.toNat : Int) == 48) <;> cases ((x.1 : Int) == 0) <;> simp <;> omega
    rcases hway with hd | ⟨hd, h4 | ⟨h4, h0 | ⟨h0, h1 | h1⟩⟩⟩
    · have HD := Lib.hid hd
      have HBAD := Lib.hid (show badW s.size x = true by simp [badW, hd])
      clear hd
      gi_wp2_with (first | (exfalso; rename_i hh _; cases hh; done) | (gi_at_call 55; refine (CallsIn.inRound l (callsIn_wide.2 (digit_any _ _))).mono ?_; rw [HD.out]; rintro e w' ⟨rfl, rfl⟩))
      exact ⟨(KeepsOthers.setCell _ _ _).from _, ⟨hb.set _, rfl, any_snoc' HBAD.out⟩, hB.setCell (p := ⟨w.heap.size + 1, 0, none⟩) (by simp) _⟩
    all_goals
      have HD := Lib.hid hd
      have HBAD := Lib.hid (show badW s.size x = decide (((x.2.toNat : Int) == 48) = true ∧ ((x.1 : Int) == 0) = true ∧ 1 < (s.size : Int)) by simp only [badW, hd]; rw [Bool.eq_iff_iff]; simp)
      clear hd
      gi_wp2_with (first | (exfalso; rename_i hh _; cases hh; done) | (gi_at_call 55; refine (CallsIn.inRound l (callsIn_wide.2 (digit_any _ _))).mono ?_; rw [HD.out]; rintro e w' ⟨rfl, rfl⟩))
      first
        | exact ⟨KeepsFrom.refl _ _, KB.refl _ _ _, ⟨hbs, hb, any_snoc HN.out (by rw [HBAD.out, decide_eq_false_iff_not]; rintro ⟨a, b, c⟩; simp_all <;> omega)⟩, hB⟩
        | exact ⟨(KeepsOthers.setCell _ _ _).from _, ⟨hb.set _, rfl, any_snoc' (by rw [HBAD.out, decide_eq_true_eq]; exact ⟨h4, h0, h1⟩)⟩, hB.setCell (p := ⟨w.heap.size + 1, 0, none⟩) (by simp) _⟩
  case done =>
    rintro D xs W hD rfl ⟨⟨hbs, hb, hn⟩, hB⟩ hK
    have hcs := hbs.cell
    have hc := hb.cell
    have hf := hb.frozen
    have HN := Lib.hid hn
    clear hn
    have hE := str_ne s
    obtain ⟨em, hem⟩ : ∃ em, s.data.toList.isEmpty = em := ⟨_, rfl⟩
    rw [hem] at hE
    have HEM := Lib.hid hem
    clear hem
    gi_wp2
    have hb' := hb.set (.bool (!em))
    have hK' := fin_store (B := w.heap.size + 1) (.bool (!em)) hK
    have hc5 := fin_cell hb' hK'
    refine ⟨by simp, .inl ⟨_, _, rfl, run_takeDeferred hK', ?_⟩⟩
    exact ⟨.bool (!em), by simp [results, Tryd.f33, go_sem, hc5], ret_bool (by rw [HN.out, HEM.out]; simp), fin_below (hB.setCell (p := ⟨w.heap.size + 1, 0, none⟩) (by simp) _) (by simp; omega) hD hK'⟩
  case stop =>
    rintro D c pre W hD hpre ⟨⟨hb, rfl, hn⟩, hB⟩ hK
    have HN := Lib.hid hn
    clear hn
    gi_wp2
    have hc5 := fin_cell hb hK
    refine ⟨by simp, .inl ⟨_, _, rfl, run_takeDeferred hK, ?_⟩⟩
    exact ⟨.bool false, by simp [results, Tryd.f33, go_sem, hc5], ret_bool (by rw [any_of_prefix hpre HN.out]; rfl), fin_below hB (by simp; omega) hD hK⟩
end Go.Proofs.YtkiaiiepfphllaaDoor
