/- parse, elements, Check of the program. -/
import Derived.Test.YtjjdihkjkmhjnaaGpEls
namespace Go.Proofs.Ytjjdihkjkmhjnaa
set_option linter.unusedSimpArgs false
set_option linter.unusedVariables false
set_option maxRecDepth 100000
open Go.RowKit Go.Deep

def ParsePost (s : ByteArray) (w : World) (e : Ending) (w' : World) : Prop := ∃ v, e = .returned (.tuple #[v, intV (chk s.data.toList)]) ∧ (chk s.data.toList = 0 → EAt w' v (par s.data.toList).2) ∧ Below w.heap.size w w'
set_option maxHeartbeats 2000000 in
theorem parse_any (s : ByteArray) (w : World) : Calls Try.prog 41 #[.string s] w (ParsePost s w) := by
  obtain ⟨i0, hi, hz0, hz1, hz2⟩ := info_parts bytes_el
  have hz := (zero_of_info info_el).1
  by_cases h1 : 64 < s.size
  · have q : decide ((64 : Int) < s.size) = true := by simp; omega
    have hc : chk s.data.toList = 4 := by unfold chk; rw [if_pos (by rw [size_list]; exact h1)]
    have HC := Lib.hid hc
    clear hc
    go_enter Try.func41, Try.ntmps41
    go_wp2_with fail
    refine bodyPost_ret (v := .tuple #[.slice none 0 0, intV 4]) (by simp [results, Try.results41, go_sem]) rfl ⟨.slice none 0 0, by rw [HC.out], fun h => absurd (HC.out.symm.trans h) (by decide), Below.refl _ _⟩
  · have q : decide ((64 : Int) < s.size) = false := by simp; omega
    have hc : chk s.data.toList = (par s.data.toList).1 := by unfold chk; rw [if_neg (by rw [size_list]; exact h1)]
    have HC := Lib.hid hc
    clear hc
    go_enter Try.func41, Try.ntmps41
    go_wp2_with fail
    go_loopw [4, 5] (fun v4 v5 wr => ∃ (sb : ByteArray) (d : List El), v5 = .string sb ∧ d.length + sb.size ≤ 64 ∧ Hid (par s.data.toList = ((par sb.data.toList).1, d ++ (par sb.data.toList).2)) ∧ wr.ownsRow w.heap.size 55 258 v4 d.length (d.flatMap elL) ∧ Below w.heap.size w wr) (fun _ v5 _ => szOf v5)
    case atStart => exact ⟨s, [], rfl, by simp; omega, Lib.hid rfl, World.ownsRow_nil _ _ _ _, Below.refl _ _⟩
    case round =>
      obtain ⟨sb, d, rfl, hd, HI, hown, hB⟩ := hrel
      obtain ⟨wk, rfl⟩ : ∃ x, x = wr := ⟨_, rfl⟩
      have HO := Lib.hid hown
      have HB := Lib.hid hB
      have hwr := hB.size
      clear hown hB
      by_cases h0 : 0 < sb.size
      · have hne : sb.data.toList ≠ [] := by intro e; have := congrArg List.length e; rw [size_list, List.length_nil] at this; omega
        obtain ⟨⟨er, x, n⟩, hp⟩ : ∃ q, pel sb.data.toList = q := ⟨_, rfl⟩
        have HP := Lib.hid hp
        have HNE := Lib.hid hne
        have HFI := Lib.hid (first_at sb h0 (by omega) er x n hp wk)
        have q1 : (sb.toList == []) = false := by rw [ByteArray.toList_eq]; simpa using hne
        have q2 : (sb.toList != []) = true := by rw [bne, q1]; rfl
        have q3 : sb.toList.isEmpty = false := by rw [ByteArray.toList_eq]; simpa using hne
        have q4 : ¬ sb.toList = [] := by rw [ByteArray.toList_eq]; exact hne
        clear hp hne
        by_cases he : er = 0
        · subst he
          have hp1 : (pel sb.data.toList).1 = 0 := by rw [HP.out]
          have hlen := pel_len hp1
          rw [HP.out, size_list] at hlen
          simp only at hlen
          have hg := par_good HNE.out hp1
          rw [HP.out] at hg
          obtain ⟨k1, k2, k3⟩ := pel_ok HP.out
          have hsx : (elB x).size = n := by rw [elB_size, ← k2]
          have hn0 : (0 : Int) ≤ n := by omega
          have hn1 : (n : Int) ≤ sb.size := by omega
          have hn2 : n ≤ sb.size := by omega
          obtain ⟨tx, htx⟩ : ∃ tx, elB x = tx := ⟨_, rfl⟩
          rw [htx] at hsx
          have HTX := Lib.hid htx
          clear htx
          obtain ⟨sc, hsc⟩ : ∃ sc, sb.extract n sb.size = sc := ⟨_, rfl⟩
          obtain ⟨hs1, hs2⟩ := ext_drop hsc
          have HG := Lib.hid (And.intro hg (And.intro hs1 hs2))
          have HN := Lib.hid hlen
          have hzb : ((0 : Int) != 0) = false := rfl
          have HV : elV 0 x = elA x := by unfold elV; rw [if_pos rfl]
          rw [show FirstPost 0 x wk = fun e w' => e = .returned (.tuple #[.agg (elA x), intV 0]) ∧ Below wk.heap.size wk w' from by unfold FirstPost; rw [HV]] at HFI
          clear hp1 hlen hg k1 k2 k3 hs1 hs2 HV
          go_wp2_with fail
          refine HFI.out.mono ?_
          rintro e w1 ⟨rfl, h1'⟩
          have HB1 := Lib.hid h1'
          have hw1 := h1'.size
          have HN1 := Lib.hid (heap_alloc_new w1 (.cells zeroA 55))
          have HBA := Lib.hid ((Below.refl w1.heap.size w1).alloc (Nat.le_refl _) (.cells zeroA 55))
          have hsel : (Try.prog.info? 55).map (·.size) = some (elA x).size := by rw [elA_size]; exact (zero_of_info info_el).2
          have HSEL := Lib.hid hsel
          clear h1' hsel
          go_wp2_with (first
            | (refine wpList_store_into rfl 55 (.tmp 6) (.tmp 17) rfl w1.heap.size (elA x) rfl rfl 55 zeroA HN1.out HSEL.out (by rw [elA_size, zeroA_eq, cellA_size]) (elA_one _) ?_; intro W1 g1 g2 g3; have HG1 := Lib.hid (And.intro g1 (below_seq HBA.out (g3 w1.heap.size (Nat.le_refl _)) (Nat.le_refl _))); clear g1 g2 g3)
            | fail)
          refine wp_load_row 55 (.tmp 6) rfl w1.heap.size rfl 55 (elA x) (0, 0) _ HG1.out.1 Try.underlying55 rfl HSEL.out ?_
          rename_i hK
          refine hK _ _ ?_
          clear hK
          refine wpList_slice_one rfl 45 55 (.tmp 23) rfl (elA x) rfl i0 (.agg zeroA) Try.underlying45 hi hz0 (by rw [hz1, elA_size]) (by rw [elA_size]; omega) (by rw [elA_size]; omega) ?_
          have HBW := Lib.hid ((HB.out.trans (HB1.out.mono hwr)).trans (HG1.out.2.mono (Nat.le_trans hwr hw1)))
          have HO1 := Lib.hid ((own_keep (own_keep HO.out HB1.out) HG1.out.2).alloc (.cells (elA x) 55))
          have HLT := Lib.hid (show ∀ k, u4.ownBlock = some k → k < w1.heap.size from fun k hk => Nat.lt_of_lt_of_le (HO.out.lt k hk).2 hw1)
          have HNW := Lib.hid (show ∀ (j : Nat) (u : Value), (elL x)[j]? = some u → (W1.alloc (.cells (elA x) 55)).cell? ((⟨W1.heap.size, 0, none⟩ : Addr).add j) = some u from fun j u hu => by
            rw [Addr.add_mid, World.cell?_alloc_new, Nat.zero_add, elA_eq]; simpa using hu)
          have hwW := HBW.out.size
          have HCE2 := Lib.hid (show ∀ w2 : World, (W1.alloc (.cells (elA x) 55)).grownBy w2 u4.ownBlock → w2.cell? ⟨w1.heap.size, 0, none⟩ = some (.string tx) from fun w2 hg => by
            have hlt : w1.heap.size < W1.heap.size := by
              rcases Nat.lt_or_ge w1.heap.size W1.heap.size with g | g
              · exact g
              · have := HG1.out.1; simp [Array.getElem?_eq_none g] at this
            have hb2 := (hg.block w1.heap.size (by rw [World.size_alloc]; omega) (fun e => by have := HLT.out _ e.symm; omega)).trans ((Below.heap_alloc W1 _ _ hlt).trans HG1.out.1)
            rw [cell_of_row w2 _ 0 _ _ _ hb2, ← HTX.out]; rfl)
          go_wp2_with (at_builtin; refine wpList_append_own _ rfl _ _ 45 rfl w.heap.size 55 i0 (.agg zeroA) 258 280 Try.underlying45 hi hz0 hz1 hz2 (cellA_size _ _ _) (by decide) _ _ _ rfl HO1.out ⟨W1.heap.size, 0, none⟩ 1 1 (elL x) rfl (by rw [elL_length]) HNW.out (elL_one x) (by unfold maxLen; omega) (by omega) (by rw [World.size_alloc]; omega) ?_; intro v' w2 hown' hgrow hnn; clear hnn; have hc2 := HCE2.out w2 hgrow; have HO2 := Lib.hid hown'; have HB2 := Lib.hid (own_below HBW.out hwW (own_keep (own_keep HO.out HB1.out) HG1.out.2) hgrow); clear hown' hgrow)
          refine ⟨⟨sc, d ++ [x], rfl, ?_, Lib.hid ?_, ?_, HB2.out⟩, ?_⟩
          · have := HG.out.2.2; have := HN.out; rw [List.length_append, List.length_singleton]; omega
          · rw [HI.out, HG.out.1, HG.out.2.1]; simp
          · have := HO2.out
            simpa using this
          · have := HG.out.2.2; have := HN.out
            simp only [szOf]; omega
        · have heb : (er != 0) = true := by simpa using he
          have hb := par_bad HNE.out (by rw [HP.out]; exact he)
          have hce : chk s.data.toList = er := by rw [HC.out, HI.out, hb, HP.out]
          have HCE := Lib.hid hce
          clear hb hce
          go_wp2_with fail
          refine HFI.out.mono ?_
          rintro e w1 ⟨rfl, h1'⟩
          have HB1 := Lib.hid h1'
          have HN1 := Lib.hid (heap_alloc_new w1 (.cells zeroA 55))
          have HBA := Lib.hid ((Below.refl w1.heap.size w1).alloc (Nat.le_refl _) (.cells zeroA 55))
          clear h1'
          go_wp2_with (refine wpList_store_into rfl 55 (.tmp 6) (.tmp 17) rfl w1.heap.size (elV er x) rfl rfl 55 zeroA HN1.out (size_elV _ _) (by rw [elV_size, zeroA_eq, cellA_size]) (elV_one _ _) ?_; intro W1 g1 g2 g3; have HG1 := Lib.hid (below_seq HBA.out (g3 w1.heap.size (Nat.le_refl _)) (Nat.le_refl _)); clear g1 g2 g3)
          refine bodyPost_ret (v := .tuple #[.slice none 0 0, intV er]) (by simp [results, Try.results41, go_sem]) rfl ⟨.slice none 0 0, by rw [HCE.out], fun h => absurd (HCE.out.symm.trans h) he, (HB.out.trans (HB1.out.mono hwr)).trans (HG1.out.mono (Nat.le_trans hwr HB1.out.size))⟩
      · have hz0' : sb.size = 0 := by omega
        have hzl : sb.data.toList = [] := List.eq_nil_of_length_eq_zero (by rw [size_list]; exact hz0')
        have q1 : (sb.toList == []) = true := by rw [ByteArray.toList_eq, hzl]; rfl
        have q2 : (sb.toList != []) = false := by rw [bne, q1]; rfl
        have q3 : sb.toList.isEmpty = true := by rw [ByteArray.toList_eq, hzl]; rfl
        have q4 : sb.toList = [] := by rw [ByteArray.toList_eq, hzl]
        have hpn : par s.data.toList = (0, d) := by rw [HI.out, hzl]; simp [par_nil]
        have HPN := Lib.hid hpn
        clear hz0' hzl hpn h0
        go_wp2_with fail
        refine bodyPost_ret (v := .tuple #[u4, intV 0]) (by simp [results, Try.results41, go_sem]) rfl ⟨u4, by rw [HC.out, HPN.out], fun _ => ?_, HB.out⟩
        rw [HPN.out]
        exact EAt.of_own HO.out
/-- what elements gives -/
def ElsP (s : ByteArray) (w : World) (e : Ending) (w' : World) : Prop := ∃ v, e = .returned (.tuple #[v, .bool (decide (chk s.data.toList = 0))]) ∧ (chk s.data.toList = 0 → EAt w' v (par s.data.toList).2) ∧ Below w.heap.size w w'
theorem elements_any (s : ByteArray) (w : World) : Calls Try.prog 34 #[.string s] w (ElsP s w) := by
  have HP := Lib.hid (parse_any s w)
  go_enter Try.func34, Try.ntmps34
  go_wp2_with fail
  refine HP.out.mono ?_
  rintro e w1 ⟨v, rfl, h2, h3⟩
  have HH := Lib.hid (And.intro h2 h3)
  clear h2 h3
  obtain ⟨c, hc⟩ : ∃ c, chk s.data.toList = c := ⟨_, rfl⟩
  rw [hc]
  have HC := Lib.hid hc
  clear hc
  go_wp2_with fail
  refine bodyPost_ret (v := .tuple #[v, .bool (c == 0)]) (by simp [results, Try.results34, go_sem]) rfl ⟨v, ?_, HH.out.1, HH.out.2⟩
  rw [HC.out]
  have : (c == 0) = decide (c = 0) := by by_cases h : c = 0 <;> simp [h]
  rw [this]
/-- .. for a pattern, .. and for none -/
def ElsGood (l : List El) (w : World) (e : Ending) (w' : World) : Prop := ∃ v, e = .returned (.tuple #[v, .bool true]) ∧ EAt w' v l ∧ Below w.heap.size w w'
def ElsBad (w : World) (e : Ending) (w' : World) : Prop := ∃ v, e = .returned (.tuple #[v, .bool false]) ∧ Below w.heap.size w w'
theorem elements_good (s : ByteArray) (l : List El) (h : chk s.data.toList = 0) (hl : (par s.data.toList).2 = l) (w : World) : Calls Try.prog 34 #[.string s] w (ElsGood l w) := by
  refine (elements_any s w).mono ?_
  rintro e w1 ⟨v, rfl, h2, h3⟩
  exact ⟨v, by rw [decide_eq_true h], hl ▸ h2 h, h3⟩
theorem elements_bad (s : ByteArray) (h : chk s.data.toList ≠ 0) (w : World) : Calls Try.prog 34 #[.string s] w (ElsBad w) := by
  refine (elements_any s w).mono ?_
  rintro e w1 ⟨v, rfl, h2, h3⟩
  exact ⟨v, by rw [decide_eq_false h], h3⟩
theorem check_at (s : ByteArray) (er : Int) (h : chk s.data.toList = er) (w : World) :
    Calls Try.prog 19 #[.string s] w fun e w' => e = .returned (intV er) ∧ Below w.heap.size w w' := by
  subst h
  have HP := Lib.hid (parse_any s w)
  go_enter Try.func19, Try.ntmps19
  go_wp2_with fail
  refine HP.out.mono ?_
  rintro e w1 ⟨v, rfl, h2, h3⟩
  have HH := Lib.hid h3
  clear h2 h3
  go_wp2_with fail
  go_ret
  exact ⟨rfl, HH.out⟩
end Go.Proofs.Ytjjdihkjkmhjnaa
