/- Stage 10 (transcript): TrAwake TrSample, put together by merge10.py. -/
import Derived.Test.YtmfcepfagbkceaaGreatDoorOw
import Derived.Test.YtmfcepfagbkceaaGreatDoorOr
import Derived.Test.YtmfcepfagbkceaaGreatDoorOq
namespace Go.Proofs.YtmfcepfagbkceaaGreatDoor
set_option linter.unusedSimpArgs false
set_option linter.unusedVariables false
set_option maxRecDepth 100000
open Go.RowKit Go.Deep
def exT : Bs := [100, 101, 60, 97, 100, 100, 32, 49, 62, 117, 115, 60, 47, 97, 100, 100, 62, 60, 108, 98, 47, 62]
def exP : List Nd := [.mk 1 [117, 115] 0 []]
def exN : List Nd := [.mk 1 [100, 101] 0 [], .mk 8 [] 1 exP, .mk 2 [] 0 []]
theorem itoa_one : Lib.itoa 1 = [49] := by rw [itoa_digs (by decide) (by decide)]; rfl
theorem exT_lex : lexL exN = [⟨1, [], [100, 101], 0⟩, ⟨2, tAdd, [49], 0⟩, ⟨1, [], [117, 115], 0⟩, ⟨3, tAdd, [], 0⟩, ⟨4, tLb, [], 0⟩] := by
  simp [exN, exP, lexL, lexN, valX, textsK, numsK, partsK, nmK, itoa_one]
theorem exT_out : outL exN = exT := by unfold outL; rw [exT_lex]; decide +kernel
theorem exT_all : allL false false exN = 0 := by
  simp only [exN, exP, allL, allN, Nd.kd, List.isEmpty_nil, List.isEmpty_cons]
  decide +kernel
theorem exT_tot : tots exN = 4 ∧ deps exN = 1 := by
  simp [exN, exP, tots, tot, deps, dep]
theorem exT_ck : ckR exN = 0 := by
  unfold ckR
  rw [exT_tot.1, exT_tot.2, exT_all, exT_out]
  decide +kernel
theorem exT_parse : parseR exT = (exN, 0) := by rw [← exT_out]; exact parse_print exT_ck
theorem exT_print : printT exN = (exT, 0) := by unfold printT; rw [if_pos exT_ck, exT_out]
theorem exT_chars : charR exN = ([100, 101, 117, 115], 0) := by
  unfold charR
  rw [if_pos exT_ck]
  simp [exN, exP, chrL, chrN]
theorem exT_depth : depthR exN = (1, 0) := by
  unfold depthR
  rw [if_pos exT_ck, exT_tot.2]
  rfl
theorem bad_ck : ckR [.mk 0 [] 0 []] = 8 := by
  unfold ckR
  have : allL false false [.mk 0 [] 0 []] = 8 := by
    simp only [allL, allN, Nd.kd, List.isEmpty_nil]
    decide +kernel
  rw [this]
  simp [tots, tot, deps, dep]
theorem vs_slice {W : World} {P : Nat → Prop} {v : Value} {l : List Nd} (h : VsAt W P v l) : ∃ a c, v = .slice a l.length c := by
  obtain ⟨a, c, rfl, _⟩ := h
  exact ⟨a, c, rfl⟩
theorem great_few {s : Bs} (h : greatB s.length = false) : (scanR s).2 = 0 → (scanR s).1.length ≤ 1000 := fun h0 => by
  obtain ⟨h1, _, _⟩ := scan_iff.1 (show scanR s = ((scanR s).1, 0) from Prod.ext rfl h0)
  have : s.length ≤ 200 := by
    unfold greatB at h
    simp at h
    omega
  exact scanT_few s (by omega) h0
theorem parse_err {s : Bs} {l : List Nd} {e : Int} (h : parseR s = (l, e)) (he : e ≠ 0) : l = [] := by
  unfold parseR at h
  split at h
  · exact (Prod.mk.inj h).1.symm
  · split at h
    · exact (Prod.mk.inj h).1.symm
    · split at h
      · exact (Prod.mk.inj h).1.symm
      · exact absurd (Prod.mk.inj h).2.symm he
theorem parse_tots {s : Bs} {l : List Nd} {e : Int} (h : parseR s = (l, e)) : tots l ≤ 4096 := by
  by_cases he : e = 0
  · subst he
    exact (ck_zero (print_parse h).1).1
  · rw [parse_err h he, tots]
    exact Nat.zero_le _
theorem parse_at {s : Bs} {l : List Nd} {e : Int} (h : parseR s = (l, e)) (hg : (scanR s).2 = 0 → (scanR s).1.length ≤ 1000) (hs : s.length ≤ maxLen) (w : World) [T w] :
    Calls Tryz.prog 12 #[sV s] w fun en w' => ∃ u, en = .returned (.tuple #[u, intV e]) ∧ (∃ P, VsAt w' P u l) ∧ Below w.heap.size w w' := by
  refine (parseT_any s hs hg w).mono fun en w' ⟨u, h1, h2, h3⟩ => ⟨u, ?_, ?_, h3⟩
  · rw [h1, h]
  · rw [h] at h2; exact h2
theorem greatS_any (s : Bs) (hs : s.length ≤ maxLen) (r : Bool) (hr : greatB s.length = r) (w : World) :
    Calls Tryz.prog 10 #[sV s] w fun e w' => e = .returned (.bool r) ∧ Below w.heap.size w w' :=
  (great_any s hs r hr w).mono fun e w' ⟨h1, h2⟩ => ⟨h1, by rw [h2]; exact Below.refl _ _⟩
theorem lex_few : (∀ x, (lexN x).length ≤ 2 * tot x) ∧ ∀ l, (lexL l).length ≤ 2 * tots l := by
  refine Nd.both (fun k t n p ih => ?_) (by rw [lexL]; exact Nat.zero_le _) (fun x l h1 h2 => ?_)
  · rw [lexN, tot]
    split
    · simp; omega
    · split
      · simp; omega
      · simp; omega
  · rw [lexL, tots, List.length_append]; omega
theorem fine_of {l : List Nd} (h : fineR l = true) : greatR l = false ∧ ckR l = 0 := by
  unfold fineR at h
  rw [Bool.and_eq_true, decide_eq_true_eq] at h
  exact ⟨by simpa using h.1, h.2⟩
theorem fine_scan {l : List Nd} (h : fineR l = true) : (scanR (outL l)).2 = 0 → (scanR (outL l)).1.length ≤ 1000 := fun h0 => by
  obtain ⟨h1, h2⟩ := fine_of h
  obtain ⟨_, _, _, _, _, h6⟩ := print_parse (parse_print h2)
  have h7 := congrArg List.length h6
  rw [List.length_map] at h7
  have := lex_few.2 l
  have := (fine_short h1 h2).1
  omega
end Go.Proofs.YtmfcepfagbkceaaGreatDoor
namespace Go.Proofs.YtmfcepfagbkceaaGreatDoor
set_option linter.unusedSimpArgs false
set_option linter.unusedVariables false
set_option maxRecDepth 100000
open Go.RowKit Go.Deep
theorem vs_row {W : World} {P : Nat → Prop} {b c : Nat} {cs : List Value} {l : List Nd} (h : W.heap[b]? = some (.cells cs.toArray nT (0, 0))) (hc : CsOf W P cs l) (hp : P b) : VsAt W P (.slice (some ⟨b, 0, none⟩) l.length c) l :=
  ⟨_, _, rfl, fun _ => ⟨b, 0, rfl, hp, heap_ltT h, its_of_cs hc fun j u hj => by
    rw [Nat.zero_add]
    unfold World.cell?
    rw [show W.heap[(⟨b, j, none⟩ : Addr).block]? = _ from h]
    simpa using hj⟩⟩
theorem cs_one {W : World} {P : Nat → Prop} {k n : Int} {t : Bs} {s : Value} {l : List Nd} {cs : List Value} {L : List Nd} (h : VAt W P (.agg #[intV k, sV t, intV n, s]) (.mk k t n l)) (hc : CsOf W P cs L) : CsOf W P (intV k :: sV t :: intV n :: s :: cs) (.mk k t n l :: L) := by
  rw [CsOf]
  exact ⟨s, cs, rfl, h, hc⟩
theorem cs_nil (W : World) (P : Nat → Prop) : CsOf W P [] [] := by rw [CsOf]
abbrev rowA : Obj := .cells #[intV 1, sV [117, 115], intV 0, .slice none 0 0] nT
abbrev rowB (b : Nat) : Obj := .cells #[intV 1, sV [100, 101], intV 0, .slice none 0 0, intV 8, sV [], intV 1, .slice (some ⟨b, 0, none⟩) 1 1, intV 2, sV [], intV 0, .slice none 0 0] nT
theorem vs_ex {W : World} {b : Nat} {P : Nat → Prop} (hA : W.heap[b]? = some rowA) (hB : W.heap[b + 1]? = some (rowB b)) (h1 : P b) (h2 : P (b + 1)) : VsAt W P (.slice (some ⟨b + 1, 0, none⟩) 3 3) exN := by
  have hp : VsAt W P (.slice (some ⟨b, 0, none⟩) 1 1) exP := vs_row (c := 1) hA (cs_one (vat_mk (by decide) (by decide) (by decide) (by decide) (VsAt.nil _ _ _ _)) (cs_nil _ _)) h1
  exact vs_row (c := 3) (l := exN) hB (cs_one (vat_mk (by decide) (by decide) (by decide) (by decide) (VsAt.nil _ _ _ _)) (cs_one (vat_mk (by decide) (by decide) (by decide) (by decide) hp) (cs_one (vat_mk (by decide) (by decide) (by decide) (by decide) (VsAt.nil _ _ _ _)) (cs_nil _ _)))) h2
theorem sample_any (w : World) : Calls Tryz.prog 38 #[] w fun e w' => ∃ u, e = .returned u ∧ (∃ P, VsAt w' P u exN) ∧ Below w.heap.size w w' := by
  obtain ⟨w3, hw3⟩ : ∃ X, (w.alloc rowA).alloc (rowB w.heap.size) = X := ⟨_, rfl⟩
  have hA : w3.heap[w.heap.size]? = some rowA := by rw [← hw3]; exact (Below.heap_alloc _ _ _ (by simp)).trans (World.alloc_heap_new _ _)
  have hB : w3.heap[w.heap.size + 1]? = some (rowB w.heap.size) := by
    rw [← hw3]
    have := World.alloc_heap_new (w.alloc rowA) (rowB w.heap.size)
    rwa [World.size_alloc] at this
  have HV := Lib.hid (vs_ex (P := fun _ => True) hA hB trivial trivial)
  have HB := Lib.hid (show Below w.heap.size w w3 by rw [← hw3]; exact ((Below.refl _ w).alloc (Nat.le_refl _) _).alloc (by simp) _)
  have HW := Lib.hid hw3
  clear hA hB hw3
  go_enter Tryz.func38, Tryz.ntmps38
  go_wp2
  go_ret
  exact ⟨_, rfl, ⟨_, by have := HV.out; rw [← HW.out] at this; exact this⟩, by have := HB.out; rw [← HW.out] at this; exact this⟩
theorem max4 (W : World) : (Builtin.max_ #[25, 25, 25, 25] 25 #[.int .i64 0, .int .i64 0, .int .i64 0, .int .i64 0]).run Tryz.prog W = .ok (.int .i64 0) W := by rfl
theorem bad_vs (W : World) : VsAt (W.alloc (.cells #[intV 0, sV [], intV 0, .slice none 0 0] nT)) (fun _ => True) (.slice (some ⟨W.heap.size, 0, none⟩) 1 1) [.mk 0 [] 0 []] :=
  vs_row (c := 1) (World.alloc_heap_new _ _) (cs_one (vat_mk (by decide) (by decide) (by decide) (by decide) (VsAt.nil _ _ _ _)) (cs_nil _ _)) trivial
set_option maxHeartbeats 4000000 in
theorem awake_any (w : World) [T w] : Calls Tryz.prog 11 #[] w fun e w' => e = .returned (.bool true) ∧ Below w.heap.size w w' := by
  have ht : tots exN ≤ 90000 := by rw [exT_tot.1]; decide
  have HPA := Lib.hid (fun W (_ : T W) => parse_at exT_parse (scanT_few exT (by decide)) (by decide) W)
  have HSA := Lib.hid (fun W => sample_any W)
  have HPR := Lib.hid (fun u P W (_ : T W) (h : VsAt W P u exN) => printT_any exN u P W h ht exT 0 exT_print)
  have HCH := Lib.hid (fun u P W (_ : T W) (h : VsAt W P u exN) => charsT_any exN u P W h ht [100, 101, 117, 115] 0 exT_chars)
  have HDE := Lib.hid (fun u P W (_ : T W) (h : VsAt W P u exN) => depthT_any exN u P W h ht 1 0 exT_depth)
  have HS1 := Lib.hid (fun u v P Q W (h1 : VsAt W P u exN) (h2 : VsAt W Q v exN) => same_any (tots exN) exN (Nat.le_refl _) (by omega) exN true (by simp) u v P Q W h1 h2)
  have HS2 := Lib.hid (fun u v P Q W (h1 : VsAt W P u exN) (h2 : VsAt W Q v exN) => sameT_any (tots exN + 1) exN (by omega) (by omega) exN true (by simp) u v P Q W h1 h2)
  have HCK := Lib.hid (fun W (_ : T W) => checkT_any [.mk 0 [] 0 []] _ _ (W.alloc (.cells #[intV 0, sV [], intV 0, .slice none 0 0] nT)) (bad_vs W) (by simp [tots, tot]) 8 bad_ck)
  have hmax := max4
  have hx1 : (exT == [100, 101, 60, 97, 100, 100, 32, 49, 62, 117, 115, 60, 47, 97, 100, 100, 62, 60, 108, 98, 47, 62]) = true := by decide
  have hx2 := baL_tl exT
  have hx3 := baL_tl [100, 101, 117, 115]
  clear ht
  go_enter Tryz.func11, Tryz.ntmps11
  go_wp2_with fail
  refine (HPA.out w inferInstance).mono ?_
  rintro e1 w1 ⟨l, rfl, ⟨Pl, kl⟩, h1⟩
  have B1 := Lib.hid h1
  haveI tt1 : T w1 := T.below B1.out
  clear h1
  obtain ⟨la, lc, rfl⟩ := vs_slice kl
  have L1 := Lib.hid kl
  clear kl
  go_wp2_with fail
  refine (HSA.out w1).mono ?_
  rintro e2 w2 ⟨s1, rfl, ⟨Ps1, ks1⟩, h2⟩
  have B2 := Lib.hid (below_then B1.out h2)
  haveI tt2 : T w2 := T.below B2.out
  have L2 := Lib.hid (L1.out.below h2)
  clear h2 L1 B1
  obtain ⟨s1a, s1c, rfl⟩ := vs_slice ks1
  have S2 := Lib.hid ks1
  clear ks1
  go_wp2_with fail
  refine (HPR.out _ _ w2 inferInstance S2.out).mono ?_
  rintro e3 w3 ⟨rfl, h3⟩
  have B3 := Lib.hid (below_then B2.out h3)
  haveI tt3 : T w3 := T.below B3.out
  have L3 := Lib.hid (L2.out.below h3)
  have S3 := Lib.hid (S2.out.below h3)
  clear h3 L2 S2 B2
  go_wp2_with fail
  refine (HSA.out w3).mono ?_
  rintro e4 w4 ⟨s2, rfl, ⟨Ps2, ks2⟩, h4⟩
  have B4 := Lib.hid (below_then B3.out h4)
  haveI tt4 : T w4 := T.below B4.out
  have L4 := Lib.hid (L3.out.below h4)
  clear h4 L3 B3
  obtain ⟨s2a, s2c, rfl⟩ := vs_slice ks2
  have S4 := Lib.hid ks2
  clear ks2
  go_wp2_with fail
  refine (HCH.out _ _ w4 inferInstance S4.out).mono ?_
  rintro e5 w5 ⟨rfl, h5⟩
  have B5 := Lib.hid (below_then B4.out h5)
  haveI tt5 : T w5 := T.below B5.out
  have L5 := Lib.hid (L4.out.below h5)
  have S5 := Lib.hid (S4.out.below h5)
  clear h5 L4 S4 B4
  go_wp2_with fail
  refine (HSA.out w5).mono ?_
  rintro e6 w6 ⟨s3, rfl, ⟨Ps3, ks3⟩, h6⟩
  have B6 := Lib.hid (below_then B5.out h6)
  haveI tt6 : T w6 := T.below B6.out
  have L6 := Lib.hid (L5.out.below h6)
  clear h6 L5 B5
  obtain ⟨s3a, s3c, rfl⟩ := vs_slice ks3
  have S6 := Lib.hid ks3
  clear ks3
  go_wp2_with fail
  refine (HDE.out _ _ w6 inferInstance S6.out).mono ?_
  rintro e7 w7 ⟨rfl, h7⟩
  have B7 := Lib.hid (below_then B6.out h7)
  haveI tt7 : T w7 := T.below B7.out
  have L7 := Lib.hid (L6.out.below h7)
  have S7 := Lib.hid (S6.out.below h7)
  clear h7 L6 S6 B6
  go_wp2_with fail
  refine (HSA.out w7).mono ?_
  rintro e8 w8 ⟨s4, rfl, ⟨Ps4, ks4⟩, h8⟩
  have B8 := Lib.hid (below_then B7.out h8)
  haveI tt8 : T w8 := T.below B8.out
  have L8 := Lib.hid (L7.out.below h8)
  clear h8 L7 B7
  obtain ⟨s4a, s4c, rfl⟩ := vs_slice ks4
  have S8 := Lib.hid ks4
  clear ks4
  go_wp2_with fail
  refine (HS1.out _ _ _ _ w8 L8.out S8.out).mono ?_
  rintro e9 w9 ⟨rfl, h9⟩
  have B9 := Lib.hid (below_then B8.out h9)
  haveI tt9 : T w9 := T.below B9.out
  have L9 := Lib.hid (L8.out.below h9)
  have S9 := Lib.hid (S8.out.below h9)
  clear h9 L8 S8 B8
  go_wp2_with fail
  refine (HSA.out w9).mono ?_
  rintro e10 w10 ⟨s5, rfl, ⟨Ps5, ks5⟩, h10⟩
  have B10 := Lib.hid (below_then B9.out h10)
  haveI tt10 : T w10 := T.below B10.out
  have L10 := Lib.hid (L9.out.below h10)
  clear h10 L9 B9
  obtain ⟨s5a, s5c, rfl⟩ := vs_slice ks5
  have S10 := Lib.hid ks5
  clear ks5
  go_wp2_with fail
  refine (HS2.out _ _ _ _ w10 L10.out S10.out).mono ?_
  rintro e11 w11 ⟨rfl, h11⟩
  have B11 := Lib.hid (below_then B10.out h11)
  haveI tt11 : T w11 := T.below B11.out
  have L11 := Lib.hid (L10.out.below h11)
  have S11 := Lib.hid (S10.out.below h11)
  clear h11 L10 S10 B10
  go_wp2_with fail
  refine (HCK.out w11 inferInstance).mono ?_
  rintro e13 w13 ⟨rfl, h13⟩
  have B13 := Lib.hid (below_then B11.out (below_then (below_alloc _ _) h13))
  clear h13
  go_wp2
  go_ret
  exact ⟨rfl, B13.out⟩
end Go.Proofs.YtmfcepfagbkceaaGreatDoor
