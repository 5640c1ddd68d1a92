/- Permutation and Moves. -/
import Derived.Test.YteceahbnafaeoaaSpIncr
namespace Go.Proofs.Yteceahbnafaeoaa
set_option linter.unusedSimpArgs false
set_option linter.unusedVariables false
set_option maxRecDepth 100000
open Go.RowKit Go.Deep

set_option maxHeartbeats 8000000 in
theorem permP_any (l : List Int) (hl : l.length ≤ 2000000) (v : Value) (w : World) (hv : IntsAt w v l) (r : Bool) (hr : permB l = r) :
    Calls Try.prog 25 #[v] w fun e w' => e = .returned (.bool r) ∧ Below w.heap.size w w' := by
  have HV := Lib.hid hv
  obtain ⟨a, cap, rfl⟩ := hv.slice
  have HR := Lib.hid hr
  have HIX := Lib.hid (fun x b hb W (h : IntsAt W (.slice a l.length cap) l) => isIndex_any l x _ b hb W h)
  have hmk := run_make_row' (P := Try.prog) 72 4 (.bool false) 1 rfl info_bool rfl
  have hmk1 := fun W => hmk .i64 .i64 l.length (by omega) (by omega) W
  clear hv hr hmk
  go_enter Try.func25, Try.ntmps25
  go_wp2_with fail
  clear hmk1
  have hrow := RowN.of_row (World.rowIs_made w (.bool false) l.length 4)
  obtain ⟨wa, hwa⟩ : ∃ x, w.alloc (.cells (madeCells #[.bool false] l.length) 4) = x := ⟨_, rfl⟩
  have hBa : Below w.heap.size w wa := by rw [← hwa]; exact (Below.refl _ _).alloc (Nat.le_refl _) _
  rw [hwa] at hrow
  try rw [hwa]
  have HROW0 := Lib.hid hrow
  have HB0 := Lib.hid hBa
  obtain ⟨R, hR⟩ : ∃ R, w.heap.size = R := ⟨_, rfl⟩
  rw [hR] at HROW0
  try rw [hR]
  have hRw : w.heap.size ≤ R := by omega
  clear hwa hrow hBa
  go_loopw [11] (fun i wr => ∃ k : Nat, k ≤ l.length ∧ i = .int .i64 k ∧ Below w.heap.size w wr ∧ (l.take k).all (inB l) = true ∧ (l.take k).Nodup ∧ RowN wr R 4 l.length (fun j => .bool (decide ((j : Int) ∈ l.take k)))) (fun i _ => l.length - (intOf i).toNat)
  case atStart => exact ⟨0, Nat.zero_le _, rfl, HB0.out, rfl, List.nodup_nil, HROW0.out.congr fun j _ => by simp⟩
  case round =>
    obtain ⟨k, hk, rfl, hB, h1, h2, hrow⟩ := hrel
    obtain ⟨wk, rfl⟩ : ∃ x, x = wr := ⟨_, rfl⟩
    have HB := Lib.hid hB
    have H12 := Lib.hid (And.intro h1 h2)
    have HROW := Lib.hid hrow
    by_cases hlt : k < l.length
    · have HIX1 := Lib.hid (fun x b hb => HIX.out x b hb wk (HV.out.below hB))
      obtain ⟨b, off, rfl, hbb, c0⟩ := HV.out.elem hlt
      have hcell : wk.cell? ⟨b, off + k, none⟩ = some (.int .i64 l[k]) := (hB.cell (p := ⟨b, off + k, none⟩) hbb).trans c0
      have HOUT := Lib.hid (fun h => perm_out hlt h)
      have HTW := Lib.hid (fun h => perm_twice hlt h)
      have HPT := Lib.hid (fun hi hn => perm_take hlt h1 h2 hi hn)
      have HTK := Lib.hid (take_succ_int l k hlt)
      obtain ⟨x, hx⟩ : ∃ x, l[k] = x := ⟨_, rfl⟩
      rw [hx] at hcell HOUT HTW HPT HTK
      have HIX2 := Lib.hid (HIX1.out x)
      clear hx c0 h1 h2 hB hrow
      by_cases hin : 0 ≤ x ∧ x < (l.length : Int)
      · obtain ⟨y, rfl⟩ : ∃ y : Nat, x = y := ⟨x.toNat, by omega⟩
        have hyl : y < l.length := by omega
        have hcy := HROW.out.cell hyl
        have hfy := HROW.out.frozen y
        have hy0 : (0 : Int) ≤ (y : Int) := by omega
        have hy1 : (y : Int) < (l.length : Int) := by omega
        have HIN := Lib.hid (show inB l y = true by unfold inB; rw [decide_eq_true hy0, decide_eq_true hy1]; rfl)
        have HI3 := Lib.hid (HIX2.out true HIN.out)
        obtain ⟨s, hs⟩ : ∃ s, decide ((y : Int) ∈ l.take k) = s := ⟨_, rfl⟩
        simp only [hs] at hcy
        have HS := Lib.hid hs
        have HSET := Lib.hid (HROW.out.set y (.bool true))
        have HBS := Lib.hid (HB.out.setCell (p := ⟨R, y, none⟩) hRw (.bool true))
        clear hs hin
        cases s with
        | true =>
          go_wp2_with fail
          refine HI3.out.mono ?_
          rintro e w4 ⟨rfl, rfl⟩
          go_wp2
          go_ret
          exact ⟨ret_bool (by rw [← HR.out, HTW.out (by simpa using HS.out)]), by first | exact HB.out | (rw [← hR]; exact HB.out)⟩
        | false =>
          go_wp2_with fail
          refine HI3.out.mono ?_
          rintro e w4 ⟨rfl, rfl⟩
          go_wp2
          go_roundw
          case rel =>
            have hn : (y : Int) ∉ l.take k := by simpa using HS.out
            obtain ⟨p1, p2⟩ := HPT.out HIN.out hn
            refine ⟨k + 1, by omega, by go_num, HBS.out, p1, p2, HSET.out.congr fun j hj => ?_⟩
            rw [HTK.out]
            by_cases e : j = y
            · subst e; simp
            · rw [if_neg e]
              congr 1
              rw [decide_eq_decide, List.mem_append, List.mem_singleton]
              exact ⟨Or.inl, fun h => h.resolve_right (by omega)⟩
          case measure => simp [intOf]; omega
      · have hni : inB l x = false := by
          unfold inB
          rw [Bool.and_eq_false_iff, decide_eq_false_iff_not, decide_eq_false_iff_not]
          omega
        have HNI := Lib.hid (HOUT.out hni)
        have HI3 := Lib.hid (HIX2.out false hni)
        clear hin hni
        go_wp2_with fail
        refine HI3.out.mono ?_
        rintro e w4 ⟨rfl, rfl⟩
        go_wp2
        go_ret
        exact ⟨ret_bool (by rw [← HR.out, HNI.out]), by first | exact HB.out | (rw [← hR]; exact HB.out)⟩
    · obtain rfl : k = l.length := by omega
      clear hrow hB
      go_wp2
      go_ret
      refine ⟨ret_bool ?_, HB.out⟩
      have h3 := H12.out
      rw [List.take_length] at h3
      rw [← HR.out]
      unfold permB
      rw [show l.all (fun x => inB l x) = true from h3.1, decide_eq_true h3.2]; rfl
set_option maxHeartbeats 4000000 in
theorem movesP_any (l : List Int) (v : Value) (w : World) (hv : IntsAt w v l) :
    Calls Try.prog 21 #[v] w fun e w' => e = .returned (.tuple #[intV (movE l).1, intV (movE l).2]) ∧ Below w.heap.size w w' := by
  have HV := Lib.hid hv
  have HI := Lib.hid (incr_any l v w hv)
  obtain ⟨a, cap, rfl⟩ := hv.slice
  by_cases h1 : 1024 < l.length
  · have e1 : incE l = ([], 4) := by unfold incE; rw [if_pos h1]
    have e2 : movE l = (0, 4) := by unfold movE; rw [if_pos h1]
    rw [e1] at HI
    rw [e2]
    clear hv e1 e2
    go_enter Try.func21, Try.ntmps21
    go_wp2_with fail
    refine HI.out.mono ?_
    rintro e w1 ⟨x, rfl, hx, hB⟩
    obtain ⟨x1, x2, rfl⟩ := hx.slice
    have HB := Lib.hid hB
    clear hx hB
    go_wp2
    go_ret2
    exact ⟨rfl, HB.out⟩
  · have hl : l.length ≤ 1024 := by omega
    obtain ⟨pb, hpb⟩ : ∃ pb, permB l = pb := ⟨_, rfl⟩
    have HP := Lib.hid (fun W h => permP_any l (by omega) (.slice a l.length cap) W h pb hpb)
    have e1 : incE l = (incR l, 0) := by unfold incE; rw [if_neg h1]
    have hle : (incR l).length ≤ l.length := by rw [inc_len]; exact lis_le l
    have hmv : movR l = l.length - (incR l).length := by unfold movR; rw [inc_len]
    have HE := Lib.hid (show movE l = if pb then (((l.length - (incR l).length : Nat) : Int), 0) else (0, 8) by unfold movE; rw [if_neg h1, hpb, hmv])
    rw [e1] at HI
    obtain ⟨I, hI⟩ : ∃ I, incR l = I := ⟨_, rfl⟩
    rw [hI] at HI HE hle
    have HLE := Lib.hid hle
    clear hv e1 hpb h1 hI hmv
    go_enter Try.func21, Try.ntmps21
    go_wp2_with fail
    refine HI.out.mono ?_
    rintro e w1 ⟨x, rfl, hx, hB⟩
    obtain ⟨x1, x2, rfl⟩ := hx.slice
    have HB := Lib.hid hB
    clear hx hB
    obtain ⟨n, hn⟩ : ∃ n, I.length = n := ⟨_, rfl⟩
    rw [hn] at HE hle ⊢
    have hwr : IntKind.i64.wrap ((l.length : Int) - (n : Int)) = ((l.length - n : Nat) : Int) := by rw [show (l.length : Int) - (n : Int) = ((l.length - n : Nat) : Int) by omega]; exact IntWalk.i64_in _ (by omega)
    clear hn
    cases pb with
    | true =>
      go_wp2_with fail
      refine (HP.out w1 (HV.out.below HB.out)).mono ?_
      rintro e w2 ⟨rfl, hB2⟩
      have HB2 := Lib.hid (below_then HB.out hB2)
      clear hB2
      go_wp2
      go_ret2
      exact ⟨by rw [HE.out]; rfl, HB2.out⟩
    | false =>
      go_wp2_with fail
      refine (HP.out w1 (HV.out.below HB.out)).mono ?_
      rintro e w2 ⟨rfl, hB2⟩
      have HB2 := Lib.hid (below_then HB.out hB2)
      clear hB2
      go_wp2
      go_ret2
      exact ⟨by rw [HE.out]; rfl, HB2.out⟩
end Go.Proofs.Yteceahbnafaeoaa
