/- The law's fine, cost; slices.Clone. -/
import Derived.Test.YtipcelgoachjjaaDgMathTwo
import Derived.Test.YtipcelgoachjjaaDgToW
namespace Go.Proofs.Ytipcelgoachjjaa
set_option linter.unusedSimpArgs false
set_option linter.unusedVariables false
set_option maxRecDepth 100000
open Go.RowKit Go.Deep

abbrev u8V (x : Int) : Value := .int .u8 x
/-- what is examined -/
def okR (n : Int) (ls : List LkV) : Bool := !greatR n ls && decide (checkR n ls = 0)
theorem rem_i64 {s n : Int} (h0 : 0 ≤ s) (h1 : s < 256) (hn : 1 ≤ n) : Int.tmod s n = s % n ∧ 0 ≤ s % n ∧ s % n < n ∧ s % n < 256 := by
  have := Int.emod_nonneg s (show n ≠ 0 by omega)
  have h3 := Int.emod_lt_of_pos s (show 0 < n by omega)
  refine ⟨Int.tmod_eq_emod_of_nonneg h0, this, h3, ?_⟩
  by_cases h : s < n
  · rw [Int.emod_eq_of_lt h0 h]; exact h1
  · omega
set_option maxHeartbeats 2000000 in
theorem fine_any (n : Int) (ls : List LkV) (s t : Int) (hs : 0 ≤ s ∧ s < 256) (ht : 0 ≤ t ∧ t < 256) (v : Value) (w : World) (hv : LinksAt w v ls) (hl : ls.length ≤ maxLen) (r : Bool) (hr : okR n ls = r) :
    Calls Try.prog 28 #[intV n, v, u8V s, u8V t] w fun e w' => e = .returned (.tuple (if r = true then #[intV (s % n), intV (t % n), .bool true] else #[intV 0, intV 0, .bool false])) ∧ Below w.heap.size w w' := by
  obtain ⟨g, hg⟩ : ∃ g, greatR n ls = g := ⟨_, rfl⟩
  obtain ⟨c, hc⟩ : ∃ c, checkR n ls = c := ⟨_, rfl⟩
  have HG := Lib.hid (great_any n ls v w hv g hg)
  have HC := Lib.hid (refCheck_any n ls v w hv hl c hc)
  obtain ⟨av, cv, rfl⟩ := hv.slice
  rw [okR, hg, hc] at hr
  cases g with
  | true =>
    have hr : false = r := by simpa using hr
    subst hr
    clear hv hg hc
    go_enter Try.func28, Try.ntmps28
    go_wp2_with fail
    refine HG.out.mono ?_
    rintro e w1 ⟨rfl, rfl⟩
    go_wp2_with fail
    refine bodyPost_ret (v := .tuple #[_, _, _]) (by simp [results, Try.results28, go_sem]; exact ⟨rfl, rfl, rfl⟩) rfl ?_
    exact ⟨rfl, Below.refl _ _⟩
  | false =>
    by_cases h0 : c = 0
    · subst h0
      have hr : true = r := by simpa using hr
      subst hr
      have hn := (gr_of hc).n1
      have hn2 := (gr_of hc).n2
      obtain ⟨hs1, hs2, hs3, hs4⟩ := rem_i64 hs.1 hs.2 hn
      obtain ⟨ht1, ht2, ht3, ht4⟩ := rem_i64 ht.1 ht.2 hn
      have hnz : ¬ n = 0 := by omega
      obtain ⟨ha, hb⟩ := hs
      obtain ⟨hc1, hd⟩ := ht
      clear hv hg hc
      go_enter Try.func28, Try.ntmps28
      go_wp2_with fail
      refine HG.out.mono ?_
      rintro e w1 ⟨rfl, rfl⟩
      go_wp2_with fail
      refine HC.out.mono ?_
      rintro e w1 ⟨rfl, hB⟩
      have HB1 := Lib.hid hB
      clear hB
      go_wp2_with fail
      go_quiet (fail)
      go_wp2
      all_goals
        refine bodyPost_ret (v := .tuple #[_, _, _]) (by simp [results, Try.results28, go_sem]; exact ⟨rfl, rfl, rfl⟩) rfl ?_
        exact ⟨rfl, HB1.out.trans (below_drewN_n _ _ _)⟩
    · have hr : false = r := by simpa [h0] using hr
      subst hr
      have hb : (c != 0) = true := by rw [bne_iff_ne]; exact h0
      clear hv hg hc
      go_enter Try.func28, Try.ntmps28
      go_wp2_with fail
      refine HG.out.mono ?_
      rintro e w1 ⟨rfl, rfl⟩
      go_wp2_with fail
      refine HC.out.mono ?_
      rintro e w1 ⟨rfl, hB⟩
      have HB1 := Lib.hid hB
      clear hB
      go_wp2_with fail
      refine bodyPost_ret (v := .tuple #[_, _, _]) (by simp [results, Try.results28, go_sem]; exact ⟨rfl, rfl, rfl⟩) rfl ?_
      exact ⟨rfl, HB1.out⟩
theorem cst_snoc (ls : List LkV) (i : Nat) : ∀ p : List Nat, cst ls (p ++ [i]) = cst ls p + (lk ls i).c
  | [] => by simp [cst]
  | a :: p => by rw [List.cons_append, cst, cst_snoc ls i p, cst]; omega
set_option maxHeartbeats 1000000 in
theorem cost_any {n : Int} (ls : List LkV) (hg : Gr n ls) (p : List Nat) (hp : ∀ i ∈ p, i < ls.length) (hl : p.length ≤ 4096) (r : Int) (hr : cst ls p = r) (v u : Value) (w : World) (hv : LinksAt w v ls) (hu : IntsAt w u (toI p)) :
    Calls Try.prog 32 #[v, u] w fun e w' => e = .returned (intV r) ∧ w = w' := by
  have HV := Lib.hid hv
  have HU := Lib.hid hu
  have hlen := hg.len
  obtain ⟨a, cap, rfl⟩ := hv.slice
  obtain ⟨b, cap2, rfl⟩ := hu.slice
  have HG := Lib.hid hg
  have HR := Lib.hid hr
  have HP := Lib.hid hp
  rw [List.length_map] at *
  clear hv hu hg hr hp
  go_enter Try.func32, Try.ntmps32
  go_wp2
  go_loop [10, 5] (fun i c => ∃ (k : Nat) (z : Int), k ≤ p.length ∧ i = .int .i64 k ∧ c = intV z ∧ 0 ≤ z ∧ z ≤ k * 1073741824 ∧ cst ls (p.take k) = z) (fun i _ => p.length - (intOf i).toNat)
  case atStart => exact ⟨0, 0, Nat.zero_le _, rfl, rfl, Int.le_refl _, by omega, rfl⟩
  case round =>
    obtain ⟨k, z, hk, rfl, rfl, hz0, hz1, he⟩ := hrel
    have HE := Lib.hid he
    clear he
    by_cases hlt : k < p.length
    · obtain ⟨b, off, rfl, hbb, q1⟩ := HU.out.elem (j := k) (by simpa using hlt)
      have HT := Lib.hid (List.take_succ_eq_append_getElem hlt)
      have hj := HP.out _ (List.getElem_mem hlt)
      obtain ⟨j, hjj⟩ : ∃ j, p[k] = j := ⟨_, rfl⟩
      rw [hjj] at HT hj
      have q1' : w.cell? ⟨b, off + k, none⟩ = some (intV j) := by simpa [hjj] using q1
      obtain ⟨bl, ol, rfl, hbl, p1, p2, p3⟩ := HV.out.elem hj
      have hk0 := (HG.out.lk hj).c0
      have hk1 := (HG.out.lk hj).c1
      have HST := Lib.hid (cst_snoc ls j (p.take k))
      obtain ⟨c, hc⟩ : ∃ c, (lk ls j).c = c := ⟨_, rfl⟩
      rw [hc] at p3 hk0 hk1 HST
      clear q1 p1 p2 hc hjj
      go_wp2
      go_round
      case rel => exact ⟨k + 1, z + c, by omega, by go_num, rfl, by omega, by omega, by rw [HT.out, HST.out, HE.out]⟩
      case measure => simp [intOf]; omega
    · obtain rfl : k = p.length := by omega
      go_wp2
      go_ret
      exact ⟨ret_int (by rw [← HR.out]; have := HE.out; rw [List.take_length] at this; exact this.symm), rfl⟩
end Go.Proofs.Ytipcelgoachjjaa
