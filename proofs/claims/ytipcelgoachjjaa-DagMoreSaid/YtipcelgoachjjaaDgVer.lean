/- The program's Verify. -/
import Derived.Test.YtipcelgoachjjaaDgProg1
namespace Go.Proofs.Ytipcelgoachjjaa
set_option linter.unusedSimpArgs false
set_option linter.unusedVariables false
set_option maxRecDepth 100000
open Go.RowKit Go.Deep

theorem mem_getElem {xs : List Int} {k : Nat} (h : k < xs.length) : xs[k] ∈ xs := List.getElem_mem h
set_option maxHeartbeats 1000000 in
theorem min_any (xs : List Int) (h0 : 0 < xs.length) (hl : xs.length ≤ 1000000) (v : Value) (w : World) (hv : IntsAt w v xs) :
    Calls Try.prog 57 #[v] w fun e w' => (∃ m : Int, e = .returned (intV m) ∧ m ∈ xs ∧ ∀ x ∈ xs, m ≤ x) ∧ w = w' := by
  have HV := Lib.hid hv
  obtain ⟨b, off, cap, rfl, hbb, q1⟩ : ∃ b off cap, v = .slice (some ⟨b, off, none⟩) xs.length cap ∧ b < w.heap.size ∧ w.cell? ⟨b, off + 0, none⟩ = some (intV (xs[0]'h0)) := by
    obtain ⟨a, cap, rfl, hc⟩ := hv
    obtain ⟨b, off, rfl, hb, hcs⟩ := hc h0
    exact ⟨b, off, cap, rfl, hb, hcs 0 h0⟩
  have HM0 := Lib.hid (mem_getElem h0)
  have HD0 := Lib.hid (show ∀ x ∈ xs.take 1, xs[0] ≤ x by
    intro x hx
    rw [show xs.take 1 = [xs[0]] by cases xs with
      | nil => simp at h0
      | cons a r => rfl] at hx
    rw [List.mem_singleton.1 hx]; exact Int.le_refl _)
  obtain ⟨x0, hx0⟩ : ∃ x, xs[0] = x := ⟨_, rfl⟩
  rw [hx0] at q1 HM0 HD0
  rw [Nat.add_zero] at q1
  clear hv hx0
  go_enter Try.func57, Try.ntmps57
  go_wp2
  go_loop [4, 3] (fun i j => ∃ (k : Nat) (m : Int), k ≤ xs.length ∧ i = .int .i64 k ∧ j = intV m ∧ m ∈ xs ∧ ∀ x ∈ xs.take k, m ≤ x) (fun i _ => xs.length - (intOf i).toNat)
  case atStart => exact ⟨1, x0, h0, rfl, rfl, HM0.out, HD0.out⟩
  case round =>
    obtain ⟨k, m, hk, rfl, rfl, hm, hle⟩ := hrel
    have HM := Lib.hid hm
    have HLE := Lib.hid hle
    clear hm hle
    by_cases hlt : k < xs.length
    · obtain ⟨b', off', e', _, q2⟩ := HV.out.elem hlt
      cases e'
      have HT := Lib.hid (List.take_succ_eq_append_getElem hlt)
      have HX := Lib.hid (mem_getElem hlt)
      obtain ⟨x, hx⟩ : ∃ x, xs[k] = x := ⟨_, rfl⟩
      rw [hx] at q2 HT HX
      clear hx
      by_cases hmx : m ≤ x
      · go_wp2
        all_goals
          go_round
          case rel =>
            refine ⟨k + 1, m, by omega, by go_num, by first | rfl | (congr 1; omega), HM.out, ?_⟩
            rw [HT.out]
            intro y hy
            rcases List.mem_append.1 hy with h' | h'
            · exact HLE.out y h'
            · rw [List.mem_singleton.1 h']; exact hmx
          case measure => simp [intOf]; omega
      · go_wp2
        all_goals
          go_round
          case rel =>
            refine ⟨k + 1, x, by omega, by go_num, by first | rfl | (congr 1; omega), HX.out, ?_⟩
            rw [HT.out]
            intro y hy
            rcases List.mem_append.1 hy with h' | h'
            · have := HLE.out y h'; omega
            · rw [List.mem_singleton.1 h']; exact Int.le_refl _
          case measure => simp [intOf]; omega
    · obtain rfl : k = xs.length := by omega
      have HLE2 := Lib.hid (show ∀ x ∈ xs, m ≤ x by have := HLE.out; rwa [List.take_length] at this)
      go_wp2
      go_ret
      exact ⟨⟨m, rfl, HM.out, HLE2.out⟩, rfl⟩

/-- what a path costs, and whether it is one -/
def costR (ls : List LkV) (s t : Int) (path : List Int) : Int × Bool := match walkA ls s 0 path with
  | none => (0, false)
  | some (x, c) => (c, decide (x = t))
theorem ret_ib {r : Int × Bool} {x : Int} {b : Bool} (h : r = (x, b)) : Ending.returned (.tuple #[intV x, .bool b]) = .returned (.tuple #[intV r.1, .bool r.2]) := by rw [h]
set_option maxHeartbeats 1000000 in
theorem costOf_any {n : Int} (ls : List LkV) (hg : Gr n ls) (s t : Int) (path : List Int) (hp : path.length ≤ 4096) (r : Int × Bool) (hr : costR ls s t path = r) (v u : Value) (w : World) (hv : LinksAt w v ls) (hu : IntsAt w u path) :
    Calls Try.prog 46 #[v, intV s, intV t, u] w fun e w' => e = .returned (.tuple #[intV r.1, .bool r.2]) ∧ w = w' := by
  have HV := Lib.hid hv
  have HU := Lib.hid hu
  have hlen := hg.len
  obtain ⟨a, cap, rfl⟩ := hv.slice
  obtain ⟨b, cap2, rfl⟩ := hu.slice
  have HG := Lib.hid hg
  rw [costR] at hr
  have HR := Lib.hid hr
  clear hv hu hg hr
  go_enter Try.func46, Try.ntmps46
  go_wp2
  go_loop [17, 10, 11] (fun i c x => ∃ (k : Nat) (cost node : Int), k ≤ path.length ∧ i = .int .i64 k ∧ c = intV cost ∧ x = intV node ∧ 0 ≤ cost ∧ cost ≤ k * 1073741824 ∧ walkA ls node cost (path.drop k) = walkA ls s 0 path) (fun i _ _ => path.length - (intOf i).toNat)
  case atStart => exact ⟨0, 0, s, Nat.zero_le _, rfl, rfl, rfl, Int.le_refl _, by omega, rfl⟩
  case round =>
    obtain ⟨k, cost, node, hk, rfl, rfl, rfl, hc0, hc1, he⟩ := hrel
    by_cases hlt : k < path.length
    · obtain ⟨b, off, rfl, hbb, q1⟩ := HU.out.elem hlt
      rw [List.drop_eq_getElem_cons hlt, walkA] at he
      obtain ⟨i, hi⟩ : ∃ i, path[k] = i := ⟨_, rfl⟩
      rw [hi] at q1 he
      clear hi
      by_cases h1 : i < 0
      · rw [if_neg (by omega)] at he
        have HE := Lib.hid he.symm
        clear he
        go_wp2
        go_ret2
        exact ⟨ret_ib (by rw [← HR.out, HE.out]), rfl⟩
      by_cases h2 : (ls.length : Int) ≤ i
      · rw [if_neg (by omega)] at he
        have HE := Lib.hid he.symm
        clear he
        go_wp2
        go_ret2
        exact ⟨ret_ib (by rw [← HR.out, HE.out]), rfl⟩
      obtain ⟨j, rfl⟩ : ∃ j : Nat, i = j := ⟨i.toNat, by omega⟩
      have hj : j < ls.length := by omega
      have hji : (j : Int) < (ls.length : Int) := by omega
      obtain ⟨bl, ol, rfl, hbl, p1, p2, p3⟩ := HV.out.elem hj
      have hk0 := (HG.out.lk hj).c0
      have hk1 := (HG.out.lk hj).c1
      rw [Int.toNat_natCast] at he
      obtain ⟨⟨f, t', c⟩, hx⟩ : ∃ x, lk ls j = x := ⟨_, rfl⟩
      rw [hx] at p1 p2 p3 hk0 hk1 he
      dsimp only at p1 p2 p3 hk0 hk1 he
      clear hx
      by_cases h3 : f = node
      · rw [if_pos ⟨by omega, by omega, h3⟩] at he
        subst h3
        have HE := Lib.hid he
        clear he
        go_wp2
        go_round
        case rel => exact ⟨k + 1, cost + c, t', by omega, by go_num, rfl, rfl, by omega, by omega, HE.out⟩
        case measure => simp [intOf]; omega
      · rw [if_neg (by omega)] at he
        have HE := Lib.hid he.symm
        clear he
        go_wp2
        go_ret2
        exact ⟨ret_ib (by rw [← HR.out, HE.out]), rfl⟩
    · obtain rfl : k = path.length := by omega
      rw [List.drop_length, walkA] at he
      have HE := Lib.hid he.symm
      clear he
      go_wp2
      go_ret2
      refine ⟨ret_ib (by rw [← HR.out, HE.out]; simp only [Prod.mk.injEq, true_and]; rw [Bool.eq_iff_iff]; simp), rfl⟩
theorem pt_get {pots : List Int} {k : Nat} (h : k < pots.length) : pt pots (k : Int) = pots[k] := by
  rw [pt, Int.toNat_natCast, List.getD_eq_getElem?_getD, List.getElem?_eq_getElem h]; rfl
end Go.Proofs.Ytipcelgoachjjaa
