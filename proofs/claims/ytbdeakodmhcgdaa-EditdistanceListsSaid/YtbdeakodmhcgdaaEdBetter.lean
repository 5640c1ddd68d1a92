/- The better of two chains. -/
import Derived.Test.YtbdeakodmhcgdaaEdChainS
import Derived.Test.YtbdeakodmhcgdaaEdOrder
import Derived.Deep.RegionHeld3
import Derived.LaidEqlPtr
namespace Go.Proofs.Ytbdeakodmhcgdaa
set_option linter.unusedSimpArgs false
set_option linter.unusedVariables false
set_option maxRecDepth 100000
open Go.RowKit Go.Deep

theorem compare_any (a b : ByteArray) (z : Int) (hz : cmpB a.data.toList b.data.toList = z) (w : World) :
    Calls Try.prog 80 #[.string a, .string b] w fun e w' => e = .returned (.int .i64 z) ∧ w = w' := by
  subst hz
  exact (Try.strings_Compare a b w).mono fun _ _ h => ⟨h.1, h.2.symm⟩
theorem inj_S1 : ∀ (x y : ByteArray) (u v u' v' : Value), cellsS1 x ++ [u, v] = cellsS1 y ++ [u', v'] → x = y ∧ u = u' := by
  intro x y u v u' v' h
  simp [cellsS1] at h
  exact ⟨h.1, h.2.1⟩
theorem llt_head {x y : ByteArray} {a b : List ByteArray} (z : Int) (hz : cmpB x.data.toList y.data.toList = z) : llt ltB (y :: b) (x :: a) = if z = 0 then llt ltB b a else decide (0 < z) := by
  have hn := cmpB_neg x.data.toList y.data.toList
  rw [llt, ltB, hn, hz]
  by_cases e : z = 0
  · have e2 := ba_same (cmpB_zero _ _ (hz.trans e))
    subst e2
    rw [if_pos e]; simp [e]
  · rw [if_neg e]
    have : y ≠ x := fun h => by subst h; rw [cmpB_refl] at hz; exact e hz.symm
    simp [this]

theorem neq_same {P : Program} {w : World} {tp te : TypeId} {j : TypeInfo} (p : Option Addr) (hp : P.underlying tp = some (.pointer te)) (hte : P.info? te = some j) :
    (binOp .neq tp (.pointer p) (.pointer p)).run P w = .ok (.bool false) w := by
  have h : ∀ d : Nat, (Op.equalIn (d + 1) tp (.pointer p) (.pointer p)).run P w = .ok true w := fun d => by
    cases p with
    | none => simp [Op.equalIn, run_underlying hp]
    | some a => simp [Op.equalIn, run_underlying hp, sizeOf, typeInfo, hte, run_sameAddr_same]
  simp only [binOp]
  simp [Op.equal, Op.maxDepth, h 9999]
theorem neq_other {P : Program} {w : World} {tp te : TypeId} {j : TypeInfo} {a b : Addr} {ca cb : Array Value} {ta tb : TypeId} (hp : P.underlying tp = some (.pointer te)) (hte : P.info? te = some j) (hsz : j.size ≠ 0)
    (hne : a ≠ b) (ha : w.heap[a.block]? = some (.cells ca ta (0, 0))) (hb : w.heap[b.block]? = some (.cells cb tb (0, 0))) :
    (binOp .neq tp (.pointer (some a)) (.pointer (some b))).run P w = .ok (.bool true) w := by
  have h : ∀ d : Nat, (Op.equalIn (d + 1) tp (.pointer (some a)) (.pointer (some b))).run P w = .ok false w := fun d => by
    simp [Op.equalIn, run_underlying hp, sizeOf, typeInfo, hte, hsz, run_sameAddr_other w hne ha hb]
  simp only [binOp]
  simp [Op.equal, Op.maxDepth, h 9999]
theorem info_chS : (Try.prog.info? 101).map (fun i => i.size) = some 3 := by kernel_rfl

set_option maxHeartbeats 4000000 in
theorem better_any (p q : Option Addr) (c d : List ByteArray) (w : World) (hc : ChainS w p c) (hd : ChainS w q d) :
    Calls Try.prog 62 #[.pointer p, .pointer q] w fun e w' => ∃ r, e = .returned (.pointer r) ∧ ChainS w' r (betterL c d) ∧ Below w.heap.size w w' := by
  obtain ⟨ji, hji, hjs⟩ := Option.map_eq_some_iff.1 info_chS
  have HC := Lib.hid hc
  have HD := Lib.hid hd
  obtain ⟨n, hn⟩ : ∃ n, c.length = n := ⟨_, rfl⟩
  obtain ⟨m, hm⟩ : ∃ m, d.length = m := ⟨_, rfl⟩
  have S1 := Lib.hid (sizeS_at p c n hn w hc)
  have S2 := Lib.hid (sizeS_at q d m hm w hd)
  clear hc hd
  by_cases hne : n = m
  · subst hne
    have hbl : betterL c d = if llt ltB d c then d else c := by rw [betterL, hn, hm, if_neg (by simp)]
    obtain ⟨R, hR⟩ : ∃ R, betterL c d = R := ⟨_, rfl⟩
    rw [hR] at hbl ⊢
    have HR := Lib.hid hbl
    clear hR
    have hcd : c.length = d.length := hn.trans hm.symm
    clear hbl hn hm
    go_enter Try.func62, Try.ntmps62
    go_wp2_with fail
    refine S1.out.mono ?_
    rintro e w1 ⟨rfl, rfl⟩
    go_wp2_with fail
    refine S2.out.mono ?_
    rintro e w1 ⟨rfl, rfl⟩
    go_wp2_with fail
    go_loopg [5, 6] c.length (fun k vx vy wr => ∃ (pre lx ly : List ByteArray) (px py : Option Addr), pre ++ lx = c ∧ pre ++ ly = d ∧ vx = .pointer px ∧ vy = .pointer py ∧ ChainS w px lx ∧ ChainS w py ly ∧ Below w.heap.size w wr ∧ lx.length ≤ k)
    case atStart => exact ⟨[], c, d, p, q, rfl, rfl, rfl, rfl, HC.out, HD.out, Below.refl _ _, Nat.le_refl _⟩
    case round =>
      obtain ⟨pre, lx, ly, px, py, e1, e2, rfl, rfl, hx, hy, hB, hk⟩ := hrel
      have HB := Lib.hid hB
      by_cases hp : px = py
      · subst hp
        have hl := ChainAt.same inj_S1 hx hy
        subst hl
        have hcd2 : llt ltB d c = false := by rw [← e1, ← e2, llt_irr]
        have hRc : R = c := by have := HR.out; rwa [if_neg (by rw [hcd2]; simp)] at this
        have HR2 := Lib.hid (show ChainS wr p R by rw [hRc]; exact HC.out.below hB)
        clear hcd2 hRc
        have hq : ∀ W, (binOp .neq 75 (.pointer px) (.pointer px)).run Try.prog W = .ok (.bool false) W := fun W => neq_same px Try.underlying75 hji
        clear hx hy hB e1 e2
        go_wp2
        go_ret
        exact ⟨_, rfl, HR2.out, HB.out⟩
      · have hxy : lx.length = ly.length := by
          have h1 := congrArg List.length e1
          have h2 := congrArg List.length e2
          rw [List.length_append] at h1 h2
          omega
        cases lx with
        | nil =>
          obtain rfl : px = none := hx
          have : ly = [] := List.length_eq_zero_iff.1 hxy.symm
          subst this
          exact absurd (show Option.none = py from hy.symm) hp
        | cons x lx =>
          cases ly with
          | nil => simp at hxy
          | cons y ly =>
            obtain ⟨bx0, qx0, ex0, hxh, _⟩ := id hx
            obtain ⟨bY0, qy0, ey0, hyh, _⟩ := id hy
            obtain ⟨bx, qx, rfl, hbx, hx2, hcx⟩ := hx.cell
            obtain ⟨bY, qy, rfl, hbY, hy2, hcy⟩ := hy.cell
            obtain rfl : bx = bx0 := by simpa using ex0
            obtain rfl : bY = bY0 := by simpa using ey0
            have hq : (binOp .neq 75 (.pointer (some ⟨bx, 0, none⟩)) (.pointer (some ⟨bY, 0, none⟩))).run Try.prog wr = .ok (.bool true) wr :=
              neq_other Try.underlying75 hji (by rw [hjs]; decide) (fun e => hp (by rw [e])) ((hB.block bx hbx).trans hxh) ((hB.block bY hbY).trans hyh)
            have hS : ∀ W, Below w.heap.size w W → W.cell? ⟨bx, 0, none⟩ = some (.string x) ∧ W.cell? ⟨bY, 0, none⟩ = some (.string y) := fun W hW =>
              ⟨(hW.cell (p := ⟨bx, 0, none⟩) hbx).trans (hcx 0 _ (by simp [cellsS1])), (hW.cell (p := ⟨bY, 0, none⟩) hbY).trans (hcy 0 _ (by simp [cellsS1]))⟩
            have HS := Lib.hid hS
            have n1 : wr.cell? ⟨bx, 1, none⟩ = some (.pointer qx) := (hB.cell (p := ⟨bx, 1, none⟩) hbx).trans (hcx 1 _ (by simp [cellsS1]))
            have n2 : wr.cell? ⟨bY, 1, none⟩ = some (.pointer qy) := (hB.cell (p := ⟨bY, 1, none⟩) hbY).trans (hcy 1 _ (by simp [cellsS1]))
            obtain ⟨z, hz⟩ : ∃ z, cmpB x.data.toList y.data.toList = z := ⟨_, rfl⟩
            have hzx := Lib.hid (fun (e : z = 0) => ba_same (cmpB_zero _ _ (hz.trans e)))
            have hll : llt ltB d c = llt ltB (y :: ly) (x :: lx) := by rw [← e1, ← e2, llt_pre]
            rw [llt_head z hz] at hll
            have HLL := Lib.hid hll
            have CMP := Lib.hid (compare_any x y z hz)
            have H2 := Lib.hid (And.intro hx2 hy2)
            have HE := Lib.hid (And.intro e1 e2)
            clear hS hx hy hx2 hy2 hcx hcy hll hz e1 e2 hB hxh hyh ex0 ey0
            go_wp2_with fail
            clear hq
            go_region_held3 (fun w' => w'.cell? ⟨bx, 0, none⟩ = some (.string x) ∧ w'.cell? ⟨bY, 0, none⟩ = some (.string y))
              (first | exact HS.out _ HB.out.drew)
              (first | (go_at_call 80; refine (CMP.out _).mono ?_; rintro e w2 ⟨rfl, rfl⟩))
            rcases (show z < 0 ∨ z = 0 ∨ 0 < z by omega) with hz | hz | hz
            · have hRc : R = c := by have := HR.out; rw [HLL.out] at this; simpa [show ¬ z = 0 by omega, show ¬ 0 < z by omega] using this
              have HR2 := Lib.hid (show ChainS wr.drew p R by rw [hRc]; exact HC.out.below HB.out.drew)
              clear hRc
              go_wp2
              go_ret
              exact ⟨_, rfl, HR2.out, HB.out.drew⟩
            · subst hz
              have hxe := hzx.out rfl
              subst hxe
              go_wp2_with fail
              go_region
              go_wp2
              go_roundg lx.length
              case measure => simp at hk; omega
              case rel => exact ⟨pre ++ [x], lx, ly, qx, qy, by rw [List.append_assoc]; exact HE.out.1, by rw [List.append_assoc]; exact HE.out.2, rfl, rfl, H2.out.1, H2.out.2, HB.out.drew.drew, Nat.le_refl _⟩
            · have hRc : R = d := by have := HR.out; rw [HLL.out] at this; simpa [show ¬ z = 0 by omega, hz] using this
              have HR2 := Lib.hid (show ChainS wr.drew q R by rw [hRc]; exact HD.out.below HB.out.drew)
              clear hRc
              go_wp2
              go_ret
              exact ⟨_, rfl, HR2.out, HB.out.drew⟩
  · have hbl : betterL c d = if m < n then c else d := by rw [betterL, hn, hm, if_pos hne]
    by_cases hlt : m < n
    · rw [hbl, if_pos hlt]
      clear hbl hn hm
      go_enter Try.func62, Try.ntmps62
      go_wp2_with fail
      refine S1.out.mono ?_
      rintro e w1 ⟨rfl, rfl⟩
      go_wp2_with fail
      refine S2.out.mono ?_
      rintro e w1 ⟨rfl, rfl⟩
      go_wp2_with fail
      refine S1.out.mono ?_
      rintro e w1 ⟨rfl, rfl⟩
      go_wp2_with fail
      refine S2.out.mono ?_
      rintro e w1 ⟨rfl, rfl⟩
      go_wp2
      go_ret
      exact ⟨_, rfl, HC.out, Below.refl _ _⟩
    · rw [hbl, if_neg hlt]
      clear hbl hn hm
      go_enter Try.func62, Try.ntmps62
      go_wp2_with fail
      refine S1.out.mono ?_
      rintro e w1 ⟨rfl, rfl⟩
      go_wp2_with fail
      refine S2.out.mono ?_
      rintro e w1 ⟨rfl, rfl⟩
      go_wp2_with fail
      refine S1.out.mono ?_
      rintro e w1 ⟨rfl, rfl⟩
      go_wp2_with fail
      refine S2.out.mono ?_
      rintro e w1 ⟨rfl, rfl⟩
      go_wp2
      go_ret
      exact ⟨_, rfl, HD.out, Below.refl _ _⟩
end Go.Proofs.Ytbdeakodmhcgdaa
