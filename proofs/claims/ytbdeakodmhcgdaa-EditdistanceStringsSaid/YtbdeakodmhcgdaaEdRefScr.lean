/- The reference's Script. -/
import Derived.Test.YtbdeakodmhcgdaaEdScr3
import Derived.Laws.AppendOwnNone
namespace Go.Proofs.Ytbdeakodmhcgdaa
set_option linter.unusedSimpArgs false
set_option linter.unusedVariables false
set_option maxRecDepth 100000
open Go.RowKit Go.Deep

/-- what is owned in a world is owned in each that keeps its blocks -/
theorem own_keep {W W' : World} {base : Nat} {e : TypeId} {size n : Nat} {v : Value} {xs : List Value} (h : W.ownsRow base e size v n xs) (hB : Below W.heap.size W W') : W'.ownsRow base e size v n xs := by
  refine ⟨h.1, ?_⟩
  rcases h.2 with hn | ⟨g, cap, cur, rfl, hb, hg, rest⟩
  · exact .inl hn
  · refine .inr ⟨g, cap, cur, rfl, hb, ?_, rest⟩
    rw [hB.block g ((World.ownsRow.lt h) g rfl).2]; exact hg
/-- a literal's row, seen behind what follows -/
theorem own_lit (w : World) (cs : Array Value) (e : TypeId) (size base g n : Nat) (hg : w.heap.size = g) (hb : base ≤ w.heap.size) (hm : n ≤ maxLen) (hs : cs.size = n * size) {W' : World} (hB : Below (w.alloc (.cells cs e)).heap.size (w.alloc (.cells cs e)) W') :
    W'.ownsRow base e size (.slice (some ⟨g, 0, none⟩) n n) n cs.toList := by
  subst hg
  exact own_keep (World.ownsRow_lit w cs n hb hm hs) hB
/-- append(s, x...) where the call owns both -/
theorem wpList_append_both {P : Program} {w : World} {ops : Array Oper} {rest : List Oper} {o : Oper} {a : Act} {Q : Exit → Act → World → Prop} (hgd : o.guard = none) (s x : Operand) (t : TypeId)
    (ho : o.op = .call { callee := .builtin .append, args := #[s, x], argTypes := #[t, t] })
    (base : Nat) (e : TypeId) (i : TypeInfo) (z : Value) (size bytes : Nat) (ht : P.underlying t = some (.slice e)) (hi : P.info? e = some i) (hz : i.zero = some z)
    (hsize : i.size = size) (hby : i.bytes = bytes) (hzs : z.cells.size = size) (hsz : 0 < size)
    (v : Value) (n : Nat) (xs : List Value) (hs : a.eval s = v) (hown : w.ownsRow base e size v n xs)
    (vx : Value) (m : Nat) (ys : List Value) (hx : a.eval x = vx) (hownx : w.ownsRow base e size vx m ys) (h1 : ∀ u ∈ ys, u.oneCell' = true)
    (h63 : n + m ≤ maxLen) (hbytes : (n + m) * bytes ≤ 140737488355328) (hbase : base ≤ w.heap.size)
    (h : ∀ v' w', w'.ownsRow base e size v' (n + m) (xs ++ ys) → w.grownBy w' v.ownBlock → wpList P ops Q rest (a.put o.dst v') w') : wpList P ops Q (o :: rest) a w := by
  rcases hownx.2 with ⟨rfl, rfl⟩ | ⟨g, cap, cur, rfl, _⟩
  · have hy : ys = [] := by
      have := hownx.1
      rw [Nat.zero_mul] at this
      exact List.length_eq_zero_iff.1 this
    subst hy
    exact wpList_append_own_none hgd s x t ho base e i size ht hi v n xs hs hown hx (h v w (by rw [List.append_nil]; exact hown) (World.grownBy.refl _ _))
  · exact wpList_append_own _ hgd s x t ho base e i z size bytes ht hi hz hsize hby hzs hsz v n xs hs hown ⟨g, 0, none⟩ m cap ys hx hownx.1 (hownx.cells rfl) h1 h63 hbytes hbase (fun v' w' k1 k2 _ => h v' w' k1 k2)
theorem flat_one (l : List EdV) : ∀ u ∈ l.flatMap cellsE3, u.oneCell' = true := by
  intro u hu
  obtain ⟨e, _, he⟩ := List.mem_flatMap.1 hu
  simp only [cellsE3, List.mem_cons, List.not_mem_nil, or_false] at he
  rcases he with rfl | rfl | rfl <;> rfl
/-- a table that is read -/
def TabAt (W : World) (v : Value) (n m : Nat) (D : Nat → Nat → Int) : Prop := ∃ g cap, ∃ bs : Nat → Nat, v = .slice (some ⟨g, 0, none⟩) n cap ∧ g < W.heap.size ∧ ∀ i, i < n → W.cell? ⟨g, i, none⟩ = some (hdrV m (bs i)) ∧ bs i < W.heap.size ∧ ∀ j, j < m → W.cell? ⟨bs i, j, none⟩ = some (intV (D i j))
theorem TabAt.of_tab {w wi : World} {v : Value} {n m : Nat} {bs : Nat → Nat} {D : Nat → Nat → Int} (h : TabIn w wi v n m bs D) (hn : 0 < n) : TabAt wi v n m D := by
  obtain ⟨g, cap, hv, hc⟩ := h.hdr 0 hn
  refine ⟨g, cap, bs, hv, World.block_lt_of_cell? wi _ hc, fun i hi => ⟨?_, (h.done i hi).2.lt, fun j hj => (h.done i hi).2.cell hj⟩⟩
  obtain ⟨g', cap', hv', hc'⟩ := h.hdr i hi
  rw [hv] at hv'
  obtain ⟨rfl, _⟩ : g = g' ∧ cap = cap' := by simpa using hv'
  exact hc'
theorem DI_bytes (a b : ByteArray) (i j : Nat) : DI (a.data.toList.map oneB) (b.data.toList.map oneB) i j = DG a.data.toList b.data.toList i j := by
  rw [DI, DG, ← List.map_take, ← List.map_take, lev_map oneB one_inj]
theorem rev_step {x : EdV} {S S' l R : List EdV} (hS : S = x :: S') (h : S.reverse ++ l = R) : S'.reverse ++ (x :: l) = R := by
  rw [hS, List.reverse_cons, List.append_assoc] at h; exact h

theorem base_below {w wr W : World} (h : Below w.heap.size w wr) (k : Below wr.heap.size wr W) : Below w.heap.size w W := below_seq h k h.size

set_option maxHeartbeats 1000000 in
theorem refScript_long (a b : ByteArray) (ha : a.size ≤ 1000000) (hb : b.size ≤ 1000000) (hlong : 256 < a.size ∨ 256 < b.size) (w : World) :
    Calls Try.prog 17 #[.string a, .string b] w (ScrPost [] 4 w) := by
  rcases (show (256 : Int) < a.size ∨ ((a.size : Int) ≤ 256 ∧ (256 : Int) < b.size) by omega) with h1 | ⟨h1, h2⟩
  all_goals
    clear hlong
    go_enter Try.func17, Try.ntmps17
    go_wp2
    go_ret2
    exact ⟨_, rfl, ⟨Option.none, 0, rfl, fun h => absurd h (by simp)⟩, Below.refl _ _⟩

set_option maxHeartbeats 16000000 in
theorem refScript_any (a b : ByteArray) (ha : a.size ≤ 256) (hb : b.size ≤ 256) (w : World) :
    Calls Try.prog 17 #[.string a, .string b] w (ScrPost (SR a b a.size b.size).reverse 0 w) := by
  obtain ⟨i0', hi, hz0, hz1, hz2⟩ := info_parts info_edit
  have haI : (a.size : Int) ≤ 256 := by omega
  have hbI : (b.size : Int) ≤ 256 := by omega
  obtain ⟨R, hR⟩ : ∃ R, (SR a b a.size b.size).reverse = R := ⟨_, rfl⟩
  have HR := Lib.hid hR
  rw [hR]
  clear hR
  go_enter Try.func17, Try.ntmps17
  go_wp2_with fail
  refine (refBytes_any a (by omega) _).mono ?_
  rintro e w1 ⟨v1, rfl, o1, b1⟩
  have S1 := Lib.hid (StrsAt.of_own o1)
  have B1 := Lib.hid b1
  clear o1 b1
  go_wp2_with fail
  refine (refBytes_any b (by omega) _).mono ?_
  rintro e w2 ⟨v2, rfl, o2, b2⟩
  have S2 := Lib.hid (StrsAt.of_own o2)
  have S1' := Lib.hid (S1.out.below b2)
  have B2 := Lib.hid (below_seq B1.out b2 B1.out.size)
  clear o2 b2
  go_wp2_with fail
  refine (refTable_any _ _ _ _ _ S1'.out S2.out (by rw [List.length_map, size_list]; omega) (by rw [List.length_map, size_list]; omega)).mono ?_
  rintro e w3 ⟨v, bs, rfl, hT⟩
  have B3 := Lib.hid (below_seq B2.out hT.below B2.out.size)
  have hTA := TabAt.of_tab hT (by omega)
  rw [List.length_map, List.length_map, size_list, size_list] at hTA
  obtain ⟨g, cap, bs, rfl, hg, hcs⟩ := hTA
  obtain ⟨n1, hn1⟩ : ∃ n1, a.size + 1 = n1 := ⟨_, rfl⟩
  obtain ⟨m1, hm1⟩ : ∃ m1, b.size + 1 = m1 := ⟨_, rfl⟩
  rw [hn1, hm1] at hcs
  rw [hn1]
  have HC := Lib.hid hcs
  have HN := Lib.hid (And.intro hn1 hm1)
  clear hT hcs
  go_wp2
  go_loopw [7, 8, 9] (fun vl vi vj wr => ∃ (i j : Nat) (l : List EdV), i ≤ a.size ∧ j ≤ b.size ∧ vi = .int .i64 i ∧ vj = .int .i64 j ∧ (SR a b i j).reverse ++ l = R ∧ wr.ownsRow w.heap.size 38 3 vl l.length (l.flatMap cellsE3) ∧ Below w.heap.size w wr ∧ Below w3.heap.size w3 wr)
    (fun _ vi vj _ => (intOf vi).toNat + (intOf vj).toNat)
  case atStart => exact ⟨a.size, b.size, [], Nat.le_refl _, Nat.le_refl _, rfl, rfl, by rw [List.append_nil]; exact HR.out, ⟨rfl, .inl ⟨rfl, rfl⟩⟩, B3.out, Below.refl _ _⟩
  case round =>
    obtain ⟨i, j, l, hia, hjb, rfl, rfl, hS, hO, hB, hB3⟩ := hrel
    have HS := Lib.hid hS
    have HO := Lib.hid hO
    have HB := Lib.hid hB
    have HB3 := Lib.hid hB3
    have hsz := hB.size
    have hll : l.length ≤ 1000000 := by
      have h1 := congrArg List.length hS
      have h2 := congrArg List.length HR.out
      have h3 := SR_short a b a.size b.size ha hb (Nat.le_refl _) (Nat.le_refl _)
      rw [List.length_append, List.length_reverse] at h1
      rw [List.length_reverse] at h2
      omega
    have hBX : Below w3.heap.size w3 (wr.alloc (.cells #[.int .i64 0, .int .i64 0, .string ⟨#[]⟩] 38)) := hB3.alloc hB3.size _
    have HX := Lib.hid (show ∀ k, k < n1 → ((wr.alloc (.cells #[.int .i64 0, .int .i64 0, .string ⟨#[]⟩] 38)).cell? ⟨g, k, none⟩ = some (hdrV m1 (bs k)) ∧ ∀ c, c < m1 → (wr.alloc (.cells #[.int .i64 0, .int .i64 0, .string ⟨#[]⟩] 38)).cell? ⟨bs k, c, none⟩ = some (intV (DG a.data.toList b.data.toList k c))) from
      fun k hk => ⟨(hBX.cell (p := ⟨g, k, none⟩) hg).trans (HC.out k hk).1, fun c hc => ((hBX.cell (p := ⟨bs k, c, none⟩) (HC.out k hk).2.1).trans ((HC.out k hk).2.2 c hc)).trans (congrArg (fun z => some (intV z)) (DI_bytes a b k c))⟩)
    have hin : i < n1 := by omega
    have hjn : j < m1 := by omega
    have hjnI : (j : Int) < (m1 : Int) := by omega
    have hinI : (i : Int) < (n1 : Int) := by omega
    have hwi1 : IntKind.i64.wrap (i : Int) = (i : Int) := IntWalk.i64_in _ (by omega)
    have hwj1 : IntKind.i64.wrap (j : Int) = (j : Int) := IntWalk.i64_in _ (by omega)
    have FD := Lib.hid (And.intro (SR_len a b) (And.intro (fun i j (hi : i < a.size) (hj : j < b.size) => DG_same a.data.toList b.data.toList i j (by rw [size_list]; exact hi) (by rw [size_list]; exact hj)) (fun i j (hi : i < a.size) (hj : j < b.size) => DG_other a.data.toList b.data.toList i j (by rw [size_list]; exact hi) (by rw [size_list]; exact hj))))
    clear hS hO hB hB3 hBX
    by_cases hi0' : 0 < i
    · by_cases hj0' : 0 < j
      · obtain ⟨i0, hi0⟩ : ∃ i0, i0 + 1 = i := ⟨i - 1, by omega⟩
        obtain ⟨j0, hj0⟩ : ∃ j0, j0 + 1 = j := ⟨j - 1, by omega⟩
        have hii : (i : Int) - 1 = (i0 : Int) := by omega
        have hjj : (j : Int) - 1 = (j0 : Int) := by omega
        have hj1 : (j0 : Int) + 1 = (j : Int) := by omega
        have hwi : IntKind.i64.wrap (i0 : Int) = (i0 : Int) := IntWalk.i64_in _ (by omega)
        have hwj : IntKind.i64.wrap (j0 : Int) = (j0 : Int) := IntWalk.i64_in _ (by omega)
        have hipos : (0 : Int) < i := by omega
        have hjpos : (0 : Int) < j := by omega
        have hi0a : i0 < a.size := by omega
        have hj0b : j0 < b.size := by omega
        have hi0aI : (i0 : Int) < (a.size : Int) := by omega
        have hj0bI : (j0 : Int) < (b.size : Int) := by omega
        have hi0n : i0 < n1 := by omega
        have hj0m : j0 < m1 := by omega
        have hi0nI : (i0 : Int) < (n1 : Int) := by omega
        have hj0mI : (j0 : Int) < (m1 : Int) := by omega
        have hjj0 : j0 ≤ j := by omega
        have hstep := SR_step a b i0 j0 hi0a hj0b
        have hs1 := FD.out.2.1 i0 j0 hi0a hj0b
        have hs2 := FD.out.2.2 i0 j0 hi0a hj0b
        have e11 := FD.out.1 i j
        have e00 := FD.out.1 i0 j0
        have e01 := FD.out.1 i0 j
        have e10 := FD.out.1 i j0
        rw [at_list a i0 hi0a, at_list b j0 hj0b] at hs1 hs2
        rw [hi0, hj0] at hstep hs1 hs2
        obtain ⟨h1, r1⟩ := HX.out i hin
        obtain ⟨h0, r0⟩ := HX.out i0 hi0n
        have x11 := r1 j hjn
        have x10 := r1 j0 hj0m
        have x01 := r0 j hjn
        have x00 := r0 j0 hj0m
        obtain ⟨d11, g11⟩ : ∃ z, DG a.data.toList b.data.toList i j = z := ⟨_, rfl⟩
        obtain ⟨d10, g10⟩ : ∃ z, DG a.data.toList b.data.toList i j0 = z := ⟨_, rfl⟩
        obtain ⟨d01, g01⟩ : ∃ z, DG a.data.toList b.data.toList i0 j = z := ⟨_, rfl⟩
        obtain ⟨d00, g00⟩ : ∃ z, DG a.data.toList b.data.toList i0 j0 = z := ⟨_, rfl⟩
        have k11 := DG_bd a.data.toList b.data.toList i j (by rw [size_list]; omega) (by rw [size_list]; omega)
        have k10 := DG_bd a.data.toList b.data.toList i j0 (by rw [size_list]; omega) (by rw [size_list]; omega)
        have k01 := DG_bd a.data.toList b.data.toList i0 j (by rw [size_list]; omega) (by rw [size_list]; omega)
        have k00 := DG_bd a.data.toList b.data.toList i0 j0 (by rw [size_list]; omega) (by rw [size_list]; omega)
        rw [g11] at x11 e11 hs1 hs2 k11
        rw [g10] at x10 e10 hs2 k10
        rw [g01] at x01 e01 hs2 k01
        rw [g00] at x00 e00 hs1 hs2 k00
        obtain ⟨c1, hc1⟩ : ∃ z, a[i0] = z := ⟨_, rfl⟩
        obtain ⟨c2, hc2⟩ : ∃ z, b[j0] = z := ⟨_, rfl⟩
        obtain ⟨p1, hp1⟩ : ∃ z, bs i = z := ⟨_, rfl⟩
        obtain ⟨p0, hp0⟩ : ∃ z, bs i0 = z := ⟨_, rfl⟩
        rw [hp1] at h1 x11 x10
        rw [hp0] at h0 x01 x00
        have hw00 : IntKind.i64.wrap (d00 + 1) = d00 + 1 := IntWalk.i64_in _ (by omega)
        have hw01 : IntKind.i64.wrap (d01 + 1) = d01 + 1 := IntWalk.i64_in _ (by omega)
        rw [hc1, hc2] at hs1 hs2
        have hstep2 := hstep
        clear r1 r0 g11 g10 g01 g00
        by_cases heq : c1 = c2
        · have hq : ((c1.toNat : Int) == (c2.toNat : Int)) = true := by rw [heq]; simp
          have hd : d11 = d00 := hs1 heq
          subst hd
          have HSE := Lib.hid (show SR a b i j = SR a b i0 j0 by rw [hstep2, hc1, hc2, if_pos heq])
          clear hstep hstep2 hs1 hs2 e11 e00 e01 e10 k11 k10 k01 k00 hp1 hp0
          go_wp2_with fail
          go_region
          go_wp2
          go_roundw
          case rel => exact ⟨i0, j0, l, by omega, by omega, by go_num, by go_num, by rw [← HSE.out]; exact HS.out, own_keep HO.out (by repeat (first | exact Below.refl _ _ | refine Below.drew ?_ | refine Below.alloc ?_ (by simp; try omega) _ | refine Below.setCell ?_ (by simp) _)), base_below HB.out (by repeat (first | exact Below.refl _ _ | refine Below.drew ?_ | refine Below.alloc ?_ (by simp; try omega) _ | refine Below.setCell ?_ (by simp) _)), base_below HB3.out (by repeat (first | exact Below.refl _ _ | refine Below.drew ?_ | refine Below.alloc ?_ (by simp; try omega) _ | refine Below.setCell ?_ (by simp) _))⟩
          case measure => simp [intOf]; omega
        · have hq : ((c1.toNat : Int) == (c2.toNat : Int)) = false := by
            rw [Bool.eq_false_iff]; intro h
            exact heq (UInt8.toNat_inj.1 (by have := eq_of_beq h; omega))
          have hmin := hs2 heq
          by_cases c3 : (SR a b i0 j0).length ≤ min (SR a b i0 j).length (SR a b i j0).length
          · have q00 : (d11 == d00 + 1) = true := by simp; omega
            have HSR := Lib.hid (show SR a b i j = ⟨i0, 1, b.extract j0 j⟩ :: SR a b i0 j0 by rw [hstep2, hc1, hc2, if_neg heq, if_pos (by omega), ← hc2, ← ext_one b j0 hj0b, hj0])
            clear hstep hstep2 hs1 hs2 e11 e00 e01 e10 k11 k10 k01 k00 hp1 hp0 hmin
            go_wp2_with fail
            go_region
            go_wp2_with fail
            go_region
            go_wp2_with (at_builtin; refine wpList_append_both rfl _ _ 27 rfl w.heap.size 38 i0' (.agg #[.int .i64 0, .int .i64 0, .string ⟨#[]⟩]) 3 32 Try.underlying27 hi hz0 hz1 hz2 rfl (by decide) _ 1 _ rfl (own_lit (wr.alloc (.cells #[.int .i64 i0, .int .i64 1, .string (b.extract j0 j)] 38)) #[.int .i64 i0, .int .i64 1, .string (b.extract j0 j)] 38 3 w.heap.size (wr.heap.size + 1) 1 (by simp) (by simp; omega) (by decide) rfl (by repeat (first | exact Below.refl _ _ | refine Below.drew ?_ | refine Below.alloc ?_ (by simp; try omega) _ | refine Below.setCell ?_ (by simp) _))) _ l.length (l.flatMap cellsE3) rfl (own_keep HO.out (by repeat (first | exact Below.refl _ _ | refine Below.drew ?_ | refine Below.alloc ?_ (by simp; try omega) _ | refine Below.setCell ?_ (by simp) _))) (flat_one l) (by unfold maxLen; omega) (by omega) (by simp; omega) ?_; intro v' w9 hown' hgrow; have hW := Below.grown (base_below HB.out (by repeat (first | exact Below.refl _ _ | refine Below.drew ?_ | refine Below.alloc ?_ (by simp; try omega) _ | refine Below.setCell ?_ (by simp) _))) hgrow (by simp; omega) (fun k e => by cases e; simp; omega); have hW3 := Below.grown (base_below HB3.out (by repeat (first | exact Below.refl _ _ | refine Below.drew ?_ | refine Below.alloc ?_ (by simp; try omega) _ | refine Below.setCell ?_ (by simp) _))) hgrow (by have := HB3.out.size; simp; omega) (fun k e => by cases e; have := HB3.out.size; simp; omega); have HOW := Lib.hid hown'; have HBW := Lib.hid (And.intro hW hW3); clear hown' hgrow hW hW3)
            go_roundw
            case rel => exact ⟨i0, j0, ⟨i0, 1, (b.extract j0 j)⟩ :: l, by omega, by omega, by go_num, by go_num, rev_step HSR.out HS.out, by rw [List.length_cons, Nat.add_comm]; exact HOW.out, HBW.out.1, HBW.out.2⟩
            case measure => simp [intOf]; omega
          · by_cases c4 : (SR a b i0 j).length ≤ (SR a b i j0).length
            · have q00 : (d11 == d00 + 1) = false := by simp; omega
              have q01 : (d11 == d01 + 1) = true := by simp; omega
              have HSR := Lib.hid (show SR a b i j = ⟨i0, 1, ⟨#[]⟩⟩ :: SR a b i0 j by rw [hstep2, hc1, hc2, if_neg heq, if_neg (by omega), if_pos (by omega)])
              clear hstep hstep2 hs1 hs2 e11 e00 e01 e10 k11 k10 k01 k00 hp1 hp0 hmin
              go_wp2_with fail
              go_region
              go_wp2_with fail
              go_region
              go_wp2_with fail
              go_region
              go_wp2_with (at_builtin; refine wpList_append_both rfl _ _ 27 rfl w.heap.size 38 i0' (.agg #[.int .i64 0, .int .i64 0, .string ⟨#[]⟩]) 3 32 Try.underlying27 hi hz0 hz1 hz2 rfl (by decide) _ 1 _ rfl (own_lit (wr.alloc (.cells #[.int .i64 i0, .int .i64 1, .string ⟨#[]⟩] 38)) #[.int .i64 i0, .int .i64 1, .string ⟨#[]⟩] 38 3 w.heap.size (wr.heap.size + 1) 1 (by simp) (by simp; omega) (by decide) rfl (by repeat (first | exact Below.refl _ _ | refine Below.drew ?_ | refine Below.alloc ?_ (by simp; try omega) _ | refine Below.setCell ?_ (by simp) _))) _ l.length (l.flatMap cellsE3) rfl (own_keep HO.out (by repeat (first | exact Below.refl _ _ | refine Below.drew ?_ | refine Below.alloc ?_ (by simp; try omega) _ | refine Below.setCell ?_ (by simp) _))) (flat_one l) (by unfold maxLen; omega) (by omega) (by simp; omega) ?_; intro v' w9 hown' hgrow; have hW := Below.grown (base_below HB.out (by repeat (first | exact Below.refl _ _ | refine Below.drew ?_ | refine Below.alloc ?_ (by simp; try omega) _ | refine Below.setCell ?_ (by simp) _))) hgrow (by simp; omega) (fun k e => by cases e; simp; omega); have hW3 := Below.grown (base_below HB3.out (by repeat (first | exact Below.refl _ _ | refine Below.drew ?_ | refine Below.alloc ?_ (by simp; try omega) _ | refine Below.setCell ?_ (by simp) _))) hgrow (by have := HB3.out.size; simp; omega) (fun k e => by cases e; have := HB3.out.size; simp; omega); have HOW := Lib.hid hown'; have HBW := Lib.hid (And.intro hW hW3); clear hown' hgrow hW hW3)
              go_roundw
              case rel => exact ⟨i0, j, ⟨i0, 1, ⟨#[]⟩⟩ :: l, by omega, by omega, by go_num, by go_num, rev_step HSR.out HS.out, by rw [List.length_cons, Nat.add_comm]; exact HOW.out, HBW.out.1, HBW.out.2⟩
              case measure => simp [intOf]; omega
            · have q00 : (d11 == d00 + 1) = false := by simp; omega
              have q01 : (d11 == d01 + 1) = false := by simp; omega
              have HSR := Lib.hid (show SR a b i j = ⟨i, 0, b.extract j0 j⟩ :: SR a b i j0 by rw [hstep2, hc1, hc2, if_neg heq, if_neg (by omega), if_neg (by omega), ← hc2, ← ext_one b j0 hj0b, hj0])
              clear hstep hstep2 hs1 hs2 e11 e00 e01 e10 k11 k10 k01 k00 hp1 hp0 hmin
              go_wp2_with fail
              go_region
              go_wp2_with fail
              go_region
              go_wp2_with fail
              go_region
              go_wp2_with (at_builtin; refine wpList_append_both rfl _ _ 27 rfl w.heap.size 38 i0' (.agg #[.int .i64 0, .int .i64 0, .string ⟨#[]⟩]) 3 32 Try.underlying27 hi hz0 hz1 hz2 rfl (by decide) _ 1 _ rfl (own_lit (wr.alloc (.cells #[.int .i64 i, .int .i64 0, .string (b.extract j0 j)] 38)) #[.int .i64 i, .int .i64 0, .string (b.extract j0 j)] 38 3 w.heap.size (wr.heap.size + 1) 1 (by simp) (by simp; omega) (by decide) rfl (by repeat (first | exact Below.refl _ _ | refine Below.drew ?_ | refine Below.alloc ?_ (by simp; try omega) _ | refine Below.setCell ?_ (by simp) _))) _ l.length (l.flatMap cellsE3) rfl (own_keep HO.out (by repeat (first | exact Below.refl _ _ | refine Below.drew ?_ | refine Below.alloc ?_ (by simp; try omega) _ | refine Below.setCell ?_ (by simp) _))) (flat_one l) (by unfold maxLen; omega) (by omega) (by simp; omega) ?_; intro v' w9 hown' hgrow; have hW := Below.grown (base_below HB.out (by repeat (first | exact Below.refl _ _ | refine Below.drew ?_ | refine Below.alloc ?_ (by simp; try omega) _ | refine Below.setCell ?_ (by simp) _))) hgrow (by simp; omega) (fun k e => by cases e; simp; omega); have hW3 := Below.grown (base_below HB3.out (by repeat (first | exact Below.refl _ _ | refine Below.drew ?_ | refine Below.alloc ?_ (by simp; try omega) _ | refine Below.setCell ?_ (by simp) _))) hgrow (by have := HB3.out.size; simp; omega) (fun k e => by cases e; have := HB3.out.size; simp; omega); have HOW := Lib.hid hown'; have HBW := Lib.hid (And.intro hW hW3); clear hown' hgrow hW hW3)
              go_roundw
              case rel => exact ⟨i, j0, ⟨i, 0, (b.extract j0 j)⟩ :: l, by omega, by omega, by go_num, by go_num, rev_step HSR.out HS.out, by rw [List.length_cons, Nat.add_comm]; exact HOW.out, HBW.out.1, HBW.out.2⟩
              case measure => simp [intOf]; omega
      · have hj0 : j = 0 := by omega
        subst hj0
        obtain ⟨i0, hi0⟩ : ∃ i0, i0 + 1 = i := ⟨i - 1, by omega⟩
        have hii : (i : Int) - 1 = (i0 : Int) := by omega
        have hwi : IntKind.i64.wrap (i0 : Int) = (i0 : Int) := IntWalk.i64_in _ (by omega)
        have hipos : (0 : Int) < i := by omega
        have hi0n : i0 < n1 := by omega
        have hi0nI : (i0 : Int) < (n1 : Int) := by omega
        have hm0 : (0 : Int) < (m1 : Int) := by omega
        obtain ⟨h1, r1⟩ := HX.out i hin
        obtain ⟨h0, r0⟩ := HX.out i0 hi0n
        have x1 := r1 0 hjn
        have x0 := r0 0 hjn
        rw [DG_left _ _ i (by rw [size_list]; omega)] at x1
        rw [DG_left _ _ i0 (by rw [size_list]; omega)] at x0
        obtain ⟨p1, hp1⟩ : ∃ z, bs i = z := ⟨_, rfl⟩
        obtain ⟨p0, hp0⟩ : ∃ z, bs i0 = z := ⟨_, rfl⟩
        rw [hp1] at h1 x1
        rw [hp0] at h0 x0
        have hi1 : (i0 : Int) + 1 = (i : Int) := by omega
        have HSR := Lib.hid (show SR a b i 0 = ⟨i0, 1, ⟨#[]⟩⟩ :: SR a b i0 0 by rw [← hi0]; exact SR_col a b i0 (by omega))
        clear r1 r0 hp1 hp0
        go_wp2_with fail
        go_region
        go_wp2_with fail
        go_region
        go_wp2_with fail
        go_region
        go_wp2_with (at_builtin; refine wpList_append_both rfl _ _ 27 rfl w.heap.size 38 i0' (.agg #[.int .i64 0, .int .i64 0, .string ⟨#[]⟩]) 3 32 Try.underlying27 hi hz0 hz1 hz2 rfl (by decide) _ 1 _ rfl (own_lit (wr.alloc (.cells #[.int .i64 i0, .int .i64 1, .string ⟨#[]⟩] 38)) #[.int .i64 i0, .int .i64 1, .string ⟨#[]⟩] 38 3 w.heap.size (wr.heap.size + 1) 1 (by simp) (by simp; omega) (by decide) rfl (by repeat (first | exact Below.refl _ _ | refine Below.drew ?_ | refine Below.alloc ?_ (by simp; try omega) _ | refine Below.setCell ?_ (by simp) _))) _ l.length (l.flatMap cellsE3) rfl (own_keep HO.out (by repeat (first | exact Below.refl _ _ | refine Below.drew ?_ | refine Below.alloc ?_ (by simp; try omega) _ | refine Below.setCell ?_ (by simp) _))) (flat_one l) (by unfold maxLen; omega) (by omega) (by simp; omega) ?_; intro v' w9 hown' hgrow; have hW := Below.grown (base_below HB.out (by repeat (first | exact Below.refl _ _ | refine Below.drew ?_ | refine Below.alloc ?_ (by simp; try omega) _ | refine Below.setCell ?_ (by simp) _))) hgrow (by simp; omega) (fun k e => by cases e; simp; omega); have hW3 := Below.grown (base_below HB3.out (by repeat (first | exact Below.refl _ _ | refine Below.drew ?_ | refine Below.alloc ?_ (by simp; try omega) _ | refine Below.setCell ?_ (by simp) _))) hgrow (by have := HB3.out.size; simp; omega) (fun k e => by cases e; have := HB3.out.size; simp; omega); have HOW := Lib.hid hown'; have HBW := Lib.hid (And.intro hW hW3); clear hown' hgrow hW hW3)
        go_roundw
        case rel => exact ⟨i0, 0, ⟨i0, 1, ⟨#[]⟩⟩ :: l, by omega, by omega, by go_num, by go_num, rev_step HSR.out HS.out, by rw [List.length_cons, Nat.add_comm]; exact HOW.out, HBW.out.1, HBW.out.2⟩
        case measure => simp [intOf]; omega
    · by_cases hj0' : 0 < j
      · have hi0 : i = 0 := by omega
        subst hi0
        obtain ⟨j0, hj0⟩ : ∃ j0, j0 + 1 = j := ⟨j - 1, by omega⟩
        have hjj : (j : Int) - 1 = (j0 : Int) := by omega
        have hj1 : (j0 : Int) + 1 = (j : Int) := by omega
        have hwj : IntKind.i64.wrap (j0 : Int) = (j0 : Int) := IntWalk.i64_in _ (by omega)
        have hjpos : (0 : Int) < j := by omega
        have hjj0 : j0 ≤ j := by omega
        have HSR := Lib.hid (show SR a b 0 j = ⟨((0 : Nat) : Int), 0, b.extract j0 j⟩ :: SR a b 0 j0 by rw [← hj0, SR_row a b j0 (by omega), ext_one b j0 (by omega)]; rfl)
        go_wp2_with fail
        go_region
        go_wp2_with fail
        go_region
        go_wp2_with fail
        go_region
        go_wp2_with (at_builtin; refine wpList_append_both rfl _ _ 27 rfl w.heap.size 38 i0' (.agg #[.int .i64 0, .int .i64 0, .string ⟨#[]⟩]) 3 32 Try.underlying27 hi hz0 hz1 hz2 rfl (by decide) _ 1 _ rfl (own_lit (wr.alloc (.cells #[.int .i64 ((0 : Nat) : Int), .int .i64 0, .string (b.extract j0 j)] 38)) #[.int .i64 ((0 : Nat) : Int), .int .i64 0, .string (b.extract j0 j)] 38 3 w.heap.size (wr.heap.size + 1) 1 (by simp) (by simp; omega) (by decide) rfl (by repeat (first | exact Below.refl _ _ | refine Below.drew ?_ | refine Below.alloc ?_ (by simp; try omega) _ | refine Below.setCell ?_ (by simp) _))) _ l.length (l.flatMap cellsE3) rfl (own_keep HO.out (by repeat (first | exact Below.refl _ _ | refine Below.drew ?_ | refine Below.alloc ?_ (by simp; try omega) _ | refine Below.setCell ?_ (by simp) _))) (flat_one l) (by unfold maxLen; omega) (by omega) (by simp; omega) ?_; intro v' w9 hown' hgrow; have hW := Below.grown (base_below HB.out (by repeat (first | exact Below.refl _ _ | refine Below.drew ?_ | refine Below.alloc ?_ (by simp; try omega) _ | refine Below.setCell ?_ (by simp) _))) hgrow (by simp; omega) (fun k e => by cases e; simp; omega); have hW3 := Below.grown (base_below HB3.out (by repeat (first | exact Below.refl _ _ | refine Below.drew ?_ | refine Below.alloc ?_ (by simp; try omega) _ | refine Below.setCell ?_ (by simp) _))) hgrow (by have := HB3.out.size; simp; omega) (fun k e => by cases e; have := HB3.out.size; simp; omega); have HOW := Lib.hid hown'; have HBW := Lib.hid (And.intro hW hW3); clear hown' hgrow hW hW3)
        go_roundw
        case rel => exact ⟨0, j0, ⟨((0 : Nat) : Int), 0, (b.extract j0 j)⟩ :: l, by omega, by omega, by go_num, by go_num, rev_step HSR.out HS.out, by rw [List.length_cons, Nat.add_comm]; exact HOW.out, HBW.out.1, HBW.out.2⟩
        case measure => simp [intOf]; omega
      · have hi0 : i = 0 := by omega
        have hj0 : j = 0 := by omega
        subst hi0 hj0
        have hl : l = R := by have := HS.out; rw [SR_zero] at this; exact this
        subst hl
        have HE := Lib.hid (EditsAt.of_own HO.out)
        go_wp2
        go_ret2
        exact ⟨_, rfl, HE.out, HB.out⟩
end Go.Proofs.Ytbdeakodmhcgdaa
