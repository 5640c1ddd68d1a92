/- The reference's table of the lengths of common subsequences. -/
import Derived.Test.YtbdeakodmhcgdaaEdTable
import Derived.Test.YtbdeakodmhcgdaaEdCommon
namespace Go.Proofs.Ytbdeakodmhcgdaa
set_option linter.unusedSimpArgs false
set_option linter.unusedVariables false
set_option maxRecDepth 100000
open Go.RowKit Go.Deep

/-- rows k to n of a table of lengths; the rows before them are not made yet -/
structure LenIn (w wi : World) (t n m : Nat) (bs : Nat → Nat) (k : Nat) (L : Nat → Nat → Int) : Prop where
  below : Below w.heap.size w wi
  ge : w.heap.size ≤ t
  top : wi.rowIs t 72 n (fun i => if k ≤ i then hdrV m (bs i) else .slice none 0 0)
  done : ∀ i, k ≤ i → i < n → w.heap.size ≤ bs i ∧ wi.rowIs (bs i) 3 m (fun c => intV (L i c))
theorem rows_ne {w : World} {b c : Nat} {e t : TypeId} {n m : Nat} {f g : Nat → Value} (h : w.rowIs b e n f) (h' : w.rowIs c t m g) (hne : e ≠ t) : b ≠ c := by
  intro e0
  subst e0
  obtain ⟨x, hx, _⟩ := h
  obtain ⟨y, hy, _⟩ := h'
  rw [hx] at hy
  simp only [Option.some.injEq, Obj.cells.injEq] at hy
  exact hne hy.2.1
/-- row k is being filled: its cells from place j on are -/
structure LenMid (w wi : World) (t n m : Nat) (bs : Nat → Nat) (k r j : Nat) (L : Nat → Nat → Int) : Prop where
  below : Below w.heap.size w wi
  ge : w.heap.size ≤ t
  rge : w.heap.size ≤ r
  fresh : ∀ i, k < i → i < n → bs i ≠ r
  top : wi.rowIs t 72 n (fun i => if k ≤ i then hdrV m (if i = k then r else bs i) else .slice none 0 0)
  done : ∀ i, k < i → i < n → w.heap.size ≤ bs i ∧ wi.rowIs (bs i) 3 m (fun c => intV (L i c))
  cur : wi.rowIs r 3 m (fun c => if j ≤ c then intV (L k c) else intV 0)
theorem LenIn.enter {w wr : World} {t n m k j : Nat} {bs : Nat → Nat} {L : Nat → Nat → Int} (h : LenIn w wr t n m bs (k + 1) L) (hk : k < n) (h0 : ∀ c, j ≤ c → c < m → L k c = 0) :
    LenMid w ((wr.alloc (.cells (madeCells #[.int .i64 0] m) 3)).setCell ⟨t, k, none⟩ (hdrV m wr.heap.size)) t n m bs k wr.heap.size j L := by
  have hnew := World.rowIs_made wr (.int .i64 0) m 3
  have htl := h.top.lt
  refine ⟨(h.below.alloc h.below.size _).setCell h.ge _, h.ge, h.below.size, fun i hi hn => by have := (h.done i (by omega) hn).2.lt; omega, ((h.top.alloc _).set k _).congr (fun i hi => ?_), fun i hi hn => ⟨(h.done i (by omega) hn).1, ((h.done i (by omega) hn).2.alloc _).setOther (fun e => rows_ne h.top (h.done i (by omega) hn).2 (by decide) e.symm) _⟩,
    (hnew.setOther (by show wr.heap.size ≠ t; omega) _).congr (fun c hc => ?_)⟩
  · by_cases e : i = k
    · subst e; simp
    · rw [if_neg e, if_neg e]
      by_cases hlt : k + 1 ≤ i
      · rw [if_pos hlt, if_pos (by omega)]
      · rw [if_neg hlt, if_neg (by omega)]
  · by_cases hj : j ≤ c
    · rw [if_pos hj, h0 c hj hc]
    · rw [if_neg hj]
theorem LenMid.set {w wi : World} {t n m k r j : Nat} {bs : Nat → Nat} {L : Nat → Nat → Int} (h : LenMid w wi t n m bs k r (j + 1) L) (z : Int) (hz : z = L k j) : LenMid w (wi.setCell ⟨r, j, none⟩ (intV z)).drew t n m bs k r j L := by
  refine ⟨(h.below.setCell h.rge _).drew, h.ge, h.rge, h.fresh, (h.top.setOther (rows_ne h.top h.cur (by decide)) _).drew, fun i hi hn => ⟨(h.done i hi hn).1, ((h.done i hi hn).2.setOther (h.fresh i hi hn) _).drew⟩, ((h.cur.set j (intV z)).congr (fun c _ => ?_)).drew⟩
  by_cases e : c = j
  · subst e; simp [hz]
  · rw [if_neg e]
    by_cases hlt : j + 1 ≤ c
    · rw [if_pos hlt, if_pos (by omega)]
    · rw [if_neg hlt, if_neg (by omega)]
/-- a first store of two into the same place -/
theorem LenMid.set1 {w wi : World} {t n m k r j : Nat} {bs : Nat → Nat} {L : Nat → Nat → Int} (h : LenMid w wi t n m bs k r (j + 1) L) (z : Int) :
    let wx := (wi.setCell ⟨r, j, none⟩ (intV z)).drew
    Below w.heap.size w wx ∧ wx.rowIs t 72 n (fun i => if k ≤ i then hdrV m (if i = k then r else bs i) else .slice none 0 0) ∧ (∀ i, k < i → i < n → w.heap.size ≤ bs i ∧ wx.rowIs (bs i) 3 m (fun c => intV (L i c))) ∧
    wx.rowIs r 3 m (fun c => if c = j then intV z else if j + 1 ≤ c then intV (L k c) else intV 0) :=
  ⟨(h.below.setCell h.rge _).drew, (h.top.setOther (rows_ne h.top h.cur (by decide)) _).drew, fun i hi hn => ⟨(h.done i hi hn).1, ((h.done i hi hn).2.setOther (h.fresh i hi hn) _).drew⟩, (h.cur.set j (intV z)).drew⟩
theorem LenMid.set2 {w wi wx : World} {t n m k r j : Nat} {bs : Nat → Nat} {L : Nat → Nat → Int} {y : Int} (h : LenMid w wi t n m bs k r (j + 1) L)
    (s1 : Below w.heap.size w wx) (s2 : wx.rowIs t 72 n (fun i => if k ≤ i then hdrV m (if i = k then r else bs i) else .slice none 0 0)) (s3 : ∀ i, k < i → i < n → w.heap.size ≤ bs i ∧ wx.rowIs (bs i) 3 m (fun c => intV (L i c)))
    (s4 : wx.rowIs r 3 m (fun c => if c = j then intV y else if j + 1 ≤ c then intV (L k c) else intV 0)) (z : Int) (hz : z = L k j) : LenMid w (wx.setCell ⟨r, j, none⟩ (intV z)).drew.drew t n m bs k r j L := by
  refine ⟨(s1.setCell h.rge _).drew.drew, h.ge, h.rge, h.fresh, (s2.setOther (rows_ne s2 s4 (by decide)) _).drew.drew, fun i hi hn => ⟨(s3 i hi hn).1, ((s3 i hi hn).2.setOther (h.fresh i hi hn) _).drew.drew⟩, ((s4.set j (intV z)).congr (fun c _ => ?_)).drew.drew⟩
  by_cases e : c = j
  · subst e; simp [hz]
  · rw [if_neg e, if_neg e]
    by_cases hlt : j + 1 ≤ c
    · rw [if_pos hlt, if_pos (by omega)]
    · rw [if_neg hlt, if_neg (by omega)]
theorem LenMid.drew {w wi : World} {t n m k r j : Nat} {bs : Nat → Nat} {L : Nat → Nat → Int} (h : LenMid w wi t n m bs k r j L) : LenMid w wi.drew t n m bs k r j L :=
  ⟨h.below.drew, h.ge, h.rge, h.fresh, h.top.drew, fun i hi hn => ⟨(h.done i hi hn).1, (h.done i hi hn).2.drew⟩, h.cur.drew⟩
theorem LenMid.leave {w wi : World} {t n m k r : Nat} {bs : Nat → Nat} {L : Nat → Nat → Int} (h : LenMid w wi t n m bs k r 0 L) : LenIn w wi t n m (fun i => if i = k then r else bs i) k L := by
  refine ⟨h.below, h.ge, h.top, fun i hi hn => ?_⟩
  by_cases e : i = k
  · subst e
    simp only [if_true]
    exact ⟨h.rge, h.cur.congr (fun c _ => by simp)⟩
  · simp only [if_neg e]
    exact h.done i (by omega) hn
def LN (xs ys : List ByteArray) (i j : Nat) : Int := (lcsN (xs.drop i) (ys.drop j) : Nat)
theorem LN_last (xs ys : List ByteArray) (j : Nat) : LN xs ys xs.length j = 0 := by rw [LN, List.drop_length, lcs_nil]; rfl
theorem LN_right (xs ys : List ByteArray) (i : Nat) : LN xs ys i ys.length = 0 := by rw [LN, List.drop_length, lcs_nil']; rfl
theorem LN_step (xs ys : List ByteArray) (i j : Nat) (hi : i < xs.length) (hj : j < ys.length) :
    LN xs ys i j = max (max (LN xs ys (i + 1) j) (LN xs ys i (j + 1))) (if xs[i] = ys[j] then LN xs ys (i + 1) (j + 1) + 1 else 0) := by
  have h := lcs_cons xs[i] ys[j] (xs.drop (i + 1)) (ys.drop (j + 1))
  rw [← List.drop_eq_getElem_cons hi, ← List.drop_eq_getElem_cons hj] at h
  rw [LN, LN, LN, LN, h]
  split <;> omega
theorem LN_bd (xs ys : List ByteArray) (i j : Nat) : 0 ≤ LN xs ys i j ∧ LN xs ys i j ≤ xs.length := by
  obtain ⟨c, p, _, r⟩ := lcs_ex (xs.drop i) (ys.drop j)
  have := p.length_le
  rw [List.length_drop] at this
  rw [LN]; omega
def LenPost (xs ys : List ByteArray) (w : World) (e : Ending) (w' : World) : Prop :=
  ∃ t bs, e = .returned (.slice (some ⟨t, 0, none⟩) (xs.length + 1) (xs.length + 1)) ∧ LenIn w w' t (xs.length + 1) (ys.length + 1) bs 0 (LN xs ys)

set_option maxHeartbeats 4000000 in
theorem refLengths_any (xs ys : List ByteArray) (vx vy : Value) (w : World) (hx : StrsAt w vx xs) (hy : StrsAt w vy ys) (lx : xs.length ≤ 1000000) (ly : ys.length ≤ 1000000) :
    Calls Try.prog 65 #[vx, vy] w (LenPost xs ys w) := by
  obtain ⟨ax, cx, rfl, hcx⟩ := hx
  obtain ⟨ay, cy, rfl, hcy⟩ := hy
  have HX := Lib.hid hcx
  have HY := Lib.hid hcy
  clear hcx hcy
  obtain ⟨m, hm⟩ : ∃ m : Nat, ys.length + 1 = m := ⟨_, rfl⟩
  have hmi : (ys.length : Int) + 1 = (m : Int) := by omega
  obtain ⟨n, hn⟩ : ∃ n : Nat, xs.length + 1 = n := ⟨_, rfl⟩
  have hni : (xs.length : Int) + 1 = (n : Int) := by omega
  have HM := Lib.hid hm
  have HN := Lib.hid hn
  have hm1 : m ≤ 1000001 := by omega
  have hn1 : n ≤ 1000001 := by omega
  unfold LenPost
  rw [hm, hn]
  clear hm hn
  have hmk := run_make_row' (P := Try.prog) 72 3 (.int .i64 0) 8 Try.underlying72 info_int rfl .i64 .i64 m (by omega) (by omega)
  have hmk2 := run_make_row' (P := Try.prog) 70 72 (.slice none 0 0) 24 Try.underlying70 info_ints rfl .i64 .i64 n (by omega) (by omega)
  have hstart : LenIn w (w.alloc (.cells (madeCells #[.slice none 0 0] n) 72)) w.heap.size n m (fun _ => 0) n (LN xs ys) :=
    ⟨(Below.refl _ _).alloc (Nat.le_refl _) _, Nat.le_refl _, (World.rowIs_made w (.slice none 0 0) n 72).congr (fun i hi => by rw [if_neg (by omega)]), fun i h1 h2 => by omega⟩
  have HST := Lib.hid hstart
  clear hstart
  obtain ⟨t, ht⟩ : ∃ t, w.heap.size = t := ⟨_, rfl⟩
  rw [ht] at HST
  go_enter Try.func65, Try.ntmps65
  go_wp2
  clear hmk2
  go_loopw [6] (fun i wr => ∃ k : Nat, k ≤ n ∧ i = .int .i64 ((k : Int) - 1) ∧ ∃ bs, LenIn w wr t n m bs k (LN xs ys))
    (fun i _ => (intOf i + 1).toNat)
  case atStart => exact ⟨n, Nat.le_refl _, by congr 1; have := HN.out; omega, _, HST.out⟩
  case round =>
    obtain ⟨k, hk, rfl, bs, hL⟩ := hrel
    have HL := Lib.hid hL
    clear hL
    by_cases hk0 : k = 0
    · subst hk0
      go_wp2
      go_ret
      exact ⟨_, _, rfl, HL.out⟩
    · obtain ⟨k0, rfl⟩ : ∃ k0, k = k0 + 1 := ⟨k - 1, by omega⟩
      have hidx : ((k0 + 1 : Nat) : Int) - 1 = k0 := by omega
      rw [hidx]
      obtain ⟨w1, rfl⟩ : ∃ x, x = wr := ⟨_, rfl⟩
      have hkn : k0 < n := by omega
      have hst1 : ∀ o, (w1.alloc o).cell? ⟨t, k0, none⟩ = some (.slice none 0 0) := fun o => by
        have := (HL.out.top.alloc o).cell (i := k0) hkn
        rwa [if_neg (by omega)] at this
      have hst2 : ∀ o, (w1.alloc o).frozen? ⟨t, k0, none⟩ = false := fun o => (HL.out.top.alloc o).frozen k0
      clear hk0 hidx hk
      by_cases hlast : k0 < xs.length
      · have hen := HL.out.enter (j := ys.length) hkn (fun c h1 h2 => by
          obtain rfl : c = ys.length := by have := HM.out; omega
          exact LN_right xs ys k0)
        obtain ⟨r, hr⟩ : ∃ r, w1.heap.size = r := ⟨_, rfl⟩
        rw [hr] at hen
        have HEN := Lib.hid hen
        clear hen
        go_wp2
        clear hmk hst1 hst2
        go_loopw [7] (fun jv wi => ∃ j : Nat, j ≤ ys.length ∧ jv = .int .i64 ((j : Int) - 1) ∧ LenMid w wi t n m bs k0 r j (LN xs ys))
          (fun jv _ => (intOf jv + 1).toNat)
        case atStart => exact ⟨ys.length, Nat.le_refl _, rfl, HEN.out⟩
        case round =>
          obtain ⟨j, hj, rfl, hM⟩ := hrel
          have HM2 := Lib.hid hM
          clear hM
          by_cases hj0 : j = 0
          · subst hj0
            have HLV := Lib.hid (HM2.out.leave)
            go_wp2
            go_roundw
            case rel => exact ⟨k0, by omega, by go_num, _, HLV.out⟩
            case measure => simp [intOf] <;> omega
          · obtain ⟨j0, rfl⟩ : ∃ j0, j = j0 + 1 := ⟨j - 1, by omega⟩
            have hidx : ((j0 + 1 : Nat) : Int) - 1 = j0 := by omega
            rw [hidx]
            clear hidx hj0
            have hjy : j0 < ys.length := by omega
            have hjm : j0 < m := by omega
            have hjm2 : j0 + 1 < m := by omega
            have hkn2 : k0 + 1 < n := by omega
            have d1 := HM2.out.top.cell (i := k0) hkn
            simp only [Nat.le_refl, if_true] at d1
            have d2 := HM2.out.top.cell (i := k0 + 1) hkn2
            rw [if_pos (by omega), if_neg (by omega)] at d2
            have hrow := (HM2.out.done (k0 + 1) (by omega) hkn2).2
            have c1 := hrow.cell (i := j0) hjm
            have c2 := hrow.cell (i := j0 + 1) hjm2
            have c3 := HM2.out.cur.cell (i := j0 + 1) hjm2
            simp only [Nat.le_refl, if_true] at c3
            have c4 := HM2.out.cur.cell (i := j0) hjm
            rw [if_neg (by omega)] at c4
            have hfz := HM2.out.cur.frozen j0
            obtain ⟨bx, ox, rfl, hbx, hcx⟩ := HX.out (by omega)
            obtain ⟨bY, oY, rfl, hbY, hcY⟩ := HY.out (by omega)
            have cx0 := hcx k0 hlast
            have cy0 := hcY j0 hjy
            clear hcx hcY
            have hbd1 := LN_bd xs ys (k0 + 1) j0
            have hbd2 := LN_bd xs ys k0 (j0 + 1)
            have hbd3 := LN_bd xs ys (k0 + 1) (j0 + 1)
            have hstep := LN_step xs ys k0 j0 hlast hjy
            obtain ⟨pb, hpb⟩ : ∃ z, bs (k0 + 1) = z := ⟨_, rfl⟩
            obtain ⟨a1, h1⟩ : ∃ z, LN xs ys (k0 + 1) j0 = z := ⟨_, rfl⟩
            obtain ⟨a2, h2⟩ : ∃ z, LN xs ys k0 (j0 + 1) = z := ⟨_, rfl⟩
            obtain ⟨a3, h3⟩ : ∃ z, LN xs ys (k0 + 1) (j0 + 1) = z := ⟨_, rfl⟩
            obtain ⟨sx, hsx⟩ : ∃ z, xs[k0] = z := ⟨_, rfl⟩
            obtain ⟨sy, hsy⟩ : ∃ z, ys[j0] = z := ⟨_, rfl⟩
            rw [h1] at c1 hbd1 hstep
            rw [h2] at c3 hbd2 hstep
            rw [h3] at c2 hbd3 hstep
            rw [hpb] at d2 c1 c2 hrow
            rw [hsx] at cx0 hstep
            rw [hsy] at cy0 hstep
            obtain ⟨mx, hmx⟩ : ∃ z, (if a1 < a2 then a2 else a1) = z := ⟨_, rfl⟩
            rw [show max a1 a2 = mx by rw [← hmx]; split <;> omega] at hstep
            have hmb : 0 ≤ mx ∧ mx ≤ 1000000 := by rw [← hmx]; split <;> omega
            have hb3 : 0 ≤ a3 ∧ a3 ≤ 1000000 := by omega
            have hwk : IntKind.i64.wrap ((k0 : Int) + 1) = (k0 : Int) + 1 := IntWalk.i64_in _ (by omega)
            have hwj : IntKind.i64.wrap ((j0 : Int) + 1) = (j0 : Int) + 1 := IntWalk.i64_in _ (by omega)
            obtain ⟨s1, s2, s3, s4⟩ := HM2.out.set1 mx
            obtain ⟨wx, hwx⟩ : ∃ wx, (wr.setCell ⟨r, j0, none⟩ (intV mx)).drew = wx := ⟨_, rfl⟩
            rw [hwx] at s1 s2 s3 s4
            have HWX := Lib.hid hwx
            have HSTP := Lib.hid hstep
            clear hbd1 hbd2 hbd3 hrow hstep hwx
            have cx1 := (HM2.out.below.cell (p := ⟨bx, ox + k0, none⟩) hbx).trans cx0
            have cy1 := (HM2.out.below.cell (p := ⟨bY, oY + j0, none⟩) hbY).trans cy0
            have HS1 := Lib.hid s1
            have HS2 := Lib.hid s2
            have HS3 := Lib.hid s3
            have HS4 := Lib.hid s4
            have HPB := Lib.hid hpb
            have H3 := Lib.hid h3
            clear s1 s2 s3 s4 hpb h1 h2 h3 hsx hsy
            go_wp2_with fail
            go_region
            rw [HWX.out]
            clear d1 d2 c1 c2 c3 c4 hfz hmx cx1 cy1
            have e1 := HS2.out.cell (i := k0) hkn
            simp only [Nat.le_refl, if_true] at e1
            have e2 := HS2.out.cell (i := k0 + 1) hkn2
            rw [if_pos (by omega), if_neg (by omega), HPB.out] at e2
            have hrow := (HS3.out (k0 + 1) (by omega) hkn2).2
            have e3 := hrow.cell (i := j0 + 1) hjm2
            rw [HPB.out] at e3
            simp only [H3.out] at e3
            have e4 := HS4.out.cell (i := j0) hjm
            simp only [if_true] at e4
            have efz := HS4.out.frozen j0
            have ex := (HS1.out.cell (p := ⟨bx, ox + k0, none⟩) hbx).trans cx0
            have ey := (HS1.out.cell (p := ⟨bY, oY + j0, none⟩) hbY).trans cy0
            clear hrow cx0 cy0
            by_cases hxy : sx = sy
            · have hstep := HSTP.out
              rw [if_pos hxy] at hstep
              obtain ⟨zn, hzn⟩ : ∃ z, (if mx < a3 + 1 then a3 + 1 else mx) = z := ⟨_, rfl⟩
              rw [show max mx (a3 + 1) = zn by rw [← hzn]; split <;> omega] at hstep
              have hw3 : IntKind.i64.wrap (a3 + 1) = a3 + 1 := IntWalk.i64_in _ (by omega)
              have S1 := Lib.hid (HM2.out.set2 HS1.out HS2.out HS3.out HS4.out zn hstep.symm)
              subst hxy
              clear hstep
              go_wp2_with fail
              go_region
              go_wp2_with fail
              go_region
              go_wp2
              go_roundw
              case rel => exact ⟨j0, by omega, by go_num, S1.out⟩
              case measure => simp [intOf] <;> omega
            · have hstep := HSTP.out
              rw [if_neg hxy, show max mx 0 = mx by omega] at hstep
              have S1 := Lib.hid (HM2.out.set mx hstep.symm)
              rw [HWX.out] at S1
              have hne : (sx.toList == sy.toList) = false := by rw [Bool.eq_false_iff]; intro e; exact hxy (bytes_eq (by simpa using e))
              clear hstep
              go_wp2_with fail
              go_region
              go_wp2
              go_roundw
              case rel => exact ⟨j0, by omega, by go_num, S1.out.drew⟩
              case measure => simp [intOf] <;> omega
      · obtain rfl : k0 = xs.length := by have := HN.out; omega
        have hen := HL.out.enter (j := 0) hkn (fun c h1 h2 => LN_last xs ys c)
        obtain ⟨r, hr⟩ : ∃ r, w1.heap.size = r := ⟨_, rfl⟩
        rw [hr] at hen
        have HEN := Lib.hid hen
        clear hen
        go_wp2
        clear hmk hst1 hst2
        go_loopw [7] (fun jv wi => jv = .int .i64 ((ys.length : Int) - 1) ∧ LenMid w wi t n m bs xs.length r 0 (LN xs ys))
          (fun jv _ => 0)
        case atStart => exact ⟨rfl, HEN.out⟩
        case round =>
          obtain ⟨rfl, hM⟩ := hrel
          have HLV := Lib.hid (hM.leave)
          by_cases hy0 : ys.length = 0
          · have hyi : (ys.length : Int) - 1 < 0 := by omega
            go_wp2
            go_roundw
            case rel => exact ⟨xs.length, by omega, by go_num, _, HLV.out⟩
            case measure => simp [intOf] <;> omega
          · have hyi : ¬ (ys.length : Int) - 1 < 0 := by omega
            go_wp2
            go_roundw
            case rel => exact ⟨xs.length, by omega, by go_num, _, HLV.out⟩
            case measure => simp [intOf] <;> omega
end Go.Proofs.Ytbdeakodmhcgdaa
