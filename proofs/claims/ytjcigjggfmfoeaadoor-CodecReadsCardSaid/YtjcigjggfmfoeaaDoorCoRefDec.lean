/- The reference's Decode. Written by tools/gen_corefdec.py. -/
import Derived.Test.YtjcigjggfmfoeaaDoorCoRefRows
import Derived.Test.YtjcigjggfmfoeaaDoorCoRefItem
import Derived.Test.YtjcigjggfmfoeaaDoorCoAll
namespace Go.Proofs.YtjcigjggfmfoeaaDoor
set_option linter.unusedSimpArgs false
set_option linter.unusedVariables false
set_option maxRecDepth 100000
open Go.RowKit Go.Deep

def rdec (R : Option Val) : Val × Int := match R with | none => (mkZ, 3) | some x => if chk x = 0 then (x, 0) else (mkZ, 4)
theorem fin_rdec {w W : World} {a : Act} {x : Val} {so : Option Addr} {sc : Nat} {P : Nat → Prop} {r : Int} (hd : a.defers = []) (h2 : a.tmps.getD 2 undef = .pointer (some ⟨w.heap.size, 0, none⟩)) (h3 : a.tmps.getD 3 undef = intV r)
    (hc : W.heap[w.heap.size]? = some (.cells #[intV x.kd, intV x.nm, .string x.tx, .slice so x.its.length sc] 24 (0, 0))) (hv : VAt W P (.agg #[intV x.kd, intV x.nm, .string x.tx, .slice so x.its.length sc]) x) (hB : Below w.heap.size w W) :
    bodyPost Tryd.prog Tryd.f22 (DecPost x r w) .ret a W := by
  obtain ⟨d0, d1, d2, d3⟩ := heap4 hc
  have h2' : a.tmps[2]?.getD undef = .pointer (some ⟨w.heap.size, 0, none⟩) := by simpa using h2
  have h3' : a.tmps[3]?.getD undef = intV r := by simpa using h3
  exact ⟨hd, .tuple #[.agg #[intV x.kd, intV x.nm, .string x.tx, .slice so x.its.length sc], intV r], by simp [results, Tryd.f22, go_sem, h2', h3', d0, d1, d2, d3], so, sc, P, rfl, hv, hB⟩
theorem fin_rdecZ {w W W4 : World} {a : Act} {r : Int} (hW : (((W.setCell ⟨w.heap.size, 0, none⟩ (.int .i64 0)).setCell ⟨w.heap.size, 1, none⟩ (.int .i64 0)).setCell ⟨w.heap.size, 2, none⟩ (.string ⟨#[]⟩)).setCell ⟨w.heap.size, 3, none⟩ (.slice none 0 0) = W4)
    (hb : W.heap[w.heap.size]? = some (.cells #[intV 0, intV 0, .string ⟨#[]⟩, .slice none 0 0] 24 (0, 0))) (hd : a.defers = []) (h2 : a.tmps.getD 2 undef = .pointer (some ⟨w.heap.size, 0, none⟩)) (h3 : a.tmps.getD 3 undef = intV r)
    (hB : Below w.heap.size w W) : bodyPost Tryd.prog Tryd.f22 (DecPost mkZ r w) .ret a W4 := by
  obtain ⟨k1, k2, k3⟩ := set4 hb hW
  exact fin_rdec (x := mkZ) (P := fun _ => True) hd h2 h3 k1 (vat_zero _ _) (hB.trans (below_set4 hW (Nat.le_refl _)))
theorem fin_rsyn {w W W4 : World} {a : Act} {R : Option Val} {x : Val} {r : Int} (hR : R = none) (hD : rdec R = (x, r)) (hW : (((W.setCell ⟨w.heap.size, 0, none⟩ (.int .i64 0)).setCell ⟨w.heap.size, 1, none⟩ (.int .i64 0)).setCell ⟨w.heap.size, 2, none⟩ (.string ⟨#[]⟩)).setCell ⟨w.heap.size, 3, none⟩ (.slice none 0 0) = W4)
    (hb : W.heap[w.heap.size]? = some (.cells #[intV 0, intV 0, .string ⟨#[]⟩, .slice none 0 0] 24 (0, 0))) (hd : a.defers = []) (h2 : a.tmps.getD 2 undef = .pointer (some ⟨w.heap.size, 0, none⟩)) (h3 : a.tmps.getD 3 undef = intV 3)
    (hB : Below w.heap.size w W) : bodyPost Tryd.prog Tryd.f22 (DecPost x r w) .ret a W4 := by
  subst hR
  obtain ⟨rfl, rfl⟩ := Prod.mk.inj hD
  exact fin_rdecZ hW hb hd h2 h3 hB
theorem opens_head {W : World} {B : Nat} {P : Nat → Prop} {v : Value} {sl : List Value} {ls : List (List Val)} (h : Opens W B P v sl ls) (hne : 1 ≤ ls.length) : ∃ g cap, v = .slice (some ⟨g, 0, none⟩) ls.length cap := by
  rcases h.own.2 with ⟨_, h0⟩ | ⟨g, cap, cur, rfl, _⟩
  · omega
  · exact ⟨g, cap, rfl⟩
/-- the innermost list's slice, where it lies -/
theorem opens_in {W : World} {B n g m cap : Nat} {P : Nat → Prop} {sl : List Value} {ls : List (List Val)} {l : List Val} (h : Opens W B P (.slice (some ⟨g, 0, none⟩) m cap) sl (ls ++ [l])) (hn : ls.length = n) :
    ∃ sl' so sc, sl = sl' ++ [.slice so l.length sc] ∧ sl'.length = n ∧ m = n + 1 ∧ W.cell? ⟨g, n, none⟩ = some (.slice so l.length sc) := by
  have hlen := h.len
  simp at hlen
  rcases List.eq_nil_or_concat sl with rfl | ⟨sl', s, rfl⟩
  · simp at hlen
  · rw [List.concat_eq_append] at h hlen ⊢
    simp at hlen
    obtain ⟨cs, ho, _⟩ := h.last
    obtain ⟨so, sc, rfl⟩ : ∃ so sc, s = .slice so l.length sc := by
      rcases ho.2 with ⟨rfl, h0⟩ | ⟨g', cap', cur, rfl, _⟩
      · exact ⟨none, 0, by rw [h0]⟩
      · exact ⟨_, _, rfl⟩
    have hm : m = n + 1 := by
      rcases h.own.2 with ⟨hv, _⟩ | ⟨g', cap', cur, hv, _⟩
      · cases hv
      · simp only [Value.slice.injEq] at hv
        rw [hv.2.1]; simp [hn]
    refine ⟨sl', so, sc, rfl, by omega, hm, ?_⟩
    have := h.own.cells (g := g) rfl n (.slice so l.length sc) (by rw [List.getElem?_append_right (by omega), show n - sl'.length = 0 by omega]; rfl)
    rwa [add_plain, Nat.zero_add] at this
/-- what is known behind a literal of one value, and behind its append to the innermost list -/
def Far (wB WL : World) (B g n D : Nat) (so : Option Addr) (sc : Nat) (l : List Val) (cs zs : List Value) (z0 z1 z2 z3 : Value) : Prop :=
  ∀ (g2 cap2 : Nat) (w2 : World), w2.ownsRow B 24 4 (.slice (some ⟨g2, 0, none⟩) (l.length + 1) cap2) (l.length + 1) (cs ++ zs) → WL.grownBy w2 (Value.slice so l.length sc).ownBlock → ((Value.slice so l.length sc).ownBlock = some g2 ∨ g2 = wB.heap.size + 1) →
    (w2.cell? ⟨g, n, none⟩ = some (.slice so l.length sc) ∧ w2.frozen? ⟨g, n, none⟩ = false ∧ g ≠ g2) ∧ (w2.cell? ⟨g2, l.length * 4, none⟩ = some z0 ∧ w2.cell? ⟨g2, l.length * 4 + 1, none⟩ = some z1 ∧ w2.cell? ⟨g2, l.length * 4 + 2, none⟩ = some z2 ∧ w2.cell? ⟨g2, l.length * 4 + 3, none⟩ = some z3) ∧
    (w2.frozen? ⟨g2, l.length * 4, none⟩ = false ∧ w2.frozen? ⟨g2, l.length * 4 + 1, none⟩ = false ∧ w2.frozen? ⟨g2, l.length * 4 + 2, none⟩ = false ∧ w2.frozen? ⟨g2, l.length * 4 + 3, none⟩ = false) ∧ w2.heap[D]? = wB.heap[D]? ∧ D ≠ g2
theorem tail_facts {wB WL : World} {B g n cap D : Nat} {P : Nat → Prop} {so : Option Addr} {sc : Nat} {sl' : List Value} {ls' : List (List Val)} {l : List Val} (z0 z1 z2 z3 : Value) {o : Obj}
    (h : Opens wB B P (.slice (some ⟨g, 0, none⟩) (n + 1) cap) (sl' ++ [.slice so l.length sc]) (ls' ++ [l])) (hn : ls'.length = n ∧ sl'.length = n) (hD : wB.heap[D]? = some o) (hDs : (Value.slice so l.length sc).ownBlock ≠ some D)
    (hcell : wB.cell? ⟨g, n, none⟩ = some (.slice so l.length sc)) (hWL : (wB.alloc (.cells #[z0, z1, z2, z3] 24)).drew = WL) :
    ∃ cs, CsOf wB P cs l ∧ WL.ownsRow B 24 4 (.slice so l.length sc) l.length cs ∧ (∀ j (u : Value), [z0, z1, z2, z3][j]? = some u → WL.cell? ((⟨wB.heap.size, 0, none⟩ : Addr).add j) = some u) ∧
      WL.heap.size = wB.heap.size + 1 ∧ Below wB.heap.size wB WL ∧ Far wB WL B g n D so sc l cs [z0, z1, z2, z3] z0 z1 z2 z3 := by
  obtain ⟨cs, hcs1, hcs2⟩ := h.last
  have hln := hcs2.len
  have hsa : WL.heap.size = wB.heap.size + 1 := by rw [← hWL]; simp
  have hbl : Below wB.heap.size wB WL := by rw [← hWL]; exact (below_box0 wB _).drew
  have hnw := World.news_of_block (show WL.heap[wB.heap.size]? = some (.cells #[z0, z1, z2, z3] 24 (0, 0)) by rw [← hWL]; exact heap_alloc_new _ _)
  have hgl := (h.own.lt g rfl).2
  have hav := fun b hb => (h.av sl'.length (.slice so l.length sc) b (by simp) hb)
  refine ⟨cs, hcs2, own_keep hcs1 fun b hb => hbl.block b (hcs1.lt b hb).2, hnw, hsa, hbl, fun g2 cap2 w2 ho hg hat => ?_⟩
  have hgr : some g ≠ (Value.slice so l.length sc).ownBlock := fun e => (hav g e.symm).2 rfl
  have hbg : w2.heap[g]? = wB.heap[g]? := (hg.block g (by omega) hgr).trans (hbl.block g hgl)
  have hgc : ∀ j (u : Value), [z0, z1, z2, z3][j]? = some u → w2.cell? ⟨g2, l.length * 4 + j, none⟩ = some u := fun j u hu => by
    have hj : j < 4 := (List.getElem?_eq_some_iff.1 hu).1
    rw [ho.cellAt _ (by omega), List.getElem?_append_right (by omega), hln, Nat.add_sub_cancel_left, hu]
  have hlt := heap_lt hD
  refine ⟨⟨(World.cell?_of_block hbg).trans hcell, (World.frozen?_of_block hbg).trans (World.ownsRow.frozenAt' h.own n), fun e => ?_⟩, ⟨hgc 0 _ rfl, hgc 1 _ rfl, hgc 2 _ rfl, hgc 3 _ rfl⟩, ⟨ho.frozenAt _, ho.frozenAt _, ho.frozenAt _, ho.frozenAt _⟩, ?_, fun e => ?_⟩
  · rcases hat with hat | hat
    · exact hgr (by rw [hat, e])
    · omega
  · exact (hg.block _ (by omega) (fun e => hDs e.symm)).trans (hbl.block _ hlt)
  · rcases hat with hat | hat
    · exact hDs (by rw [hat, e])
    · omega
set_option maxHeartbeats 4000000 in
theorem refDecode_any (s : ByteArray) (hs : s.size ≤ 65536 ∨ 1048576 < s.size) (w : World) (hT : Tab w) (xR : Val) (rR : Int) (hd : dec s.data.toList = (xR, rR)) :
    Calls Tryd.prog 22 #[.string s] w (DecPost xR rR w) := by
  unfold dec at hd
  rw [size_list] at hd
  have HZ := Lib.hid (heap_alloc_new w (.cells #[intV 0, intV 0, .string ⟨#[]⟩, .slice none 0 0] 24))
  by_cases hbig : 1048576 < s.size
  · rw [if_pos hbig] at hd
    obtain ⟨rfl, rfl⟩ := Prod.mk.inj hd
    have hb : (1048576 : Int) < s.size := by omega
    clear hd hs
    go_enter Tryd.func22, Tryd.ntmps22
    go_wp2
    exact fin_rdec (x := mkZ) (P := fun _ => True) rfl rfl rfl HZ.out (vat_zero _ _) (below_box0 w _)
  rw [if_neg hbig] at hd
  have hsz : s.size ≤ 65536 := by omega
  have hb' : decide ((1048576 : Int) < s.size) = false := by simp; omega
  obtain ⟨R, hR⟩ : ∃ R, rd [] s.data.toList = R := ⟨_, rfl⟩
  have HR := Lib.hid hR
  have HD := Lib.hid (show rdec R = (xR, rR) by rw [← hR]; exact hd)
  obtain ⟨w0, hw0⟩ : ∃ X, w.alloc (.cells #[intV 0, intV 0, .string ⟨#[]⟩, .slice none 0 0] 24) = X := ⟨_, rfl⟩
  have hs0 : w0.heap.size = w.heap.size + 1 := by rw [← hw0]; simp
  have hb0 : Below w.heap.size w w0 := by rw [← hw0]; exact below_box0 w _
  have HX0 := Lib.hid (show w0.heap[w.heap.size]? = some (.cells #[intV 0, intV 0, .string ⟨#[]⟩, .slice none 0 0] 24 (0, 0)) by rw [← hw0]; exact heap_alloc_new _ _)
  have HB0 := Lib.hid hb0
  have HS0' := Lib.hid hs0
  have HT := Lib.hid (hT.below hb0)
  have HW0 := Lib.hid hw0
  clear hd hs hbig hR hw0 hs0 hb0 hT HZ
  go_enter Tryd.func22, Tryd.ntmps22
  go_upto_region 1 with fail
  rw [HW0.out]
  go_wp2_with fail
  go_loopw [4, 5] (fun v4 v5 wr => ∃ (p : Nat) (sl : List Value) (ls : List (List Val)) (P : Nat → Prop), v5 = .int .i64 p ∧ p ≤ s.size ∧ Opens wr w0.heap.size P v4 sl ls ∧ Hid (RInv ls (s.data.toList.drop p) R) ∧ ls.length ≤ p + 1 ∧ Hid (∀ l ∈ ls, l.length ≤ p) ∧ Below w0.heap.size w0 wr) (fun _ v5 _ => s.size - (intOf v5).toNat)
  case atStart => exact ⟨0, _, [[]], _, rfl, Nat.zero_le _, Opens.start w0, Lib.hid (.inl ⟨[], rfl, HR.out⟩), by simp, Lib.hid (by simp), below_box0 w0 _⟩
  case round =>
    obtain ⟨p, sl, ls, P, rfl, hp, hO, HINV, hl1, HL2, hB⟩ := hrel
    obtain ⟨wk, rfl⟩ : ∃ x, x = wr := ⟨_, rfl⟩
    have HO := Lib.hid hO
    have HB := Lib.hid hB
    have hwk : w.heap.size < wk.heap.size := by have := hB.size; have := HS0'.out; omega
    have HBN := Lib.hid ((hB.block _ (by have := HS0'.out; omega)).trans HX0.out)
    have HTK := Lib.hid (HT.out.below hB)
    have hne : 1 ≤ ls.length := by rcases HINV.out with ⟨st, rfl, _⟩ | ⟨v, rfl, _⟩ <;> simp
    obtain ⟨g, bc, rfl⟩ := opens_head hO hne
    clear hO hB
    by_cases hlt : p < s.size
    · obtain ⟨c, hc⟩ : ∃ c, s[p] = c := ⟨_, rfl⟩
      have hdr : s.data.toList.drop p = c :: s.data.toList.drop (p + 1) := by
        rw [List.drop_eq_getElem_cons (by rw [size_list]; exact hlt), ba_get s p hlt, hc]
      have HDR := Lib.hid hdr
      have HC := Lib.hid hc
      clear hc
      have hinv := HINV.out
      rw [hdr] at hinv
      rcases hinv with ⟨st, rfl, hrd⟩ | ⟨v, rfl, hpu⟩
      · have HRD := Lib.hid hrd
        obtain ⟨m, hm⟩ : ∃ m, (([] : List Val) :: st).length = m := ⟨_, rfl⟩
        have HM := Lib.hid hm
        rw [hm] at hl1 hne ⊢
        rw [hm] at HO
        clear hrd hdr HINV hm
        go_upto_region 6 with fail
        go_cut [28] from 15 to 108 (fun s28 W2 => s28 = .bool false ∧ W2 = wk)
        case first =>
          by_cases hm1 : m = 1
          · subst hm1
            obtain rfl : st = [] := by have := HM.out; simp at this; exact this
            obtain ⟨sl', so, sc, rfl, hq1, hq2, hcell⟩ := opens_in (ls := []) HO.out rfl
            simp only [List.length_nil] at hcell
            clear hq1 hq2
            go_wp2_with fail
            go_meet
            case rel => exact ⟨rfl, rfl⟩
          · have hmb : ((m : Int) == 1) = false := by simp; omega
            go_wp2_with fail
            go_meet
            case rel => exact ⟨rfl, rfl⟩
        case rest =>
          obtain ⟨rfl, hwc⟩ := hcut
          rw [hwc]
          clear hwc
          obtain ⟨W1, hW1⟩ : ∃ X, wk.alloc (.cells #[intV 0, intV 0, .string ⟨#[]⟩, .slice none 0 0] 24) = X := ⟨_, rfl⟩
          have hb1 : Below wk.heap.size wk W1 := by rw [← hW1]; exact below_box0 wk _
          have hs1 : W1.heap.size = wk.heap.size + 1 := by rw [← hW1]; simp
          have hbx : W1.heap[wk.heap.size]? = some (.cells #[intV 0, intV 0, .string ⟨#[]⟩, .slice none 0 0] 24 (0, 0)) := by rw [← hW1]; exact heap_alloc_new _ _
          have HO1 := Lib.hid (HO.out.fresh hb1 hs1)
          have HOLD := Lib.hid HO.out.old
          have HBX := Lib.hid hbx
          have HB1 := Lib.hid (HB.out.trans (hb1.mono HB.out.size))
          have HBW1 := Lib.hid (below_seq HB0.out HB1.out HB0.out.size)
          have HBN1 := Lib.hid ((hb1.block _ hwk).trans HBN.out)
          have HT1 := Lib.hid (HTK.out.below hb1)
          have HS1 := Lib.hid hs1
          have HW1 := Lib.hid hW1
          clear hW1 hb1 hbx hs1
          go_upto_region 9 with fail
          rw [HW1.out]
          by_cases k1 : c = 108
          · have kb : ((s[p].toNat : Int) == 108) = true := by rw [HC.out, k1]; rfl
            have HRD2 := Lib.hid (RInv.list (show rd st.reverse (108 :: s.data.toList.drop (p + 1)) = R by rw [← HRD.out, k1]))
            obtain ⟨i0, hi, hz0, hz1, hz2⟩ := info_parts info_sl
            have HO2 := Lib.hid (HO1.out.below (below_box0 W1 (.cells #[.slice none 0 0] 22)))
            have HOWN := Lib.hid (show (W1.alloc (.cells #[.slice none 0 0] 22)).ownsRow w0.heap.size 22 1 (.slice (some ⟨g, 0, none⟩) m bc) m sl by have := HO2.out.own; rwa [HM.out] at this)
            have HNW := Lib.hid (World.news_of_block (show (W1.alloc (.cells #[.slice none 0 0] 22)).heap[W1.heap.size]? = some (.cells #[.slice none 0 0] 22 (0, 0)) from heap_alloc_new _ _))
            have HSA := Lib.hid (show (W1.alloc (.cells #[.slice none 0 0] 22)).heap.size = W1.heap.size + 1 by simp)
            clear k1
            go_wp2_with (at_builtin; go_loud (refine wpList_append_lies _ (by rfl) _ _ 69 (by rfl) w0.heap.size 22 i0 (.slice none 0 0) 1 24 Tryd.underlying69 hi hz0 hz1 hz2 (by rfl) (by decide) _ m sl (by rfl) HOWN.out ⟨W1.heap.size, 0, none⟩ 1 1 [.slice none 0 0] (by rfl) (by rfl) HNW.out (by intro u hu; rw [List.mem_singleton] at hu; subst hu; rfl) (by decide) (by unfold maxLen; omega) (by omega) (by rw [HSA.out]; have := HB1.out.size; omega) (W1.heap.size + 1) HSA.out ?_))
            intro g' cap w2 hown hgrow hat hlt2
            have hO2 := HO2.out.push (v' := .slice (some ⟨g', 0, none⟩) (m + 1) cap) (by rw [HM.out]; exact hown) hgrow.size (fun k hk hne => hgrow.block k hk hne) (by
              rcases hat with hat | hat
              · exact .inl hat.symm
              · exact .inr (by rw [HSA.out, hat]; rfl))
            have hB2 : Below w0.heap.size w0 w2 := (HB1.out.alloc HB1.out.size _).grown hgrow (by rw [HSA.out]; have := HB1.out.size; omega) (fun k hk => (HO2.out.own.lt k hk).1)
            clear hown hgrow hat
            go_wp2
            refine ⟨⟨p + 1, _, _, _, by go_num, by omega, hO2, HRD2, by rw [List.length_append, HM.out, List.length_singleton]; omega, Lib.hid (fun l hl => ?_), hB2⟩, ?_⟩
            · rcases List.mem_append.1 hl with hl | hl
              · have := HL2.out l hl; omega
              · rw [List.mem_singleton] at hl; subst hl; simp
            · simp [intOf]; omega
          · have kb : ((s[p].toNat : Int) == 108) = false := by rw [HC.out]; exact byte_ne (ev := 108) (e := 108) rfl k1
            go_upto_if 43 with fail
            go_cut [4, 5, 7, 8, 9] from 15 to 108 (fun s4 s5 s7 s8 s9 W2 => ∃ (p' : Nat) (bo : Option Addr) (bn bc' : Nat) (x : Val) (uo : Option Addr) (uc : Nat), s4 = .slice bo bn bc' ∧ s5 = .int .i64 p' ∧
              Hid (Below w0.heap.size w0 W2 ∧ W2.heap[wk.heap.size]? = some (.cells #[intV x.kd, intV x.nm, .string x.tx, .slice uo x.its.length uc] 24 (0, 0)) ∧ p < p' ∧ p' ≤ s.size ∧ ∃ (sl1 : List Value) (ls1 : List (List Val)) (P1 : Nat → Prop), Opens W2 w0.heap.size P1 (.slice bo bn bc') sl1 ls1 ∧ VAt W2 P1 (.agg #[intV x.kd, intV x.nm, .string x.tx, .slice uo x.its.length uc]) x ∧
                RPush x ls1 (s.data.toList.drop p') R ∧ ((Value.slice bo bn bc').ownBlock ≠ some wk.heap.size ∧ ∀ (i : Nat) (u : Value), sl1[i]? = some u → u.ownBlock ≠ some wk.heap.size) ∧ ls1.length ≤ p' ∧ ∀ l ∈ ls1, l.length + 1 ≤ p'))
            case first =>
              by_cases k2 : c = 101
              · have kb2 : ((s[p].toNat : Int) == 101) = true := by rw [HC.out, k2]; rfl
                by_cases hm1 : m = 1
                · subst hm1
                  obtain rfl : st = [] := by have := HM.out; simp at this; exact this
                  have HND := Lib.hid (show R = none by rw [← HRD.out, k2]; exact rd_end _ _)
                  obtain ⟨c0, c1, c2, c3⟩ := heap4 HBN1.out
                  obtain ⟨g0, g1, g2, g3⟩ := froz4 HBN1.out
                  obtain ⟨W4, hW4⟩ : ∃ X, (((W1.setCell ⟨w.heap.size, 0, none⟩ (.int .i64 0)).setCell ⟨w.heap.size, 1, none⟩ (.int .i64 0)).setCell ⟨w.heap.size, 2, none⟩ (.string ⟨#[]⟩)).setCell ⟨w.heap.size, 3, none⟩ (.slice none 0 0) = X := ⟨_, rfl⟩
                  have HW := Lib.hid hW4
                  clear hW4 k1 k2
                  go_wp2_with fail
                  rw [HW.out]
                  exact fin_rsyn HND.out HD.out HW.out HBN1.out rfl rfl rfl HBW1.out
                · have hmb : ((m : Int) == 1) = false := by simp; omega
                  obtain ⟨st', l, rfl⟩ : ∃ st' l, st = st' ++ [l] := by
                    rcases List.eq_nil_or_concat st with rfl | ⟨a, b, rfl⟩
                    · exact absurd HM.out.symm hm1
                    · exact ⟨a, b, by simp⟩
                  obtain ⟨n, rfl⟩ : ∃ n, m = n + 1 := ⟨m - 1, by omega⟩
                  have hnl : (([] : List Val) :: st').length = n := by have := HM.out; simp at this ⊢; omega
                  obtain ⟨sl', so, sc, rfl, hsl, _, hcell⟩ := opens_in (ls := [] :: st') (l := l) HO1.out hnl
                  have HPO := Lib.hid (RPush.of_end (ls' := [] :: st') (l := l) (show rd (st' ++ [l]).reverse (101 :: s.data.toList.drop (p + 1)) = R by rw [← HRD.out, k2]) rfl (by simp))
                  have HO1' := Lib.hid (show Opens W1 w0.heap.size _ (.slice (some ⟨g, 0, none⟩) (n + 1) bc) (sl' ++ [.slice so l.length sc]) (([] :: st') ++ [l]) from HO1.out)
                  obtain ⟨cs, hcs1, hcs2⟩ := HO1'.out.last
                  have hlb : l.length ≤ 65536 := by have := HL2.out l (by simp); omega
                  have HLIST := Lib.hid (refList_src l (.slice so l.length sc) _ _ W1 (src_of_own hcs1 hcs2) hlb (fun _ _ h => h) (fun b hb => HO1.out.top b hb))
                  have hn1 : ((n : Int) + 1) - 1 = n := by omega
                  have hn2 : (0 : Int) ≤ n := by omega
                  have hn3 : (n : Int) < n + 1 := by omega
                  have hn4 : (n : Int) ≤ bc := by
                    rcases HO1.out.own.2 with ⟨h, _⟩ | ⟨_, _, _, h, _, _, h2, _⟩
                    · cases h
                    · simp only [Value.slice.injEq] at h
                      obtain ⟨_, e1, e2⟩ := h
                      omega
                  have HNL := Lib.hid hnl
                  have HLB := Lib.hid hlb
                  clear hcs1 hcs2 k1 k2 hnl hsl hlb
                  go_wp2_with fail
                  refine HLIST.out.mono ?_
                  rintro e w2 ⟨u, rfl, hu, hb⟩
                  obtain ⟨uo, uc, rfl, _⟩ := id hu
                  have hbx2 := (hb.block _ (heap_lt HBX.out)).trans HBX.out
                  obtain ⟨c0, c1, c2, c3⟩ := heap4 hbx2
                  obtain ⟨g0, g1, g2, g3⟩ := froz4 hbx2
                  have HBX2 := Lib.hid hbx2
                  have HU := Lib.hid hu
                  have HBB := Lib.hid hb
                  obtain ⟨W2, hW2⟩ : ∃ X, (((w2.setCell ⟨wk.heap.size, 0, none⟩ (.int .i64 3)).setCell ⟨wk.heap.size, 1, none⟩ (.int .i64 0)).setCell ⟨wk.heap.size, 2, none⟩ (.string ⟨#[]⟩)).setCell ⟨wk.heap.size, 3, none⟩ (.slice uo l.length uc) = X := ⟨_, rfl⟩
                  have HW2 := Lib.hid hW2
                  clear hbx2 hu hb hW2 hcell
                  go_wp2_with fail
                  rw [HW2.out]
                  go_meet
                  case rel =>
                    obtain ⟨e1, e2, e3⟩ := set4 HBX2.out HW2.out
                    have hop := (HO1'.out.below HBB.out).pop HNL.out
                    have hsl := fun (i : Nat) (u : Value) (b : Nat) (hs : sl'[i]? = some u) (e : u.ownBlock = some b) => HOLD.out.2 i u b (by rw [List.getElem?_append_left (List.getElem?_eq_some_iff.1 hs).1]; exact hs) e
                    refine ⟨p + 1, some ⟨g, 0, none⟩, n, bc, mkL l, uo, uc, rfl, by go_num, Lib.hid ⟨?_, e1, by omega, by omega, sl', [] :: st', _, hop.upd e2 e3 (fun hp => hp.2 rfl) (fun e => by have := HOLD.out.1 _ e; omega) (fun i u hs e => by have := hsl i u _ hs e; omega), vat_list (by have := HLB.out; omega) (HU.out.keep (fun b hp _ => e2 b hp.2) (by omega)), HPO.out, ⟨fun e => by have := HOLD.out.1 _ e; omega, fun i u hs e => by have := hsl i u _ hs e; omega⟩, ?_, ?_⟩⟩
                    · exact (HB1.out.trans (HBB.out.mono HB1.out.size)).trans (below_set4 HW2.out HB.out.size)
                    · rw [HNL.out]; omega
                    · intro l' hl'
                      have := HL2.out l' (by rw [← List.cons_append]; exact List.mem_append_left _ hl')
                      omega
              · have kb2 : ((s[p].toNat : Int) == 101) = false := by rw [HC.out]; exact byte_ne (ev := 101) (e := 101) rfl k2
                obtain ⟨rb, hrb⟩ : ∃ rb, s.extract p s.size = rb := ⟨_, rfl⟩
                have hrd : rb.data.toList = s.data.toList.drop p := by rw [← hrb, ext_list, List.take_of_length_le]; rw [List.length_drop, size_list]; omega
                have hrl : rb.data.toList = c :: s.data.toList.drop (p + 1) := hrd.trans HDR.out
                have hrs : rb.size = s.size - p := by rw [← size_list, hrd, List.length_drop, size_list]
                have HIT := Lib.hid (item_any c _ rb hrl (by omega) W1 HT1.out)
                have HONE := Lib.hid (show (match one rb.data.toList with | none => none | some (v, r') => push v st.reverse r') = R by rw [hrl]; exact (rd_one _ _ _ k1 k2).symm.trans HRD.out)
                have HRL := Lib.hid hrd
                have HRS := Lib.hid hrs
                have hp0 : (0 : Int) ≤ p := by omega
                have hp1 : (p : Int) ≤ s.size := by omega
                clear k1 k2 hrd hrl hrs
                go_wp2_with fail
                refine HIT.out.mono ?_
                rintro e w2 ⟨y, k, b, rfl, ⟨hy1, hy2, hk, hor⟩, hb⟩
                obtain ⟨w3, hw3⟩ : ∃ X, w2.alloc (.cells #[intV y.kd, intV y.nm, .string y.tx, .slice none 0 0] 24) = X := ⟨_, rfl⟩
                have hb3 : Below w2.heap.size w2 w3 := by rw [← hw3]; exact below_box0 w2 _
                have hy3 : w3.heap[w2.heap.size]? = some (.cells #[intV y.kd, intV y.nm, .string y.tx, .slice none 0 0] 24 (0, 0)) := by rw [← hw3]; exact heap_alloc_new _ _
                have HB13 := Lib.hid (below_seq hb hb3 hb.size)
                have HBX3 := Lib.hid ((HB13.out.block _ (heap_lt HBX.out)).trans HBX.out)
                have HBN3 := Lib.hid ((HB13.out.block _ (heap_lt HBN1.out)).trans HBN1.out)
                have HW3 := Lib.hid hw3
                have HY := Lib.hid (And.intro hy1 hy2)
                have hk2 : k ≤ s.size - p := by rw [← HRS.out]; exact hk
                have HY3 := Lib.hid hy3
                clear hw3 hy1 hy2 hb hb3 hk hy3
                go_upto_region 19 with fail
                rw [HW3.out]
                rcases hor with ⟨rfl, hk1, hone⟩ | ⟨rfl, hone⟩
                · have HONE2 := Lib.hid hone
                  obtain ⟨c0, c1, c2, c3⟩ := heap4 HBX3.out
                  obtain ⟨g0, g1, g2, g3⟩ := froz4 HBX3.out
                  obtain ⟨d0, d1, d2, d3⟩ := heap4 HY3.out
                  obtain ⟨W2, hW2⟩ : ∃ X, (((w3.setCell ⟨wk.heap.size, 0, none⟩ (.int .i64 y.kd)).setCell ⟨wk.heap.size, 1, none⟩ (.int .i64 y.nm)).setCell ⟨wk.heap.size, 2, none⟩ (.string y.tx)).setCell ⟨wk.heap.size, 3, none⟩ (.slice none 0 0) = X := ⟨_, rfl⟩
                  have HW2 := Lib.hid hW2
                  clear hone hW2
                  go_wp2_with fail
                  rw [HW2.out]
                  go_meet
                  case rel =>
                    obtain ⟨e1, e2, e3⟩ := set4 HBX3.out HW2.out
                    have hlen : y.its.length = 0 := by rw [HY.out.1]; rfl
                    refine ⟨p + k, some ⟨g, 0, none⟩, m, bc, y, none, 0, rfl, by go_num, Lib.hid ⟨?_, by rw [hlen]; exact e1, by omega, by omega, sl, [] :: st, _, (HO1.out.below HB13.out).upd e2 e3 (fun hp => hp.2 rfl) (fun e => by have := HOLD.out.1 _ e; omega) (fun i u hs e => by have := HOLD.out.2 i u _ hs e; omega), by rw [hlen]; exact HY.out.2 _ _, ⟨st, rfl, ?_⟩, ⟨fun e => by have := HOLD.out.1 _ e; omega, fun i u hs e => by have := HOLD.out.2 i u _ hs e; omega⟩, ?_, ?_⟩⟩
                    · exact (HB1.out.trans (HB13.out.mono HB1.out.size)).trans (below_set4 HW2.out HB.out.size)
                    · have h1 := HONE.out
                      rw [HONE2.out] at h1
                      simp only [] at h1
                      rw [HRL.out, List.drop_drop] at h1
                      exact h1
                    · rw [HM.out]; omega
                    · intro l' hl'
                      have := HL2.out l' hl'
                      omega
                · have HND := Lib.hid (show R = none by rw [← HONE.out, hone])
                  obtain ⟨c0, c1, c2, c3⟩ := heap4 HBN3.out
                  obtain ⟨g0, g1, g2, g3⟩ := froz4 HBN3.out
                  obtain ⟨W4, hW4⟩ : ∃ X, (((w3.setCell ⟨w.heap.size, 0, none⟩ (.int .i64 0)).setCell ⟨w.heap.size, 1, none⟩ (.int .i64 0)).setCell ⟨w.heap.size, 2, none⟩ (.string ⟨#[]⟩)).setCell ⟨w.heap.size, 3, none⟩ (.slice none 0 0) = X := ⟨_, rfl⟩
                  have HW := Lib.hid hW4
                  clear hW4 hone
                  go_wp2_with fail
                  rw [HW.out]
                  exact fin_rsyn HND.out HD.out HW.out HBN3.out rfl rfl rfl (below_seq HBW1.out HB13.out HBW1.out.size)
            case rest =>
              obtain ⟨p', bo, bn, bc1, x, uo, uc, rfl, rfl, HH⟩ := hcut
              obtain ⟨hBW, hbx, hp1, hp2, sl1, ls1, P1, hO1, hV1, hpu, ⟨hf1, hf2⟩, hq1, hq2⟩ := HH.out
              obtain ⟨ls', l, rfl⟩ : ∃ ls' l, ls1 = ls' ++ [l] := by
                obtain ⟨st1, rfl, _⟩ := hpu
                rcases List.eq_nil_or_concat ([] :: st1) with h | ⟨a, b, h⟩
                · cases h
                · exact ⟨a, b, by simpa using h⟩
              obtain ⟨g1, cap1, hv⟩ := opens_head hO1 (by simp)
              simp only [Value.slice.injEq] at hv
              obtain ⟨rfl, hbn, rfl⟩ := hv
              clear hbn
              obtain ⟨n, hn⟩ : ∃ n, ls'.length = n := ⟨_, rfl⟩
              obtain ⟨sl', so, sc, rfl, hsl, hm1, hcell⟩ := opens_in hO1 hn
              subst hm1
              have HN := Lib.hid (And.intro hn hsl)
              have hlb : l.length ≤ 65536 ∧ n ≤ 65536 ∧ w0.heap.size ≤ wc.heap.size := by
                refine ⟨?_, ?_, hBW.size⟩
                · have := hq2 l (by simp); omega
                · rw [List.length_append, List.length_singleton, hn] at hq1; omega
              have HLB := Lib.hid hlb
              have hn1 : ((n : Int) + 1) - 1 = n := by omega
              have hn2 : (0 : Int) ≤ n := by omega
              have hn3 : (n : Int) < n + 1 := by omega
              have hnb : (n : Int) ≤ 65536 := by omega
              have hl0 : (0 : Int) ≤ l.length := by omega
              have hl1' : (l.length : Int) < l.length + 1 := by omega
              have HPU := Lib.hid hpu.add
              have HOP := Lib.hid hO1
              have HV := Lib.hid hV1
              have HBW := Lib.hid hBW
              have HBX2 := Lib.hid hbx
              have HFR := Lib.hid (And.intro hf1 (hf2 sl'.length (.slice so l.length sc) (by simp)))
              have HQ := Lib.hid (And.intro hq1 hq2)
              have hgne' : wk.heap.size ≠ g1 := fun e => hf1 (by rw [e]; rfl)
              have HCELL := Lib.hid hcell
              obtain ⟨i0, hi, hz0, hz1, hz2⟩ := info_parts info_val
              clear hBW hbx hO1 hV1 hpu hf1 hf2 hq1 hq2 hn hsl hlb HH hcell hl1 hne hp HC hlt kb k1 hwk
              go_wp2
              refine wp_region_noPanic ?_
              refine wp_region_any (by kernel_rfl) (wpAny_of_k (S := fun _ => True) (S' := fun _ => True) (k := 99) _ _ _ _ ?_)
              change wpAnyK _ _ _ _ _ _ _ 4 _ _ wc.drew
              refine wpAnyK_all (rs := [0]) (by kernel_rfl) (by simp) ?_
              intro i hi
              obtain rfl := List.mem_singleton.1 hi
              clear hi
              refine wpOp_step rfl fun K hK => ?_
              go_simp
              refine hK _ _ ⟨fun _ => trivial, trivial, ?_⟩
              clear hK K
              refine wpAnyK_all (rs := [1, 2]) (by kernel_rfl) (by simp) ?_
              intro i hi
              simp only [List.mem_cons, List.mem_nil_iff, or_false] at hi
              rcases hi with rfl | rfl
              · refine wpOp_step rfl fun K hK => ?_
                go_simp
                refine hK _ _ ⟨fun _ => trivial, trivial, ?_⟩
                clear hK K
                refine wpAnyK_all (rs := [2]) (by kernel_rfl) (by simp) ?_
                intro i hi
                obtain rfl := List.mem_singleton.1 hi
                clear hi
                refine wpOp_step rfl fun K hK => ?_
                go_simp
                refine hK _ _ ⟨fun _ => trivial, trivial, ?_⟩
                clear hK K
                refine wpAnyK_all (rs := [3]) (by kernel_rfl) (by simp) ?_
                intro i hi
                obtain rfl := List.mem_singleton.1 hi
                clear hi
                refine wpOp_step rfl fun K hK => ?_
                go_simp
                refine hK _ _ ⟨fun _ => trivial, trivial, ?_⟩
                clear hK K
                refine wpAnyK_done (by kernel_rfl) ?_ _
                refine NoPanic.normal ?_
                obtain ⟨wB, hwB⟩ : ∃ X, (wc.alloc (.cells #[.bool false] 4)).drew = X := ⟨_, rfl⟩
                rw [hwB]
                have hbB : Below wc.heap.size wc wB := by rw [← hwB]; exact (below_box0 wc _).drew
                have HOB := Lib.hid (HOP.out.below hbB)
                have HVB := Lib.hid (HV.out.below hbB)
                have hbxB := (hbB.block _ (heap_lt HBX2.out)).trans HBX2.out
                have hcell : wB.cell? ⟨g1, n, none⟩ = some (.slice so l.length sc) := (World.cell?_of_block (hbB.block g1 (HOP.out.own.lt g1 rfl).2)).trans HCELL.out
                have HBB := Lib.hid hbB
                obtain ⟨WL, hWL⟩ : ∃ X, (wB.alloc (.cells #[intV x.kd, intV x.nm, .string x.tx, .slice uo x.its.length uc] 24)).drew = X := ⟨_, rfl⟩
                obtain ⟨cs, hcs, hown, hnw, hsa, hbl, hfar⟩ := tail_facts _ _ _ _ HOB.out HN.out hbxB HFR.out.2 hcell hWL
                have HCS := Lib.hid hcs
                have HBL := Lib.hid hbl
                have HSA := Lib.hid hsa
                have HFAR := Lib.hid hfar
                have HWL := Lib.hid hWL
                have HOWN' := Lib.hid (show ((wB.alloc (.cells #[intV x.kd, intV x.nm, .string x.tx, .slice uo x.its.length uc] 24)).drew).ownsRow w0.heap.size 24 4 (.slice so l.length sc) l.length cs by rw [hWL]; exact hown)
                have HNW' := Lib.hid (show ∀ j (u : Value), [intV x.kd, intV x.nm, .string x.tx, .slice uo x.its.length uc][j]? = some u → ((wB.alloc (.cells #[intV x.kd, intV x.nm, .string x.tx, .slice uo x.its.length uc] 24)).drew).cell? ((⟨wB.heap.size, 0, none⟩ : Addr).add j) = some u by rw [hWL]; exact hnw)
                have HSA' := Lib.hid (show ((wB.alloc (.cells #[intV x.kd, intV x.nm, .string x.tx, .slice uo x.its.length uc] 24)).drew).heap.size = wB.heap.size + 1 by rw [hWL]; exact hsa)
                have HBXB := Lib.hid hbxB
                obtain ⟨c0, c1, c2, c3⟩ := heap4 hbxB
                have HS0 := Lib.hid (show wB.drew.cell? ⟨g1, n, none⟩ = some (.slice so l.length sc) from hcell)
                have HS1 := Lib.hid (show wB.drew.cell? ⟨wk.heap.size, 0, none⟩ = some (intV x.kd) ∧ wB.drew.cell? ⟨wk.heap.size, 1, none⟩ = some (intV x.nm) ∧ wB.drew.cell? ⟨wk.heap.size, 2, none⟩ = some (.string x.tx) ∧ wB.drew.cell? ⟨wk.heap.size, 3, none⟩ = some (.slice uo x.its.length uc) from ⟨c0, c1, c2, c3⟩)
                have hlw : w0.heap.size ≤ wB.heap.size := by have := hbB.size; have := HLB.out.2.2; omega
                have HLW := Lib.hid hlw
                clear hwB hbB hbxB hWL hcs hown hnw hsa hbl hfar hlw
                go_wp2
                refine wp_region_noPanic ?_
                refine wp_region_any (by kernel_rfl) (wpAny_of_k (S := fun w' => w'.cell? ⟨g1, n, none⟩ = some (.slice so l.length sc)) (S' := fun w' => w'.cell? ⟨wk.heap.size, 0, none⟩ = some (intV x.kd) ∧ w'.cell? ⟨wk.heap.size, 1, none⟩ = some (intV x.nm) ∧ w'.cell? ⟨wk.heap.size, 2, none⟩ = some (.string x.tx) ∧ w'.cell? ⟨wk.heap.size, 3, none⟩ = some (.slice uo x.its.length uc)) (k := 12) _ _ _ _ ?_)
                change wpAnyK _ _ _ _ _ _ _ 15 _ _ wB.drew
                refine wpAnyK_takeD (i := 0) (v := .slice (some ⟨g1, 0, none⟩) (n + 1) bc1) (some 95) rfl rfl (by kernel_rfl) (by kernel_rfl) (by kernel_rfl) (by decide) (fun _ _ _ h => h) (Or.inl ⟨by rfl, fun w' hw' => ?_⟩) (fun _ => HS0.out) HS1.out ?_
                · go_simp
                (try simp only [Act.put, List.setIfInBounds_toArray, List.set_cons_zero, List.set_cons_succ])
                refine wpAnyK_takeD (i := 1) (v := .slice (some ⟨g1, 0, none⟩) (n + 1) bc1) (some 96) rfl rfl (by kernel_rfl) (by kernel_rfl) (by kernel_rfl) (by decide) (fun _ _ _ h => h) (Or.inl ⟨by rfl, fun w' hw' => ?_⟩) (fun _ => HS0.out) HS1.out ?_
                · go_simp
                (try simp only [Act.put, List.setIfInBounds_toArray, List.set_cons_zero, List.set_cons_succ])
                refine wpAnyK_takeD (i := 2) (v := .int .i64 (n + 1)) (some 97) rfl rfl (by kernel_rfl) (by kernel_rfl) (by kernel_rfl) (by decide) (fun _ _ _ h => h) (Or.inl ⟨by rfl, fun w' hw' => ?_⟩) (fun _ => HS0.out) HS1.out ?_
                · go_simp
                (try simp only [Act.put, List.setIfInBounds_toArray, List.set_cons_zero, List.set_cons_succ])
                refine wpAnyK_takeD (i := 3) (v := .int .i64 n) (some 98) rfl rfl (by kernel_rfl) (by kernel_rfl) (by kernel_rfl) (by decide) (fun _ _ _ h => h) (Or.inl ⟨by rfl, fun w' hw' => ?_⟩) (fun _ => HS0.out) HS1.out ?_
                · go_simp
                  exact IntWalk.i64_in _ (by omega)
                (try simp only [Act.put, List.setIfInBounds_toArray, List.set_cons_zero, List.set_cons_succ])
                refine wpAnyK_takeD (i := 4) (v := .slice (some ⟨g1, 0, none⟩) (n + 1) bc1) (some 99) rfl rfl (by kernel_rfl) (by kernel_rfl) (by kernel_rfl) (by decide) (fun _ _ _ h => h) (Or.inl ⟨by rfl, fun w' hw' => ?_⟩) (fun _ => HS0.out) HS1.out ?_
                · go_simp
                (try simp only [Act.put, List.setIfInBounds_toArray, List.set_cons_zero, List.set_cons_succ])
                refine wpAnyK_takeD (i := 5) (v := .slice (some ⟨g1, 0, none⟩) (n + 1) bc1) (some 100) rfl rfl (by kernel_rfl) (by kernel_rfl) (by kernel_rfl) (by decide) (fun _ _ _ h => h) (Or.inl ⟨by rfl, fun w' hw' => ?_⟩) (fun _ => HS0.out) HS1.out ?_
                · go_simp
                (try simp only [Act.put, List.setIfInBounds_toArray, List.set_cons_zero, List.set_cons_succ])
                refine wpAnyK_takeD (i := 6) (v := .int .i64 (n + 1)) (some 101) rfl rfl (by kernel_rfl) (by kernel_rfl) (by kernel_rfl) (by decide) (fun _ _ _ h => h) (Or.inl ⟨by rfl, fun w' hw' => ?_⟩) (fun _ => HS0.out) HS1.out ?_
                · go_simp
                (try simp only [Act.put, List.setIfInBounds_toArray, List.set_cons_zero, List.set_cons_succ])
                refine wpAnyK_takeD (i := 7) (v := .int .i64 n) (some 102) rfl rfl (by kernel_rfl) (by kernel_rfl) (by kernel_rfl) (by decide) (fun _ _ _ h => h) (Or.inl ⟨by rfl, fun w' hw' => ?_⟩) (fun _ => HS0.out) HS1.out ?_
                · go_simp
                  exact IntWalk.i64_in _ (by omega)
                (try simp only [Act.put, List.setIfInBounds_toArray, List.set_cons_zero, List.set_cons_succ])
                refine wpAnyK_takeD (i := 8) (v := .pointer (some ⟨g1, n, none⟩)) (some 103) rfl rfl (by kernel_rfl) (by kernel_rfl) (by kernel_rfl) (by decide) (fun _ _ _ h => h) (Or.inl ⟨by rfl, fun w' hw' => ?_⟩) (fun _ => HS0.out) HS1.out ?_
                · go_simp
                (try simp only [Act.put, List.setIfInBounds_toArray, List.set_cons_zero, List.set_cons_succ])
                refine wpAnyK_take (i := 9) (v := .slice so l.length sc) rfl rfl (by kernel_rfl) (by kernel_rfl) (by kernel_rfl) (by kernel_rfl) (by kernel_rfl) (by decide) (fun _ _ _ h => h) (Or.inl ⟨by rfl, fun w' hw' => ?_⟩) HS0.out HS1.out ?_
                · dsimp only at hw'
                  go_simp
                (try simp only [Act.put, List.setIfInBounds_toArray, List.set_cons_zero, List.set_cons_succ])
                refine wpAnyK_takeD (i := 10) (v := .agg #[intV x.kd, intV x.nm, .string x.tx, .slice uo x.its.length uc]) (some 105) rfl rfl (by kernel_rfl) (by kernel_rfl) (by kernel_rfl) (by decide) (fun _ _ _ h => h) (Or.inl ⟨by rfl, fun w' hw' => ?_⟩) (fun _ => HS0.out) HS1.out ?_
                · obtain ⟨b0, b1, b2, b3⟩ := hw'
                  go_simp
                (try simp only [Act.put, List.setIfInBounds_toArray, List.set_cons_zero, List.set_cons_succ])
                refine wpAnyK_all (rs := [11]) (by kernel_rfl) (by simp) ?_
                intro i hi
                obtain rfl := List.mem_singleton.1 hi
                clear hi
                refine wpOp_step rfl fun K hK => ?_
                go_simp
                refine hK _ _ ⟨fun _ => cell_alloc HS0.out, ⟨cell_alloc c0, cell_alloc c1, cell_alloc c2, cell_alloc c3⟩, ?_⟩
                clear hK K
                refine wpAnyK_all (rs := [12]) (by kernel_rfl) (by simp) ?_
                intro i hi
                obtain rfl := List.mem_singleton.1 hi
                clear hi
                refine wpOp_step rfl fun K hK => ?_
                refine step_append_lies _ (by rfl) _ _ 22 (by rfl) w0.heap.size 24 i0 (.agg #[intV 0, intV 0, .string ⟨#[]⟩, .slice none 0 0]) 4 56 Tryd.underlying22 hi hz0 hz1 hz2 (by rfl) (by decide) (.slice so l.length sc) l.length cs (by rfl) HOWN'.out ⟨wB.heap.size, 0, none⟩ 1 1 [intV x.kd, intV x.nm, .string x.tx, .slice uo x.its.length uc] (by rfl) (by rfl) HNW'.out (by intro u hu; simp only [List.mem_cons, List.mem_nil_iff, or_false] at hu; rcases hu with rfl | rfl | rfl | rfl <;> rfl) (by decide) (by have := HLB.out; unfold maxLen; omega) (by have := HLB.out; omega) (by rw [HSA'.out]; have := HLW.out; omega) (wB.heap.size + 1) HSA'.out ?_
                intro g2 cap2 w2 hown2 hgrow2 hat2 hlt2
                rw [HWL.out] at hgrow2
                obtain ⟨⟨q1, q2, q3⟩, ⟨r0, r1, r2, r3⟩, ⟨t0, t1, t2, t3⟩, q8, q9⟩ := HFAR.out g2 cap2 w2 hown2 hgrow2 hat2
                obtain ⟨p0, p1, p2, p3⟩ := heap4 (q8.trans HBXB.out)
                have q6 : g2 ≠ g1 := fun e => q3 e.symm
                have HO2 := Lib.hid (And.intro hown2 (And.intro hgrow2 (And.intro hat2 (And.intro hlt2 q8))))
                clear hown2 hgrow2 hat2 hlt2 q8
                refine hK _ _ ⟨fun h => (nomatch (h.symm.trans (show _ = true by kernel_rfl))), ⟨p0, p1, p2, p3⟩, ?_⟩
                clear hK K
                (try simp only [Act.put, List.setIfInBounds_toArray, List.set_cons_zero, List.set_cons_succ])
                refine wpAnyK_takeD (i := 13) (v := .pointer (some ⟨g1, n, none⟩)) (some 108) rfl rfl (by kernel_rfl) (by kernel_rfl) (by kernel_rfl) (by decide) (fun _ _ _ h => h) (Or.inl ⟨by rfl, fun w' hw' => ?_⟩) (fun h => (nomatch (h.symm.trans (show _ = true by kernel_rfl)))) ⟨p0, p1, p2, p3⟩ ?_
                · go_simp
                (try simp only [Act.put, List.setIfInBounds_toArray, List.set_cons_zero, List.set_cons_succ])
                clear c0 c1 c2 c3 hcell
                refine wpAnyK_all (rs := [14]) (by kernel_rfl) (by simp) ?_
                intro i hi
                obtain rfl := List.mem_singleton.1 hi
                clear hi
                refine wpOp_step rfl fun K hK => ?_
                go_simp
                refine hK _ _ ⟨fun h => (nomatch (h.symm.trans (show _ = true by kernel_rfl))), ⟨cell_other1 p0 hgne', cell_other1 p1 hgne', cell_other1 p2 hgne', cell_other1 p3 hgne'⟩, ?_⟩
                clear hK K
                refine wpAnyK_done (by kernel_rfl) ?_ _
                refine NoPanic.normal ?_
                go_wp2
                obtain ⟨hown2, hgrow2, hat2, hlt2, q8⟩ := HO2.out
                have hA := HOB.out.added1 HN.out HBL.out HSA.out hown2 hgrow2 hat2 q3 HCS.out HVB.out rfl
                refine ⟨⟨p', _, _, _, rfl, hp2, hA.1, HPU, by have := HQ.out.1; rw [List.length_append, List.length_singleton] at this ⊢; omega, Lib.hid (fun l' hl' => ?_), (HBW.out.trans (HBB.out.mono HLB.out.2.2)).trans hA.2⟩, ?_⟩
                · rcases List.mem_append.1 hl' with hl' | hl'
                  · have := HQ.out.2 l' (List.mem_append_left _ hl'); omega
                  · rw [List.mem_singleton] at hl'; subst hl'
                    have := HQ.out.2 l (by simp)
                    rw [List.length_append, List.length_singleton]; omega
                · simp [intOf]; omega
              · refine wpOp_step rfl fun K hK => ?_
                go_simp
                refine hK _ _ ⟨fun _ => trivial, trivial, ?_⟩
                clear hK K
                refine wpAnyK_all (rs := [1]) (by kernel_rfl) (by simp) ?_
                intro i hi
                obtain rfl := List.mem_singleton.1 hi
                clear hi
                refine wpOp_step rfl fun K hK => ?_
                go_simp
                refine hK _ _ ⟨fun _ => trivial, trivial, ?_⟩
                clear hK K
                refine wpAnyK_all (rs := [3]) (by kernel_rfl) (by simp) ?_
                intro i hi
                obtain rfl := List.mem_singleton.1 hi
                clear hi
                refine wpOp_step rfl fun K hK => ?_
                go_simp
                refine hK _ _ ⟨fun _ => trivial, trivial, ?_⟩
                clear hK K
                refine wpAnyK_done (by kernel_rfl) ?_ _
                refine NoPanic.normal ?_
                obtain ⟨wB, hwB⟩ : ∃ X, (wc.alloc (.cells #[.bool true] 4)).drew = X := ⟨_, rfl⟩
                rw [hwB]
                have hbB : Below wc.heap.size wc wB := by rw [← hwB]; exact (below_box0 wc _).drew
                have HOB := Lib.hid (HOP.out.below hbB)
                have HVB := Lib.hid (HV.out.below hbB)
                have hbxB := (hbB.block _ (heap_lt HBX2.out)).trans HBX2.out
                have hcell : wB.cell? ⟨g1, n, none⟩ = some (.slice so l.length sc) := (World.cell?_of_block (hbB.block g1 (HOP.out.own.lt g1 rfl).2)).trans HCELL.out
                have HBB := Lib.hid hbB
                obtain ⟨WL, hWL⟩ : ∃ X, (wB.alloc (.cells #[intV 0, intV 0, .string ⟨#[]⟩, .slice none 0 0] 24)).drew = X := ⟨_, rfl⟩
                obtain ⟨cs, hcs, hown, hnw, hsa, hbl, hfar⟩ := tail_facts _ _ _ _ HOB.out HN.out hbxB HFR.out.2 hcell hWL
                have HCS := Lib.hid hcs
                have HBL := Lib.hid hbl
                have HSA := Lib.hid hsa
                have HFAR := Lib.hid hfar
                have HWL := Lib.hid hWL
                have HOWN' := Lib.hid (show ((wB.alloc (.cells #[intV 0, intV 0, .string ⟨#[]⟩, .slice none 0 0] 24)).drew).ownsRow w0.heap.size 24 4 (.slice so l.length sc) l.length cs by rw [hWL]; exact hown)
                have HNW' := Lib.hid (show ∀ j (u : Value), [intV 0, intV 0, .string ⟨#[]⟩, .slice none 0 0][j]? = some u → ((wB.alloc (.cells #[intV 0, intV 0, .string ⟨#[]⟩, .slice none 0 0] 24)).drew).cell? ((⟨wB.heap.size, 0, none⟩ : Addr).add j) = some u by rw [hWL]; exact hnw)
                have HSA' := Lib.hid (show ((wB.alloc (.cells #[intV 0, intV 0, .string ⟨#[]⟩, .slice none 0 0] 24)).drew).heap.size = wB.heap.size + 1 by rw [hWL]; exact hsa)
                have HBXB := Lib.hid hbxB
                obtain ⟨c0, c1, c2, c3⟩ := heap4 hbxB
                have HS0 := Lib.hid (show wB.drew.cell? ⟨g1, n, none⟩ = some (.slice so l.length sc) from hcell)
                have HS1 := Lib.hid (show wB.drew.cell? ⟨wk.heap.size, 0, none⟩ = some (intV x.kd) ∧ wB.drew.cell? ⟨wk.heap.size, 1, none⟩ = some (intV x.nm) ∧ wB.drew.cell? ⟨wk.heap.size, 2, none⟩ = some (.string x.tx) ∧ wB.drew.cell? ⟨wk.heap.size, 3, none⟩ = some (.slice uo x.its.length uc) from ⟨c0, c1, c2, c3⟩)
                have hlw : w0.heap.size ≤ wB.heap.size := by have := hbB.size; have := HLB.out.2.2; omega
                have HLW := Lib.hid hlw
                clear hwB hbB hbxB hWL hcs hown hnw hsa hbl hfar hlw
                go_wp2
                refine wp_region_noPanic ?_
                refine wp_region_any (by kernel_rfl) (wpAny_of_k (S := fun w' => w'.cell? ⟨g1, n, none⟩ = some (.slice so l.length sc)) (S' := fun w' => w'.cell? ⟨wk.heap.size, 0, none⟩ = some (intV x.kd) ∧ w'.cell? ⟨wk.heap.size, 1, none⟩ = some (intV x.nm) ∧ w'.cell? ⟨wk.heap.size, 2, none⟩ = some (.string x.tx) ∧ w'.cell? ⟨wk.heap.size, 3, none⟩ = some (.slice uo x.its.length uc)) (k := 13) _ _ _ _ ?_)
                change wpAnyK _ _ _ _ _ _ _ 16 _ _ wB.drew
                refine wpAnyK_takeD (i := 0) (v := .slice (some ⟨g1, 0, none⟩) (n + 1) bc1) (some 79) rfl rfl (by kernel_rfl) (by kernel_rfl) (by kernel_rfl) (by decide) (fun _ _ _ h => h) (Or.inl ⟨by rfl, fun w' hw' => ?_⟩) (fun _ => HS0.out) HS1.out ?_
                · go_simp
                (try simp only [Act.put, List.setIfInBounds_toArray, List.set_cons_zero, List.set_cons_succ])
                refine wpAnyK_takeD (i := 1) (v := .slice (some ⟨g1, 0, none⟩) (n + 1) bc1) (some 80) rfl rfl (by kernel_rfl) (by kernel_rfl) (by kernel_rfl) (by decide) (fun _ _ _ h => h) (Or.inl ⟨by rfl, fun w' hw' => ?_⟩) (fun _ => HS0.out) HS1.out ?_
                · go_simp
                (try simp only [Act.put, List.setIfInBounds_toArray, List.set_cons_zero, List.set_cons_succ])
                refine wpAnyK_takeD (i := 2) (v := .int .i64 (n + 1)) (some 81) rfl rfl (by kernel_rfl) (by kernel_rfl) (by kernel_rfl) (by decide) (fun _ _ _ h => h) (Or.inl ⟨by rfl, fun w' hw' => ?_⟩) (fun _ => HS0.out) HS1.out ?_
                · go_simp
                (try simp only [Act.put, List.setIfInBounds_toArray, List.set_cons_zero, List.set_cons_succ])
                refine wpAnyK_takeD (i := 3) (v := .int .i64 n) (some 82) rfl rfl (by kernel_rfl) (by kernel_rfl) (by kernel_rfl) (by decide) (fun _ _ _ h => h) (Or.inl ⟨by rfl, fun w' hw' => ?_⟩) (fun _ => HS0.out) HS1.out ?_
                · go_simp
                  exact IntWalk.i64_in _ (by omega)
                (try simp only [Act.put, List.setIfInBounds_toArray, List.set_cons_zero, List.set_cons_succ])
                refine wpAnyK_takeD (i := 4) (v := .slice (some ⟨g1, 0, none⟩) (n + 1) bc1) (some 83) rfl rfl (by kernel_rfl) (by kernel_rfl) (by kernel_rfl) (by decide) (fun _ _ _ h => h) (Or.inl ⟨by rfl, fun w' hw' => ?_⟩) (fun _ => HS0.out) HS1.out ?_
                · go_simp
                (try simp only [Act.put, List.setIfInBounds_toArray, List.set_cons_zero, List.set_cons_succ])
                refine wpAnyK_takeD (i := 5) (v := .slice (some ⟨g1, 0, none⟩) (n + 1) bc1) (some 84) rfl rfl (by kernel_rfl) (by kernel_rfl) (by kernel_rfl) (by decide) (fun _ _ _ h => h) (Or.inl ⟨by rfl, fun w' hw' => ?_⟩) (fun _ => HS0.out) HS1.out ?_
                · go_simp
                (try simp only [Act.put, List.setIfInBounds_toArray, List.set_cons_zero, List.set_cons_succ])
                refine wpAnyK_takeD (i := 6) (v := .int .i64 (n + 1)) (some 85) rfl rfl (by kernel_rfl) (by kernel_rfl) (by kernel_rfl) (by decide) (fun _ _ _ h => h) (Or.inl ⟨by rfl, fun w' hw' => ?_⟩) (fun _ => HS0.out) HS1.out ?_
                · go_simp
                (try simp only [Act.put, List.setIfInBounds_toArray, List.set_cons_zero, List.set_cons_succ])
                refine wpAnyK_takeD (i := 7) (v := .int .i64 n) (some 86) rfl rfl (by kernel_rfl) (by kernel_rfl) (by kernel_rfl) (by decide) (fun _ _ _ h => h) (Or.inl ⟨by rfl, fun w' hw' => ?_⟩) (fun _ => HS0.out) HS1.out ?_
                · go_simp
                  exact IntWalk.i64_in _ (by omega)
                (try simp only [Act.put, List.setIfInBounds_toArray, List.set_cons_zero, List.set_cons_succ])
                refine wpAnyK_takeD (i := 8) (v := .pointer (some ⟨g1, n, none⟩)) (some 87) rfl rfl (by kernel_rfl) (by kernel_rfl) (by kernel_rfl) (by decide) (fun _ _ _ h => h) (Or.inl ⟨by rfl, fun w' hw' => ?_⟩) (fun _ => HS0.out) HS1.out ?_
                · go_simp
                (try simp only [Act.put, List.setIfInBounds_toArray, List.set_cons_zero, List.set_cons_succ])
                refine wpAnyK_take (i := 9) (v := .slice so l.length sc) rfl rfl (by kernel_rfl) (by kernel_rfl) (by kernel_rfl) (by kernel_rfl) (by kernel_rfl) (by decide) (fun _ _ _ h => h) (Or.inl ⟨by rfl, fun w' hw' => ?_⟩) HS0.out HS1.out ?_
                · dsimp only at hw'
                  go_simp
                (try simp only [Act.put, List.setIfInBounds_toArray, List.set_cons_zero, List.set_cons_succ])
                refine wpAnyK_takeD (i := 10) (v := .agg #[intV x.kd, intV x.nm, .string x.tx, .slice uo x.its.length uc]) (some 89) rfl rfl (by kernel_rfl) (by kernel_rfl) (by kernel_rfl) (by decide) (fun _ _ _ h => h) (Or.inl ⟨by rfl, fun w' hw' => ?_⟩) (fun _ => HS0.out) HS1.out ?_
                · obtain ⟨b0, b1, b2, b3⟩ := hw'
                  go_simp
                (try simp only [Act.put, List.setIfInBounds_toArray, List.set_cons_zero, List.set_cons_succ])
                refine wpAnyK_takeD (i := 11) (v := .int .i64 l.length) (some 90) rfl rfl (by kernel_rfl) (by kernel_rfl) (by kernel_rfl) (by decide) (fun _ _ _ h => h) (Or.inl ⟨by rfl, fun w' hw' => ?_⟩) (fun _ => HS0.out) HS1.out ?_
                · go_simp
                (try simp only [Act.put, List.setIfInBounds_toArray, List.set_cons_zero, List.set_cons_succ])
                refine wpAnyK_all (rs := [12]) (by kernel_rfl) (by simp) ?_
                intro i hi
                obtain rfl := List.mem_singleton.1 hi
                clear hi
                refine wpOp_step rfl fun K hK => ?_
                go_simp
                refine hK _ _ ⟨fun _ => cell_alloc HS0.out, ⟨cell_alloc c0, cell_alloc c1, cell_alloc c2, cell_alloc c3⟩, ?_⟩
                clear hK K
                refine wpAnyK_all (rs := [13]) (by kernel_rfl) (by simp) ?_
                intro i hi
                obtain rfl := List.mem_singleton.1 hi
                clear hi
                refine wpOp_step rfl fun K hK => ?_
                refine step_append_lies _ (by rfl) _ _ 22 (by rfl) w0.heap.size 24 i0 (.agg #[intV 0, intV 0, .string ⟨#[]⟩, .slice none 0 0]) 4 56 Tryd.underlying22 hi hz0 hz1 hz2 (by rfl) (by decide) (.slice so l.length sc) l.length cs (by rfl) HOWN'.out ⟨wB.heap.size, 0, none⟩ 1 1 [intV 0, intV 0, .string ⟨#[]⟩, .slice none 0 0] (by rfl) (by rfl) HNW'.out (by intro u hu; simp only [List.mem_cons, List.mem_nil_iff, or_false] at hu; rcases hu with rfl | rfl | rfl | rfl <;> rfl) (by decide) (by have := HLB.out; unfold maxLen; omega) (by have := HLB.out; omega) (by rw [HSA'.out]; have := HLW.out; omega) (wB.heap.size + 1) HSA'.out ?_
                intro g2 cap2 w2 hown2 hgrow2 hat2 hlt2
                rw [HWL.out] at hgrow2
                obtain ⟨⟨q1, q2, q3⟩, ⟨r0, r1, r2, r3⟩, ⟨t0, t1, t2, t3⟩, q8, q9⟩ := HFAR.out g2 cap2 w2 hown2 hgrow2 hat2
                obtain ⟨p0, p1, p2, p3⟩ := heap4 (q8.trans HBXB.out)
                have q6 : g2 ≠ g1 := fun e => q3 e.symm
                have HO2 := Lib.hid (And.intro hown2 (And.intro hgrow2 (And.intro hat2 (And.intro hlt2 q8))))
                clear hown2 hgrow2 hat2 hlt2 q8
                refine hK _ _ ⟨fun h => (nomatch (h.symm.trans (show _ = true by kernel_rfl))), ⟨p0, p1, p2, p3⟩, ?_⟩
                clear hK K
                (try simp only [Act.put, List.setIfInBounds_toArray, List.set_cons_zero, List.set_cons_succ])
                refine wpAnyK_takeD (i := 14) (v := .pointer (some ⟨g1, n, none⟩)) (some 93) rfl rfl (by kernel_rfl) (by kernel_rfl) (by kernel_rfl) (by decide) (fun _ _ _ h => h) (Or.inl ⟨by rfl, fun w' hw' => ?_⟩) (fun h => (nomatch (h.symm.trans (show _ = true by kernel_rfl)))) ⟨p0, p1, p2, p3⟩ ?_
                · go_simp
                (try simp only [Act.put, List.setIfInBounds_toArray, List.set_cons_zero, List.set_cons_succ])
                clear c0 c1 c2 c3 hcell
                refine wpAnyK_all (rs := [15]) (by kernel_rfl) (by simp) ?_
                intro i hi
                obtain rfl := List.mem_singleton.1 hi
                clear hi
                refine wpOp_step rfl fun K hK => ?_
                go_simp
                refine hK _ _ ⟨fun h => (nomatch (h.symm.trans (show _ = true by kernel_rfl))), ⟨cell_other1 p0 hgne', cell_other1 p1 hgne', cell_other1 p2 hgne', cell_other1 p3 hgne'⟩, ?_⟩
                clear hK K
                refine wpAnyK_done (by kernel_rfl) ?_ _
                refine NoPanic.normal ?_
                go_wp2
                obtain ⟨hown2, hgrow2, hat2, hlt2, q8⟩ := HO2.out
                have hA := HOB.out.added HN.out HBL.out HSA.out hown2 hgrow2 hat2 q3 HCS.out HVB.out (.inr rfl)
                refine ⟨⟨p', _, _, _, rfl, hp2, hA.1, HPU, by have := HQ.out.1; rw [List.length_append, List.length_singleton] at this ⊢; omega, Lib.hid (fun l' hl' => ?_), (HBW.out.trans (HBB.out.mono HLB.out.2.2)).trans hA.2⟩, ?_⟩
                · rcases List.mem_append.1 hl' with hl' | hl'
                  · have := HQ.out.2 l' (List.mem_append_left _ hl'); omega
                  · rw [List.mem_singleton] at hl'; subst hl'
                    have := HQ.out.2 l (by simp)
                    rw [List.length_append, List.length_singleton]; omega
                · simp [intOf]; omega
      · have HND := Lib.hid (show R = none by rw [← hpu, push_nil, if_neg (by simp)])
        obtain ⟨sl', so, sc, rfl, hq1, hq2, hcell⟩ := opens_in (ls := []) (l := [v]) HO.out rfl
        simp only [List.length_nil, List.length_singleton] at hcell ⊢
        obtain ⟨c0, c1, c2, c3⟩ := heap4 HBN.out
        obtain ⟨g0, g1, g2, g3⟩ := froz4 HBN.out
        obtain ⟨W4, hW4⟩ : ∃ X, (((wk.setCell ⟨w.heap.size, 0, none⟩ (.int .i64 0)).setCell ⟨w.heap.size, 1, none⟩ (.int .i64 0)).setCell ⟨w.heap.size, 2, none⟩ (.string ⟨#[]⟩)).setCell ⟨w.heap.size, 3, none⟩ (.slice none 0 0) = X := ⟨_, rfl⟩
        have HW := Lib.hid hW4
        clear hW4 hq1 hq2 hpu hdr
        go_wp2_with fail
        rw [HW.out]
        exact fin_rsyn HND.out HD.out HW.out HBN.out rfl rfl rfl (below_seq HB0.out HB.out HB0.out.size)
    · have hinv := HINV.out
      rw [List.drop_of_length_le (by rw [size_list]; omega)] at hinv
      obtain ⟨c0, c1, c2, c3⟩ := heap4 HBN.out
      obtain ⟨g0, g1, g2, g3⟩ := froz4 HBN.out
      rcases hinv.last with ⟨v, rfl, hRv⟩ | ⟨hls, hRn⟩
      · obtain ⟨sl', so, sc, rfl, hq1, hq2, hcell⟩ := opens_in (ls := []) (l := [v]) HO.out rfl
        obtain ⟨cs, ho, hcs⟩ := (show Opens wk w0.heap.size P _ (sl' ++ [.slice so [v].length sc]) ([] ++ [[v]]) from HO.out).last
        rw [CsOf] at hcs
        obtain ⟨u, cs', rfl, hv, hcs'⟩ := hcs
        rw [CsOf] at hcs'
        subst hcs'
        obtain ⟨uo, uc, rfl⟩ := vat_slice hv
        obtain ⟨g9, rfl⟩ : ∃ g9, so = some ⟨g9, 0, none⟩ := by
          rcases ho.2 with ⟨_, h0⟩ | ⟨g9, cap2, cur, h, _⟩
          · simp at h0
          · simp only [Value.slice.injEq] at h
            exact ⟨g9, h.1⟩
        have e0 := ho.cells (g := g9) rfl 0 _ rfl
        have e1 := ho.cells (g := g9) rfl 1 _ rfl
        have e2 := ho.cells (g := g9) rfl 2 _ rfl
        have e3 := ho.cells (g := g9) rfl 3 _ rfl
        rw [add_plain] at e0 e1 e2 e3
        have hlt9 := (ho.lt g9 rfl).2
        have htot := (enc_of_rd (HR.out.trans hRv)).2
        rw [size_list] at htot
        obtain ⟨q, hq⟩ : ∃ q, chk v = q := ⟨_, rfl⟩
        have HCK := Lib.hid (refCheck_any v _ P wk hv (by omega))
        rw [hq] at HCK
        have hd := HD.out
        rw [hRv, rdec] at hd
        simp only [hq] at hd
        have HD2 := Lib.hid hd
        have HV := Lib.hid hv
        have HC9 := Lib.hid (And.intro hlt9 (And.intro e0 (And.intro e1 (And.intro e2 (And.intro e3 hcell)))))
        have HG := Lib.hid (HO.out.own.lt g rfl).2
        have HLO := Lib.hid HO.out.lo
        simp only [List.length_nil, List.length_singleton, Nat.zero_add, Nat.add_zero] at hcell e0 e1 e2 e3 ⊢
        clear hq1 hq2 hinv hRv hq hd hv ho hlt9 htot
        go_wp2_with fail
        refine HCK.out.mono ?_
        rintro e w3 ⟨rfl, h3⟩
        obtain ⟨f1, f2, f3, f4, f5, f6⟩ := HC9.out
        have hbx3 := (h3.block _ hwk).trans HBN.out
        clear c0 c1 c2 c3 g0 g1 g2 g3 e0 e1 e2 e3 hcell
        obtain ⟨c0, c1, c2, c3⟩ := heap4 hbx3
        obtain ⟨g0, g1, g2, g3⟩ := froz4 hbx3
        have e0 := (World.cell?_of_block (h3.block g9 f1)).trans f2
        have e1 := (World.cell?_of_block (h3.block g9 f1)).trans f3
        have e2 := (World.cell?_of_block (h3.block g9 f1)).trans f4
        have e3 := (World.cell?_of_block (h3.block g9 f1)).trans f5
        have hcell := (World.cell?_of_block (h3.block g HG.out)).trans f6
        simp only [List.length_nil, List.length_singleton, Nat.zero_add, Nat.add_zero] at hcell e0 e1 e2 e3
        have HBX3 := Lib.hid hbx3
        have HV3 := Lib.hid (HV.out.below h3)
        have HBW3 := Lib.hid (below_seq (below_seq HB0.out HB.out HB0.out.size) h3 (by omega))
        clear f1 f2 f3 f4 f5 f6 hbx3 h3 HCK
        by_cases hq0 : q = 0
        · have hd := HD2.out
          rw [if_pos hq0] at hd
          obtain ⟨rfl, rfl⟩ := Prod.mk.inj hd
          have hqb : (q != 0) = false := by simpa using hq0
          obtain ⟨W4, hW4⟩ : ∃ X, (((w3.setCell ⟨w.heap.size, 0, none⟩ (.int .i64 v.kd)).setCell ⟨w.heap.size, 1, none⟩ (.int .i64 v.nm)).setCell ⟨w.heap.size, 2, none⟩ (.string v.tx)).setCell ⟨w.heap.size, 3, none⟩ (.slice uo v.its.length uc) = X := ⟨_, rfl⟩
          have HW4 := Lib.hid hW4
          clear hW4 hd hq0
          go_wp2_with fail
          rw [HW4.out]
          obtain ⟨k1, k2, k3⟩ := set4 HBX3.out HW4.out
          exact fin_rdec rfl rfl rfl k1 (HV3.out.keep (fun b hp _ => k2 b (by have := HLO.out b hp; have := HS0'.out; omega)) (by omega)) (HBW3.out.trans (below_set4 HW4.out (Nat.le_refl _)))
        · have hd := HD2.out
          rw [if_neg hq0] at hd
          obtain ⟨rfl, rfl⟩ := Prod.mk.inj hd
          have hqb : (q != 0) = true := by simpa using hq0
          obtain ⟨W4, hW4⟩ : ∃ X, (((w3.setCell ⟨w.heap.size, 0, none⟩ (.int .i64 0)).setCell ⟨w.heap.size, 1, none⟩ (.int .i64 0)).setCell ⟨w.heap.size, 2, none⟩ (.string ⟨#[]⟩)).setCell ⟨w.heap.size, 3, none⟩ (.slice none 0 0) = X := ⟨_, rfl⟩
          have HW4 := Lib.hid hW4
          clear hW4 hd hq0
          go_wp2_with fail
          rw [HW4.out]
          exact fin_rdecZ HW4.out HBX3.out rfl rfl rfl HBW3.out
      · have HND := Lib.hid hRn
        obtain ⟨W4, hW4⟩ : ∃ X, (((wk.setCell ⟨w.heap.size, 0, none⟩ (.int .i64 0)).setCell ⟨w.heap.size, 1, none⟩ (.int .i64 0)).setCell ⟨w.heap.size, 2, none⟩ (.string ⟨#[]⟩)).setCell ⟨w.heap.size, 3, none⟩ (.slice none 0 0) = X := ⟨_, rfl⟩
        have HW := Lib.hid hW4
        clear hW4 hinv hRn
        rcases hls with rfl | hls2
        · obtain ⟨sl', so, sc, rfl, hq1, hq2, hcell⟩ := opens_in (ls := []) (l := []) HO.out rfl
          simp only [List.length_nil, List.length_singleton] at hcell ⊢
          clear hq1 hq2
          go_wp2_with fail
          rw [HW.out]
          exact fin_rsyn HND.out HD.out HW.out HBN.out rfl rfl rfl (below_seq HB0.out HB.out HB0.out.size)
        · obtain ⟨m, hm⟩ : ∃ m, ls.length = m := ⟨_, rfl⟩
          rw [hm] at hls2 hl1 hne ⊢
          have hmb : ((m : Int) != 1) = true := by simp; omega
          clear hm
          go_wp2_with fail
          rw [HW.out]
          exact fin_rsyn HND.out HD.out HW.out HBN.out rfl rfl rfl (below_seq HB0.out HB.out HB0.out.size)
end Go.Proofs.YtjcigjggfmfoeaaDoor
