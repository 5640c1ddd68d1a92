/- read of the program. -/
import Derived.Test.YtjcigjggfmfoeaaDoorCoRows
import Derived.Test.YtjcigjggfmfoeaaDoorCoDec
import Derived.Test.YtjcigjggfmfoeaaDoorCoBuild
import Derived.Deep.AppendLies
import Derived.Deep.RegionHeld3
import Derived.StillTailTactics
import Derived.WalkMore
import Derived.Deep.CutRange
import Derived.Deep.CutBlock
import Derived.Test.YtjcigjggfmfoeaaDoorCoHold
namespace Go.Proofs.YtjcigjggfmfoeaaDoor
set_option linter.unusedSimpArgs false
set_option linter.unusedVariables false
set_option maxRecDepth 100000
open Go.RowKit Go.Deep

def szOf : Value → Nat
  | .string s => s.size
  | _ => 0
/-- what read gives -/
def ReadPost (s : ByteArray) (w : World) (e : Ending) (w' : World) : Prop := ∃ (x : Val) (sv : Value) (P : Nat → Prop) (b : Bool),
  e = .returned (.tuple #[.agg #[intV x.kd, intV x.nm, .string x.tx, sv], .bool b]) ∧ VAt w' P (.agg #[intV x.kd, intV x.nm, .string x.tx, sv]) x ∧
  ((b = true ∧ rd [] s.data.toList = some x) ∨ (b = false ∧ rd [] s.data.toList = none)) ∧ Below w.heap.size w w' ∧ ∀ b, P b → w.heap.size ≤ b
theorem fin_read {s : ByteArray} {w W : World} {a : Act} {x : Val} {sv : Value} {P : Nat → Prop} {b : Bool} (hd : a.defers = []) (h2 : a.tmps.getD 2 undef = .pointer (some ⟨w.heap.size, 0, none⟩)) (h3 : a.tmps.getD 3 undef = .bool b)
    (hc : W.heap[w.heap.size]? = some (.cells #[intV x.kd, intV x.nm, .string x.tx, sv] 24 (0, 0))) (hv : VAt W P (.agg #[intV x.kd, intV x.nm, .string x.tx, sv]) x) (hr : (b = true ∧ rd [] s.data.toList = some x) ∨ (b = false ∧ rd [] s.data.toList = none)) (hB : Below w.heap.size w W) (hlo : ∀ b, P b → w.heap.size ≤ b) :
    bodyPost Tryd.prog Tryd.f45 (ReadPost s w) .ret a W := by
  obtain ⟨d0, d1, d2, d3⟩ := heap4 hc
  have h2' : a.tmps[2]?.getD undef = .pointer (some ⟨w.heap.size, 0, none⟩) := by simpa using h2
  have h3' : a.tmps[3]?.getD undef = .bool b := by simpa using h3
  exact ⟨hd, .tuple #[.agg #[intV x.kd, intV x.nm, .string x.tx, sv], .bool b], by simp [results, Tryd.f45, go_sem, h2', h3', d0, d1, d2, d3], x, sv, P, b, rfl, hv, hr, hB, hlo⟩
theorem fin_zero {s : ByteArray} {w W W4 : World} {a : Act} (hW : (((W.setCell ⟨w.heap.size, 0, none⟩ (.int .i64 0)).setCell ⟨w.heap.size, 1, none⟩ (.int .i64 0)).setCell ⟨w.heap.size, 2, none⟩ (.string ⟨#[]⟩)).setCell ⟨w.heap.size, 3, none⟩ (.slice none 0 0) = W4)
    (hb : W.heap[w.heap.size]? = some (.cells #[intV 0, intV 0, .string ⟨#[]⟩, .slice none 0 0] 24 (0, 0))) (hd : a.defers = []) (h2 : a.tmps.getD 2 undef = .pointer (some ⟨w.heap.size, 0, none⟩)) (h3 : a.tmps.getD 3 undef = .bool false)
    (hr : rd [] s.data.toList = none) (hB : Below w.heap.size w W) : bodyPost Tryd.prog Tryd.f45 (ReadPost s w) .ret a W4 := by
  obtain ⟨k1, k2, k3⟩ := set4 hb hW
  exact fin_read (x := mkZ) (P := fun _ => False) hd h2 h3 k1 (vat_zero _ _) (.inr ⟨rfl, hr⟩) (hB.trans ⟨by rw [← hW]; rfl, by rw [← hW]; rfl, by rw [← hW]; rfl, by omega, fun b hb => k2 b (by omega)⟩) (fun _ h => h.elim)
theorem cells_zero {W : World} {N : Nat} (hb : W.heap[N]? = some (.cells #[intV 0, intV 0, .string ⟨#[]⟩, .slice none 0 0] 24 (0, 0))) : ∀ o, W.frozen? ⟨N, o, none⟩ = false := fun o => by simp [World.frozen?, hb]
theorem cell_other4 {w : World} {g n B o0 o1 o2 o3 : Nat} {v x0 x1 x2 x3 : Value} (h : w.cell? ⟨g, n, none⟩ = some v) (hne : g ≠ B) : ((((w.setCell ⟨B, o0, none⟩ x0).setCell ⟨B, o1, none⟩ x1).setCell ⟨B, o2, none⟩ x2).setCell ⟨B, o3, none⟩ x3).cell? ⟨g, n, none⟩ = some v := by
  rw [World.cell?_setCell_other _ _ _ _ (by intro h; simp only [Addr.mk.injEq] at h; omega), World.cell?_setCell_other _ _ _ _ (by intro h; simp only [Addr.mk.injEq] at h; omega), World.cell?_setCell_other _ _ _ _ (by intro h; simp only [Addr.mk.injEq] at h; omega), World.cell?_setCell_other _ _ _ _ (by intro h; simp only [Addr.mk.injEq] at h; omega), h]
theorem below_set4 {w1 W4 : World} {b B : Nat} {x0 x1 x2 x3 : Value} (hW : (((w1.setCell ⟨b, 0, none⟩ x0).setCell ⟨b, 1, none⟩ x1).setCell ⟨b, 2, none⟩ x2).setCell ⟨b, 3, none⟩ x3 = W4) (hB : B ≤ b) : Below B w1 W4 := by
  subst hW
  exact ((((Below.refl _ _).setCell (p := ⟨b, 0, none⟩) hB _).setCell (p := ⟨b, 1, none⟩) hB _).setCell (p := ⟨b, 2, none⟩) hB _).setCell (p := ⟨b, 3, none⟩) hB _
theorem num_rest {c : UInt8} {s r : List UInt8} {n : Int} (h : num c s = some (n, r)) : r.length < s.length := by
  obtain ⟨h1, _⟩ := num_some h
  rw [h1]; simp; omega
theorem one_text {r rl : List UInt8} {m : Int} (h : num 58 r = some (m, rl)) (h1 : 0 ≤ m) (h2 : m ≤ rl.length) : one (115 :: r) = some (mkT ⟨(rl.take m.toNat).toArray⟩, rl.drop m.toNat) := by
  rw [one, if_neg (by decide), if_pos rfl, h]
  simp only []
  rw [if_pos ⟨h1, h2⟩]
theorem one_bad {r : List UInt8} (h : ∀ n rest, num 58 r = some (n, rest) → ¬ (0 ≤ n ∧ n ≤ rest.length)) : one (115 :: r) = none := by
  rw [one, if_neg (by decide), if_pos rfl]
  cases hn : num 58 r with
  | none => rfl
  | some p => obtain ⟨n, rest⟩ := p; exact if_neg (h n rest hn)
theorem World.ownsRow.frozenAt' {w : World} {base n m cap g size : Nat} {e : TypeId} {xs : List Value} (h : w.ownsRow base e size (.slice (some ⟨g, 0, none⟩) m cap) n xs) (j : Nat) : w.frozen? ⟨g, j, none⟩ = false := by
  rcases h.2 with ⟨h, _⟩ | ⟨g', cap', cur, h, _, hg, _⟩
  · cases h
  · cases h; simp [World.frozen?, hg]
/-- what lies in a cell -/
def cellOf (w : World) (a : Addr) : Value := (w.cell? a).getD undef
theorem cell_of {w : World} {a : Addr} {v : Value} (h : w.cell? a = some v) : w.cell? a = some (cellOf w a) := by rw [cellOf, h]; rfl
theorem cell_other1 {w : World} {g n b o : Nat} {v x : Value} (h : w.cell? ⟨b, o, none⟩ = some v) (hne : b ≠ g) : (w.setCell ⟨g, n, none⟩ x).cell? ⟨b, o, none⟩ = some v := by
  rw [World.cell?_setCell_other _ _ _ _ (by intro h; simp only [Addr.mk.injEq] at h; omega), h]
theorem cell_alloc {w : World} {a : Addr} {v : Value} {o : Obj} (h : w.cell? a = some v) : ((w.alloc o).drew).cell? a = some v :=
  (World.cell?_of_block (show ((w.alloc o).drew).heap[a.block]? = w.heap[a.block]? from Below.heap_alloc _ _ _ (World.block_lt_of_cell? w a h))).trans h
theorem info_sl : (Tryd.prog.info? 22).map (fun i => (i.zero, i.size, i.bytes)) = some (some (.slice none 0 0), 1, 24) := by kernel_rfl
theorem opens_form {W : World} {B : Nat} {P : Nat → Prop} {v : Value} {sl : List Value} {ls : List (List Val)} (h : Opens W B P v sl ls) : (ls = [] ∧ sl = [] ∧ ∃ ao cap, v = .slice ao 0 cap) ∨ ∃ g cap n l ls' s sl', ls = ls' ++ [l] ∧ sl = sl' ++ [s] ∧ Hid (ls'.length = n ∧ sl'.length = n) ∧ v = .slice (some ⟨g, 0, none⟩) (n + 1) cap := by
  have hlen := h.len
  rcases List.eq_nil_or_concat ls with rfl | ⟨ls', l, rfl⟩
  · have : sl = [] := List.eq_nil_of_length_eq_zero (by simpa using hlen)
    refine .inl ⟨rfl, this, ?_⟩
    rcases h.own.2 with ⟨rfl, _⟩ | ⟨g, cap, cur, rfl, _⟩
    · exact ⟨_, _, rfl⟩
    · exact ⟨_, _, rfl⟩
  · rcases List.eq_nil_or_concat sl with rfl | ⟨sl', s, rfl⟩
    · simp at hlen
    · rcases h.own.2 with ⟨_, h0⟩ | ⟨g, cap, cur, rfl, _⟩
      · simp at h0
      · simp at hlen
        exact .inr ⟨g, cap, ls'.length, l, ls', s, sl', by simp, by simp, Lib.hid ⟨rfl, hlen⟩, by simp⟩
set_option maxHeartbeats 4000000 in
theorem read_any (s : ByteArray) (hs : s.size ≤ 65536) (w : World) (hT : Tab w) :
    Calls Tryd.prog 45 #[.string s] w (ReadPost s w) := by
  have HT := Lib.hid hT
  clear hT
  go_enter Tryd.func45, Tryd.ntmps45
  go_wp2
  go_step3
  go_wp2
  go_step3
  go_wp2
  go_loopw [0, 4] (fun v0 v4 wr => ∃ (sb : ByteArray) (sl : List Value) (ls : List (List Val)) (P : Nat → Prop), v0 = .string sb ∧ Opens wr (w.heap.size + 1) P v4 sl ls ∧ Hid (rd ls.reverse sb.data.toList = rd [] s.data.toList) ∧ ls.length + sb.size ≤ s.size ∧ Hid (∀ l ∈ ls, l.length + sb.size ≤ s.size) ∧ Below (w.heap.size + 1) (w.alloc (.cells #[intV 0, intV 0, .string ⟨#[]⟩, .slice none 0 0] 24)) wr) (fun v0 _ _ => szOf v0)
  case atStart => exact ⟨s, [], [], _, rfl, Opens.nil _ _ (by simp), Lib.hid rfl, by simp, Lib.hid (fun l hl => (nomatch hl)), Below.refl _ _⟩
  case round =>
    obtain ⟨sb, sl, ls, P, rfl, hO, HRD, hlen, HLEN, hB⟩ := hrel
    have HO := Lib.hid hO
    have HB := Lib.hid hB
    clear hO hB
    have hb0 : wr.heap[w.heap.size]? = some (.cells #[intV 0, intV 0, .string ⟨#[]⟩, .slice none 0 0] 24 (0, 0)) := (HB.out.block _ (by omega)).trans (heap_alloc_new _ _)
    have HB0 := Lib.hid hb0
    have hwr : w.heap.size < wr.heap.size := by have := HB.out.size; simp at this; omega
    clear hb0
    rcases hsb : sb.data.toList with _ | ⟨c, r⟩
    · obtain rfl : sb = ⟨#[]⟩ := ba_of (by rw [hsb])
      have HND := Lib.hid (show rd [] s.data.toList = none by rw [← HRD.out, hsb, rd_nil])
      obtain ⟨c0, c1, c2, c3⟩ := heap4 HB0.out
      have f0 : ∀ o, wr.frozen? ⟨w.heap.size, o, none⟩ = false := fun o => by simp [World.frozen?, HB0.out]
      have g0 := f0 0
      have g1 := f0 1
      have g2 := f0 2
      have g3 := f0 3
      obtain ⟨W4, hW4⟩ : ∃ X, (((wr.setCell ⟨w.heap.size, 0, none⟩ (.int .i64 0)).setCell ⟨w.heap.size, 1, none⟩ (.int .i64 0)).setCell ⟨w.heap.size, 2, none⟩ (.string ⟨#[]⟩)).setCell ⟨w.heap.size, 3, none⟩ (.slice none 0 0) = X := ⟨_, rfl⟩
      have HW := Lib.hid hW4
      clear f0 hsb hW4
      go_wp2
      rw [HW.out]
      exact fin_zero HW.out HB0.out rfl rfl rfl HND.out (below_seq (below_box0 w _) HB.out (by omega))
    · have hsz : sb.size = r.length + 1 := by rw [← size_list, hsb]; rfl
      have hne : sb.toList.isEmpty = false := by rw [ByteArray.toList_eq, hsb]; rfl
      obtain ⟨rb, hrb⟩ : ∃ rb, sb.extract 1 sb.size = rb := ⟨_, rfl⟩
      have hrl : rb.data.toList = r := by rw [← hrb, ext_list, hsb]; simp [hsz]
      have hrs : rb.size = r.length := by rw [← size_list, hrl]
      have h1 : sb.extract 0 1 = ⟨#[c]⟩ := ba_of (by rw [ext_list, hsb]; simp)
      have hl1 : (1 : Int) ≤ sb.size := by omega
      rw [hsb] at HRD
      have HRL := Lib.hid hrl
      have HSZ := Lib.hid hsz
      have hrz : rb.size + 1 ≤ sb.size := by omega
      clear hsb hrl hsz
      obtain ⟨ao, an, ac, rfl⟩ : ∃ ao an ac, u4 = .slice ao an ac := by rcases HO.out.own.2 with ⟨rfl, _⟩ | ⟨g, cap, cur, rfl, _⟩ <;> exact ⟨_, _, _, rfl⟩
      go_wp2
      go_quiet (fail)
      obtain ⟨W1, hW1⟩ : ∃ X, (wr.alloc (.cells #[intV 0, intV 0, .string ⟨#[]⟩, .slice none 0 0] 24)).drewN nq = X := ⟨_, rfl⟩
      have hb1 : Below wr.heap.size wr W1 := by rw [← hW1]; exact below_box _ _ _
      have hs1 : W1.heap.size = wr.heap.size + 1 := by rw [← hW1]; simp
      have hbx : W1.heap[wr.heap.size]? = some (.cells #[intV 0, intV 0, .string ⟨#[]⟩, .slice none 0 0] 24 (0, 0)) := by rw [← hW1]; exact heap_alloc_new _ _
      rw [hW1]
      have HO1 := Lib.hid (HO.out.fresh hb1 hs1)
      have HOLD := Lib.hid HO.out.old
      have HBX := Lib.hid hbx
      have HB1 := Lib.hid (HB.out.trans (hb1.mono (by omega)))
      have HBN := Lib.hid ((hb1.block _ hwr).trans HB0.out)
      have HT1 := Lib.hid (HT.out.below (below_seq (below_box0 w _) HB1.out (by omega)))
      have HS1 := Lib.hid hs1
      clear hW1 hb1 hbx hs1
      go_upto_block 2 with fail
      go_cut [0, 4, 6, 9] from 11 to 77 (fun s0 s4 s6 s9 W2 => ∃ (rest : ByteArray) (b : Bool) (bo : Option Addr) (bn bc : Nat) (x : Val) (uo : Option Addr) (uc : Nat), s0 = .string rest ∧ s4 = .slice bo bn bc ∧ s6 = .bool b ∧
        Hid (Below (w.heap.size + 1) (w.alloc (.cells #[intV 0, intV 0, .string ⟨#[]⟩, .slice none 0 0] 24)) W2 ∧ W2.heap[wr.heap.size]? = some (.cells #[intV x.kd, intV x.nm, .string x.tx, .slice uo x.its.length uc] 24 (0, 0)) ∧
        ((b = false ∧ rd [] s.data.toList = none) ∨ (b = true ∧ rest.size < sb.size ∧ ∃ (sl1 : List Value) (ls1 : List (List Val)) (P1 : Nat → Prop), Opens W2 (w.heap.size + 1) P1 (.slice bo bn bc) sl1 ls1 ∧ VAt W2 P1 (.agg #[intV x.kd, intV x.nm, .string x.tx, .slice uo x.its.length uc]) x ∧ push x ls1.reverse rest.data.toList = rd [] s.data.toList ∧ ((Value.slice bo bn bc).ownBlock ≠ some wr.heap.size ∧ ∀ (i : Nat) (s : Value), sl1[i]? = some s → s.ownBlock ≠ some wr.heap.size) ∧ ls1.length + rest.size + 1 ≤ s.size ∧ ∀ l ∈ ls1, l.length + rest.size + 1 ≤ s.size))))
      case first =>
        by_cases k1 : c = 108
        · rw [k1, rd_list] at HRD
          have kb : (c == 108) = true := by rw [k1]; rfl
          clear k1
          obtain ⟨i0, hi, hz0, hz1, hz2⟩ := info_parts info_sl
          have HO2 := Lib.hid (HO1.out.below (below_box0 W1 (.cells #[.slice none 0 0] 22)))
          have HNW := Lib.hid (World.news_of_block (show (W1.alloc (.cells #[.slice none 0 0] 22)).heap[W1.heap.size]? = some (.cells #[.slice none 0 0] 22 (0, 0)) from heap_alloc_new _ _))
          have HSA := Lib.hid (show (W1.alloc (.cells #[.slice none 0 0] 22)).heap.size = W1.heap.size + 1 by simp)
          go_wp2_with (at_builtin; go_loud (refine wpList_append_lies _ (by rfl) _ _ 69 (by rfl) (w.heap.size + 1) 22 i0 (.slice none 0 0) 1 24 Tryd.underlying69 hi hz0 hz1 hz2 (by rfl) (by decide) _ ls.length sl (by rfl) HO2.out.own ⟨W1.heap.size, 0, none⟩ 1 1 [.slice none 0 0] (by rfl) (by rfl) HNW.out (by intro u hu; rw [List.mem_singleton] at hu; subst hu; rfl) (by decide) (by unfold maxLen; omega) (by omega) (by rw [HSA.out]; have := HS1.out; omega) (W1.heap.size + 1) HSA.out ?_))
          intro g cap w2 hown hgrow hat hlt
          have hO2 := HO2.out.push hown hgrow.size (fun k hk hne => hgrow.block k hk hne) (by
            rcases hat with hat | hat
            · exact .inl hat.symm
            · exact .inr (by rw [HSA.out, hat]; rfl))
          have hB2 : Below (w.heap.size + 1) (w.alloc (.cells #[intV 0, intV 0, .string ⟨#[]⟩, .slice none 0 0] 24)) w2 :=
            (HB1.out.alloc (by have := HS1.out; omega) _).grown hgrow (by rw [HSA.out]; have := HS1.out; omega) (fun k hk => (HO2.out.own.lt k hk).1)
          clear hown hgrow hat
          go_wp2
          refine ⟨⟨rb, _, _, _, rfl, hO2, Lib.hid (by rw [List.reverse_append, HRL.out]; exact HRD.out), by simp; omega, Lib.hid (fun l hl => ?_), hB2⟩, ?_⟩
          · rcases List.mem_append.1 hl with hl | hl
            · have := HLEN.out l hl; omega
            · rw [List.mem_singleton] at hl; subst hl; simp; omega
          · simp [szOf]; omega
        · have kb : (c == 108) = false := by simpa using k1
          by_cases k2 : c = 101
          · have kb2 : (c == 101) = true := by rw [k2]; rfl
            rcases opens_form HO1.out with ⟨rfl, rfl, ao', cap, hv⟩ | ⟨g, bcap, n, l, ls', sl1, sl', rfl, rfl, HN, hv⟩
            · simp only [Value.slice.injEq] at hv
              obtain ⟨rfl, rfl, rfl⟩ := hv
              have HND := Lib.hid (show rd [] s.data.toList = none by rw [← HRD.out, k2]; exact rd_end _ _)
              clear k1 k2
              have HBW := Lib.hid (below_seq (below_box0 w _) HB1.out (by omega))
              obtain ⟨c0, c1, c2, c3⟩ := heap4 HBN.out
              have f0 := cells_zero HBN.out
              have g0 := f0 0
              have g1 := f0 1
              have g2 := f0 2
              have g3 := f0 3
              obtain ⟨W4, hW4⟩ : ∃ X, (((W1.setCell ⟨w.heap.size, 0, none⟩ (.int .i64 0)).setCell ⟨w.heap.size, 1, none⟩ (.int .i64 0)).setCell ⟨w.heap.size, 2, none⟩ (.string ⟨#[]⟩)).setCell ⟨w.heap.size, 3, none⟩ (.slice none 0 0) = X := ⟨_, rfl⟩
              have HW := Lib.hid hW4
              clear f0 hW4
              go_wp2
              rw [HW.out]
              exact fin_zero HW.out HBN.out rfl rfl rfl HND.out HBW.out
            · simp only [Value.slice.injEq] at hv
              obtain ⟨rfl, rfl, rfl⟩ := hv
              have hn1 : ((n : Int) + 1) - 1 = n := by omega
              have hn2 : (0 : Int) ≤ n := by omega
              have hn3 : (n : Int) < n + 1 := by omega
              rw [List.length_append, List.length_singleton, HN.out.1] at hlen
              have HRD2 := Lib.hid (show push (mkL l) ls'.reverse r = rd [] s.data.toList by rw [← HRD.out, k2, List.reverse_append]; exact (rd_cons_end _ _ _).symm)
              clear k1 k2 HRD
              have hcell : W1.cell? ⟨g, n, none⟩ = some sl1 := by
                have := HO1.out.own.cells (g := g) rfl n sl1 (by rw [List.getElem?_append_right (by rw [HN.out.2]; exact Nat.le_refl _), HN.out.2]; simp)
                rwa [add_plain, Nat.zero_add] at this
              have HS0 := Lib.hid (show W1.drew.cell? ⟨g, n, none⟩ = some sl1 from hcell)
              obtain ⟨cs, hcs1, hcs2⟩ := HO1.out.last
              have hsrc := src_of_own hcs1 hcs2
              have HLL := Lib.hid (HLEN.out l (by simp))
              have HLIST := Lib.hid (fun W (hW : Below W1.heap.size W1 W) => list_src l sl1 _ _ W (hsrc.below hW) (by have := HLL.out; omega) (fun _ _ h => h) (fun b hb => HO1.out.top b (Nat.le_trans hW.size hb)))
              have hn4 : (n : Int) ≤ ac := by
                rcases HO1.out.own.2 with ⟨h, _⟩ | ⟨_, _, _, h, _, _, h2, _⟩
                · cases h
                · simp only [Value.slice.injEq] at h
                  obtain ⟨_, e1, e2⟩ := h
                  omega
              clear hcs1 hcs2 hsrc hcell
              go_wp2
              refine wp_region_noPanic ?_
              refine wp_region_any (by kernel_rfl) (wpAny_of_k (S := fun w' => w'.cell? ⟨g, n, none⟩ = some sl1) (S' := fun _ => True) (k := 4) _ _ _ _ ?_)
              change wpAnyK _ _ _ _ _ _ _ 12 _ _ W1.drew
              refine wpAnyK_take' (i := 0) (v := .slice (some ⟨g, 0, none⟩) (n + 1) ac) rfl (by kernel_rfl) (by kernel_rfl) (by kernel_rfl) (by decide) (fun _ _ _ h => h) (Or.inl ⟨by rfl, fun w' hw' => ?_⟩) (fun _ => HS0.out) trivial ?_
              · go_simp
              refine wpAnyK_take' (i := 1) (v := .int .i64 n) rfl (by kernel_rfl) (by kernel_rfl) (by kernel_rfl) (by decide) (fun _ _ _ h => h) (Or.inl ⟨by rfl, fun w' hw' => ?_⟩) (fun _ => HS0.out) trivial ?_
              · go_simp
              refine wpAnyK_take' (i := 2) (v := .pointer (some ⟨g, n, none⟩)) rfl (by kernel_rfl) (by kernel_rfl) (by kernel_rfl) (by decide) (fun _ _ _ h => h) (Or.inl ⟨by rfl, fun w' hw' => ?_⟩) (fun _ => HS0.out) trivial ?_
              · go_simp
              refine wpAnyK_take (i := 3) (v := sl1) rfl rfl (by kernel_rfl) (by kernel_rfl) (by kernel_rfl) (by kernel_rfl) (by kernel_rfl) (by decide) (fun _ _ _ h => h) (Or.inl ⟨by rfl, fun w' hw' => ?_⟩) HS0.out trivial ?_
              · dsimp only at hw'
                go_simp
              refine wpAnyK_take' (i := 5) (v := .slice (some ⟨g, 0, none⟩) (n + 1) ac) rfl (by kernel_rfl) (by kernel_rfl) (by kernel_rfl) (by decide) (fun _ _ _ h => h) (Or.inl ⟨by rfl, fun w' hw' => ?_⟩) (fun _ => HS0.out) trivial ?_
              · go_simp
              refine wpAnyK_take' (i := 6) (v := .int .i64 n) rfl (by kernel_rfl) (by kernel_rfl) (by kernel_rfl) (by decide) (fun _ _ _ h => h) (Or.inl ⟨by rfl, fun w' hw' => ?_⟩) (fun _ => HS0.out) trivial ?_
              · go_simp
              refine wpAnyK_take' (i := 7) (v := .slice (some ⟨g, 0, none⟩) n ac) rfl (by kernel_rfl) (by kernel_rfl) (by kernel_rfl) (by decide) (fun _ _ _ h => h) (Or.inl ⟨by rfl, fun w' hw' => ?_⟩) (fun _ => HS0.out) trivial ?_
              · go_simp
              refine wpAnyK_take' (i := 8) (v := .string rb) rfl (by kernel_rfl) (by kernel_rfl) (by kernel_rfl) (by decide) (fun _ _ _ h => h) (Or.inl ⟨by rfl, fun w' hw' => ?_⟩) (fun _ => HS0.out) trivial ?_
              · go_simp
              (try simp only [Act.put, List.setIfInBounds_toArray, List.set_cons_zero, List.set_cons_succ])
              refine wpAnyK_all (rs := [4]) (by kernel_rfl) (by simp) ?_
              intro i hi
              obtain rfl := List.mem_singleton.1 hi
              clear hi
              refine wpOp_step rfl fun K hK => ?_
              go_simp
              refine (HLIST.out _ (Below.drew (Below.refl _ _))).mono ?_
              rintro e w2 ⟨u, rfl, hu, hb⟩
              refine hK _ _ ⟨fun h => (nomatch (h.symm.trans (show _ = true by kernel_rfl))), trivial, ?_⟩
              clear hK K
              obtain ⟨uo, uc, rfl, _⟩ := id hu
              have hbx2 := (hb.block _ (by show wr.heap.size < W1.heap.size; have := HS1.out; omega)).trans HBX.out
              obtain ⟨c0, c1, c2, c3⟩ := heap4 hbx2
              have f0 := cells_zero hbx2
              have g0 := f0 0
              have g1 := f0 1
              have g2 := f0 2
              have g3 := f0 3
              have HBX2 := Lib.hid hbx2
              have HU := Lib.hid hu
              have HBB := Lib.hid (show Below W1.heap.size W1 w2 from (Below.drew (Below.refl _ _)).trans hb)
              obtain ⟨W2, hW2⟩ : ∃ X, (((w2.setCell ⟨wr.heap.size, 0, none⟩ (.int .i64 3)).setCell ⟨wr.heap.size, 1, none⟩ (.int .i64 0)).setCell ⟨wr.heap.size, 2, none⟩ (.string ⟨#[]⟩)).setCell ⟨wr.heap.size, 3, none⟩ (.slice uo l.length uc) = X := ⟨_, rfl⟩
              have HW2 := Lib.hid hW2
              clear f0 hbx2 hu hb hW2
              (try simp only [Act.put, List.setIfInBounds_toArray, List.set_cons_zero, List.set_cons_succ])
              refine wpAnyK_all (rs := [9]) (by kernel_rfl) (by simp) ?_
              intro i hi
              obtain rfl := List.mem_singleton.1 hi
              clear hi
              refine wpOp_step rfl fun K hK => ?_
              go_simp
              refine hK _ _ ⟨fun h => (nomatch (h.symm.trans (show _ = true by kernel_rfl))), trivial, ?_⟩
              clear hK K
              rw [HW2.out]
              refine wpAnyK_all (rs := [10]) (by kernel_rfl) (by simp) ?_
              intro i hi
              obtain rfl := List.mem_singleton.1 hi
              clear hi
              refine wpOp_step rfl fun K hK => ?_
              go_simp
              refine hK _ _ ⟨fun h => (nomatch (h.symm.trans (show _ = true by kernel_rfl))), trivial, ?_⟩
              clear hK K
              refine wpAnyK_all (rs := [11]) (by kernel_rfl) (by simp) ?_
              intro i hi
              obtain rfl := List.mem_singleton.1 hi
              clear hi
              refine wpOp_step rfl fun K hK => ?_
              go_simp
              refine hK _ _ ⟨fun h => (nomatch (h.symm.trans (show _ = true by kernel_rfl))), trivial, ?_⟩
              clear hK K
              refine wpAnyK_done (by kernel_rfl) ?_ _
              refine NoPanic.normal ?_
              go_wp2
              go_meet
              case rel =>
                obtain ⟨e1, e2, e3⟩ := set4 HBX2.out HW2.out
                have hop : Opens w2 (w.heap.size + 1) _ (.slice (some ⟨g, 0, none⟩) n ac) sl' ls' := (HO1.out.below HBB.out).pop HN.out.1
                refine ⟨rb, true, some ⟨g, 0, none⟩, n, ac, mkL l, uo, uc, rfl, rfl, rfl, Lib.hid ⟨?_, e1, .inr ⟨rfl, by omega, sl', ls', _, hop.upd e2 e3 (fun hp => hp.2 rfl) (fun e => by have := HOLD.out.1 _ e; omega) (fun i s hs e => ?_), vat_list (by have := HLL.out; omega) (HU.out.keep (fun b hp _ => e2 b hp.2) (by omega)), ?_, ⟨fun e => by have := HOLD.out.1 _ e; omega, fun i s hs e => ?_⟩, ?_, ?_⟩⟩⟩
                · exact (HB1.out.trans (HBB.out.mono (by have := HS1.out; omega))).trans (below_set4 HW2.out (by omega))
                · have := HOLD.out.2 i s _ (by rw [List.getElem?_append_left (List.getElem?_eq_some_iff.1 hs).1]; exact hs) e
                  omega
                · rw [HRL.out]; exact HRD2.out
                · have := HOLD.out.2 i s _ (by rw [List.getElem?_append_left (List.getElem?_eq_some_iff.1 hs).1]; exact hs) e
                  omega
                · rw [HN.out.1]; omega
                · intro l' hl'
                  have := HLEN.out l' (List.mem_append_left _ hl')
                  omega
          · have kb2 : (c == 101) = false := by simpa using k2
            by_cases k3 : c = 105
            · have kb3 : (c == 105) = true := by rw [k3]; rfl
              have hrd : rd ls.reverse (c :: r) = match num 59 r with | none => none | some (m, r') => push (mkI m) ls.reverse r' := by
                rw [rd_one _ _ _ k1 k2, k3]
                show (match (match num 59 r with | some (n, r') => some (mkI n, r') | none => none) with | none => none | some (v, r') => push v ls.reverse r') = _
                cases num 59 r with
                | none => rfl
                | some p => rfl
              have HRD2 := Lib.hid (hrd.symm.trans HRD.out)
              clear k1 k2 k3 hrd HRD
              go_wp2_with fail
              refine (readInt_any rb (by omega) W1 HT1.out).mono ?_
              rintro e w2 ⟨m, rest, b, rfl, ⟨hi64, hrs2, hnum⟩, hb⟩
              have hbx2 := (hb.block _ (by have := HS1.out; omega)).trans HBX.out
              obtain ⟨c0, c1, c2, c3⟩ := heap4 hbx2
              have f0 := cells_zero hbx2
              have g0 := f0 0
              have g1 := f0 1
              have g2 := f0 2
              have g3 := f0 3
              have HBX2 := Lib.hid hbx2
              have HBB := Lib.hid hb
              have HIN := Lib.hid (And.intro hi64 hrs2)
              have HNUM := Lib.hid hnum
              obtain ⟨W2, hW2⟩ : ∃ X, (((w2.setCell ⟨wr.heap.size, 0, none⟩ (.int .i64 1)).setCell ⟨wr.heap.size, 1, none⟩ (.int .i64 m)).setCell ⟨wr.heap.size, 2, none⟩ (.string ⟨#[]⟩)).setCell ⟨wr.heap.size, 3, none⟩ (.slice none 0 0) = X := ⟨_, rfl⟩
              have HW2 := Lib.hid hW2
              clear hW2 f0 hbx2 hb hi64 hrs2 hnum
              go_wp2_with fail
              rw [HW2.out]
              go_meet
              case rel =>
                obtain ⟨e1, e2, e3⟩ := set4 HBX2.out HW2.out
                refine ⟨rest, b, ao, an, ac, mkI m, none, 0, rfl, rfl, rfl, Lib.hid ⟨?_, e1, ?_⟩⟩
                · exact (HB1.out.trans (HBB.out.mono (by have := HS1.out; omega))).trans (below_set4 HW2.out (by omega))
                rcases HNUM.out with ⟨hb, hnum⟩ | ⟨hb, hnum⟩
                · refine .inr ⟨hb, ?_, sl, ls, _, (HO1.out.below HBB.out).upd e2 e3 (fun hp => hp.2 rfl) (fun e => by have := HOLD.out.1 _ e; omega) (fun i s hs e => by have := HOLD.out.2 i s _ hs e; omega), vat_int HIN.out.1, ?_, ⟨fun e => by have := HOLD.out.1 _ e; omega, fun i s hs e => by have := HOLD.out.2 i s _ hs e; omega⟩, ?_, ?_⟩
                  all_goals
                    have hr := num_rest hnum
                    rw [size_list, size_list] at hr
                  · omega
                  · rw [← HRD2.out, ← HRL.out, hnum]
                  · omega
                  · intro l hl
                    have := HLEN.out l hl
                    omega
                · exact .inl ⟨hb, by rw [← HRD2.out, ← HRL.out, hnum]⟩
            · have kb3 : (c == 105) = false := by simpa using k3
              by_cases k4 : c = 115
              · have kb4 : (c == 115) = true := by rw [k4]; rfl
                have HONE := Lib.hid (show (match one (c :: r) with | none => none | some (v, r') => push v ls.reverse r') = rd [] s.data.toList from (rd_one _ _ _ k1 k2).symm.trans HRD.out)
                have HC := Lib.hid k4
                clear k1 k2 k3 k4 HRD
                go_wp2_with fail
                refine (readText_any rb (by omega) W1 HT1.out).mono ?_
                rintro e w2 (⟨m, q, rest, rl, hnum, hm1, hm2, hq, hrest, hqs, hrs2, rfl, hb⟩ | ⟨hnum, rfl, hb⟩)
                · have hbx2 := (hb.block _ (by have := HS1.out; omega)).trans HBX.out
                  obtain ⟨c0, c1, c2, c3⟩ := heap4 hbx2
                  have f0 := cells_zero hbx2
                  have g0 := f0 0
                  have g1 := f0 1
                  have g2 := f0 2
                  have g3 := f0 3
                  have HBX2 := Lib.hid hbx2
                  have HBB := Lib.hid hb
                  have HNUM := Lib.hid (And.intro hnum (And.intro hm1 (And.intro hm2 (And.intro hq (And.intro hrest hqs)))))
                  obtain ⟨W2, hW2⟩ : ∃ X, (((w2.setCell ⟨wr.heap.size, 0, none⟩ (.int .i64 2)).setCell ⟨wr.heap.size, 1, none⟩ (.int .i64 0)).setCell ⟨wr.heap.size, 2, none⟩ (.string q)).setCell ⟨wr.heap.size, 3, none⟩ (.slice none 0 0) = X := ⟨_, rfl⟩
                  have HW2 := Lib.hid hW2
                  clear hW2 f0 hbx2 hb hnum hm1 hm2 hq hrest hqs
                  go_wp2_with fail
                  rw [HW2.out]
                  go_meet
                  case rel =>
                    obtain ⟨hnum, hm1, hm2, hq, hrest, hqs⟩ := HNUM.out
                    obtain ⟨e1, e2, e3⟩ := set4 HBX2.out HW2.out
                    have hr := num_rest hnum
                    have hrl2 : rest.size ≤ rl.length := by rw [← size_list, hrest]; simp
                    rw [size_list] at hr
                    refine ⟨rest, true, ao, an, ac, mkT q, none, 0, rfl, rfl, rfl, Lib.hid ⟨?_, e1, .inr ⟨rfl, by omega, sl, ls, _, (HO1.out.below HBB.out).upd e2 e3 (fun hp => hp.2 rfl) (fun e => by have := HOLD.out.1 _ e; omega) (fun i s hs e => by have := HOLD.out.2 i s _ hs e; omega), vat_text (t := q) (by omega), ?_, ⟨fun e => by have := HOLD.out.1 _ e; omega, fun i s hs e => by have := HOLD.out.2 i s _ hs e; omega⟩, by omega, ?_⟩⟩⟩
                    · exact (HB1.out.trans (HBB.out.mono (by have := HS1.out; omega))).trans (below_set4 HW2.out (by omega))
                    · rw [← HONE.out, HC.out, ← HRL.out, one_text hnum hm1 hm2, hrest, ← hq]
                    · intro l hl
                      have := HLEN.out l hl
                      omega
                · have hbx2 := (hb.block _ (by have := HS1.out; omega)).trans HBX.out
                  obtain ⟨c0, c1, c2, c3⟩ := heap4 hbx2
                  have f0 := cells_zero hbx2
                  have g0 := f0 0
                  have g1 := f0 1
                  have g2 := f0 2
                  have g3 := f0 3
                  have HBX2 := Lib.hid hbx2
                  have HBB := Lib.hid hb
                  have HNUM := Lib.hid hnum
                  obtain ⟨W2, hW2⟩ : ∃ X, (((w2.setCell ⟨wr.heap.size, 0, none⟩ (.int .i64 0)).setCell ⟨wr.heap.size, 1, none⟩ (.int .i64 0)).setCell ⟨wr.heap.size, 2, none⟩ (.string ⟨#[]⟩)).setCell ⟨wr.heap.size, 3, none⟩ (.slice none 0 0) = X := ⟨_, rfl⟩
                  have HW2 := Lib.hid hW2
                  clear hW2 f0 hbx2 hb hnum
                  go_wp2_with fail
                  rw [HW2.out]
                  go_meet
                  case rel =>
                    obtain ⟨e1, e2, e3⟩ := set4 HBX2.out HW2.out
                    refine ⟨⟨#[]⟩, false, ao, an, ac, mkZ, none, 0, rfl, rfl, rfl, Lib.hid ⟨?_, e1, .inl ⟨rfl, ?_⟩⟩⟩
                    · exact (HB1.out.trans (HBB.out.mono (by have := HS1.out; omega))).trans (below_set4 HW2.out (by omega))
                    · rw [← HONE.out, HC.out, ← HRL.out, one_bad HNUM.out]
              · have kb4 : (c == 115) = false := by simpa using k4
                have HND := Lib.hid (show rd [] s.data.toList = none by rw [← HRD.out, rd_one _ _ _ k1 k2, one, if_neg k3, if_neg k4])
                clear k1 k2 k3 k4
                have HBW := Lib.hid (below_seq (below_box0 w _) HB1.out (by omega))
                obtain ⟨c0, c1, c2, c3⟩ := heap4 HBN.out
                have f0 := cells_zero HBN.out
                have g0 := f0 0
                have g1 := f0 1
                have g2 := f0 2
                have g3 := f0 3
                obtain ⟨W4, hW4⟩ : ∃ X, (((W1.setCell ⟨w.heap.size, 0, none⟩ (.int .i64 0)).setCell ⟨w.heap.size, 1, none⟩ (.int .i64 0)).setCell ⟨w.heap.size, 2, none⟩ (.string ⟨#[]⟩)).setCell ⟨w.heap.size, 3, none⟩ (.slice none 0 0) = X := ⟨_, rfl⟩
                have HW := Lib.hid hW4
                clear f0 hW4
                go_wp2
                rw [HW.out]
                exact fin_zero HW.out HBN.out rfl rfl rfl HND.out HBW.out
      case rest =>
        obtain ⟨rest, b, bo, bn, bc, x, uo, uc, rfl, rfl, rfl, HH⟩ := hcut
        obtain ⟨hBW, hbx, hor⟩ := HH.out
        have HBW := Lib.hid hBW
        have HBX2 := Lib.hid hbx
        have HBN2 := Lib.hid ((hBW.block _ (by omega)).trans (heap_alloc_new w _))
        clear hBW hbx HH
        rcases hor with ⟨rfl, hnone⟩ | ⟨rfl, hor⟩
        · obtain ⟨c0, c1, c2, c3⟩ := heap4 HBN2.out
          have f0 := cells_zero HBN2.out
          have g0 := f0 0
          have g1 := f0 1
          have g2 := f0 2
          have g3 := f0 3
          obtain ⟨W4, hW4⟩ : ∃ X, (((wc.setCell ⟨w.heap.size, 0, none⟩ (.int .i64 0)).setCell ⟨w.heap.size, 1, none⟩ (.int .i64 0)).setCell ⟨w.heap.size, 2, none⟩ (.string ⟨#[]⟩)).setCell ⟨w.heap.size, 3, none⟩ (.slice none 0 0) = X := ⟨_, rfl⟩
          have HW := Lib.hid hW4
          clear f0 hW4
          go_wp2
          rw [HW.out]
          exact fin_zero HW.out HBN2.out rfl rfl rfl hnone (below_seq (below_box0 w _) HBW.out (by omega))
        · obtain ⟨hrsz, sl1, ls1, P1, hO, hV, hpush, hbxr, hl1, hl2⟩ := hor
          have HBXR := Lib.hid hbxr.2
          have HVR := Lib.hid hbxr.1
          clear hbxr
          have HOP := Lib.hid hO
          have HV := Lib.hid hV
          have HPU := Lib.hid hpush
          have HL2 := Lib.hid hl2
          obtain ⟨c0, c1, c2, c3⟩ := heap4 HBX2.out
          clear hO hV hpush hl2
          rcases opens_form HOP.out with ⟨rfl, rfl, ao', cap, hv⟩ | ⟨g, cap, n, l, ls', s1, sl', rfl, rfl, HN, hv⟩
          · simp only [Value.slice.injEq] at hv
            obtain ⟨rfl, rfl, rfl⟩ := hv
            obtain ⟨d0, d1, d2, d3⟩ := heap4 HBN2.out
            have f0 := cells_zero HBN2.out
            have g0 := f0 0
            have g1 := f0 1
            have g2 := f0 2
            have g3 := f0 3
            obtain ⟨W4, hW4⟩ : ∃ X, (((wc.setCell ⟨w.heap.size, 0, none⟩ (.int .i64 x.kd)).setCell ⟨w.heap.size, 1, none⟩ (.int .i64 x.nm)).setCell ⟨w.heap.size, 2, none⟩ (.string x.tx)).setCell ⟨w.heap.size, 3, none⟩ (.slice uo x.its.length uc) = X := ⟨_, rfl⟩
            have HW := Lib.hid hW4
            clear f0 hW4
            go_wp2
            rw [HW.out]
            rw [Exit.noGoto_ret]
            obtain ⟨e1, e2, e3⟩ := set4 HBN2.out HW.out
            have hvk := HV.out.keep (W' := W4) (fun b hp _ => e2 b (by have := HOP.out.lo b hp; omega)) (by omega)
            refine fin_read (b := rest.toList.isEmpty) rfl rfl rfl e1 hvk ?_ ((below_seq (below_box0 w _) HBW.out (by omega)).trans (below_set4 HW.out (Nat.le_refl _))) (fun b hp => by have := HOP.out.lo b hp; omega)
            have hp := HPU.out
            rw [List.reverse_nil, push_nil] at hp
            rw [ByteArray.toList_eq]
            by_cases hr : rest.data.toList = []
            · rw [if_pos hr] at hp
              exact .inl ⟨by rw [hr]; rfl, hp.symm⟩
            · rw [if_neg hr] at hp
              exact .inr ⟨by rw [List.isEmpty_eq_false_iff]; exact hr, hp.symm⟩
          · simp only [Value.slice.injEq] at hv
            obtain ⟨rfl, rfl, rfl⟩ := hv
            have hnb : (n : Int) ≤ 65536 := by rw [List.length_append, List.length_singleton, HN.out.1] at hl1; omega
            have hn2 : (0 : Int) ≤ n := by omega
            have hn3 : (n : Int) < n + 1 := by omega
            obtain ⟨i0, hi, hz0, hz1, hz2⟩ := info_parts info_val
            obtain ⟨cs, hcs1, hcs2⟩ := HOP.out.last
            have hcell : wc.cell? ⟨g, n, none⟩ = some s1 := by
              have := HOP.out.own.cells (g := g) rfl n s1 (by rw [List.getElem?_append_right (by rw [HN.out.2]; exact Nat.le_refl _), HN.out.2]; simp)
              rwa [add_plain, Nat.zero_add] at this
            obtain ⟨so, sc, rfl⟩ : ∃ so sc, s1 = .slice so l.length sc := by
              rcases hcs1.2 with ⟨rfl, h0⟩ | ⟨g, cap, cur, rfl, _⟩
              · exact ⟨none, 0, by rw [h0]⟩
              · exact ⟨_, _, rfl⟩
            have hln := hcs2.len
            obtain ⟨WL, hWL⟩ : ∃ X, ((wc.alloc (.cells #[intV 0, intV 0, .string ⟨#[]⟩, .slice none 0 0] 24)).drew) = X := ⟨_, rfl⟩
            have hsa : WL.heap.size = wc.heap.size + 1 := by rw [← hWL]; simp
            have hbl : Below wc.heap.size wc WL := by rw [← hWL]; exact (below_box0 wc _).drew
            have hnw := World.news_of_block (show WL.heap[wc.heap.size]? = some (.cells #[intV 0, intV 0, .string ⟨#[]⟩, .slice none 0 0] 24 (0, 0)) by rw [← hWL]; exact heap_alloc_new _ _)
            have hgl := (HOP.out.own.lt g rfl).2
            have hsg : ∀ b, (Value.slice so l.length sc).ownBlock = some b → b ≠ g ∧ b < wr.heap.size + 0 → True := fun _ _ _ => trivial
            have HOWN := Lib.hid (show WL.ownsRow (w.heap.size + 1) 24 4 (.slice so l.length sc) l.length cs from own_keep hcs1 fun b hb => hbl.block b (hcs1.lt b hb).2)
            have HNW := Lib.hid hnw
            have HSA := Lib.hid hsa
            have HBL := Lib.hid hbl
            have hav := fun b hb => (HOP.out.av sl'.length (.slice so l.length sc) b (by simp) hb)
            have hwcs : w.heap.size + 1 ≤ wc.heap.size := by have := HBW.out.size; simp at this; omega
            have hlb : l.length ≤ 65536 := by have := HL2.out l (by simp); omega
            have HLB := Lib.hid (And.intro hwcs hlb)
            have hl0 : (0 : Int) ≤ l.length := by omega
            have hl1' : (l.length : Int) < l.length + 1 := by omega
            have HFAR := Lib.hid (show ∀ (g2 cap2 : Nat) (w2 : World), w2.ownsRow (w.heap.size + 1) 24 4 (.slice (some ⟨g2, 0, none⟩) (l.length + 1) cap2) (l.length + 1) (cs ++ [intV 0, intV 0, .string ⟨#[]⟩, .slice none 0 0]) → WL.grownBy w2 (Value.slice so l.length sc).ownBlock → ((Value.slice so l.length sc).ownBlock = some g2 ∨ g2 = wc.heap.size + 1) → 
                (w2.cell? ⟨g, n, none⟩ = some (.slice so l.length sc) ∧ w2.frozen? ⟨g, n, none⟩ = false ∧ g ≠ g2) ∧ (w2.cell? ⟨g2, l.length * 4, none⟩ = some (intV 0) ∧ w2.cell? ⟨g2, l.length * 4 + 1, none⟩ = some (intV 0) ∧ w2.cell? ⟨g2, l.length * 4 + 2, none⟩ = some (.string ⟨#[]⟩) ∧ w2.cell? ⟨g2, l.length * 4 + 3, none⟩ = some (.slice none 0 0)) ∧
                (w2.frozen? ⟨g2, l.length * 4, none⟩ = false ∧ w2.frozen? ⟨g2, l.length * 4 + 1, none⟩ = false ∧ w2.frozen? ⟨g2, l.length * 4 + 2, none⟩ = false ∧ w2.frozen? ⟨g2, l.length * 4 + 3, none⟩ = false) from by
              intro g2 cap2 w2 ho hg hat
              have hgr : some g ≠ (Value.slice so l.length sc).ownBlock := fun e => (hav g e.symm).2 rfl
              have hbg : w2.heap[g]? = wc.heap[g]? := (hg.block g (by omega) hgr).trans (hbl.block g hgl)
              have hgc : ∀ j (u : Value), [intV 0, intV 0, .string ⟨#[]⟩, .slice none 0 0][j]? = some u → w2.cell? ⟨g2, l.length * 4 + j, none⟩ = some u := fun j u hu => by
                have hj : j < 4 := (List.getElem?_eq_some_iff.1 hu).1
                rw [ho.cellAt _ (by omega), List.getElem?_append_right (by omega), hln, Nat.add_sub_cancel_left, hu]
              refine ⟨⟨(World.cell?_of_block hbg).trans hcell, (World.frozen?_of_block hbg).trans (World.ownsRow.frozenAt' HOP.out.own n), fun e => ?_⟩, ⟨hgc 0 _ rfl, hgc 1 _ rfl, hgc 2 _ rfl, hgc 3 _ rfl⟩, ho.frozenAt _, ho.frozenAt _, ho.frozenAt _, ho.frozenAt _⟩
              rcases hat with hat | hat
              · exact hgr (by rw [hat, e])
              · omega)
            have HLN := Lib.hid hln
            have HR1 := Lib.hid (And.intro hcs1 hcs2)
            clear hcs1 hcs2 hwcs hlb hln hbl hnw hav hsg hgl hsa
            have HOWN' := Lib.hid (show ((wc.alloc (.cells #[intV 0, intV 0, .string ⟨#[]⟩, .slice none 0 0] 24)).drew).ownsRow (w.heap.size + 1) 24 4 (.slice so l.length sc) l.length cs by rw [hWL]; exact HOWN.out)
            have HNW' := Lib.hid (show ∀ j (u : Value), [intV 0, intV 0, .string ⟨#[]⟩, .slice none 0 0][j]? = some u → ((wc.alloc (.cells #[intV 0, intV 0, .string ⟨#[]⟩, .slice none 0 0] 24)).drew).cell? ((⟨wc.heap.size, 0, none⟩ : Addr).add j) = some u by rw [hWL]; exact HNW.out)
            have HSA' := Lib.hid (show ((wc.alloc (.cells #[intV 0, intV 0, .string ⟨#[]⟩, .slice none 0 0] 24)).drew).heap.size = wc.heap.size + 1 by rw [hWL]; exact HSA.out)
            have hbxc : ∀ (g2 : Nat) (w2 : World), WL.grownBy w2 (Value.slice so l.length sc).ownBlock → ((Value.slice so l.length sc).ownBlock = some g2 ∨ g2 = wc.heap.size + 1) → w2.heap[wr.heap.size]? = wc.heap[wr.heap.size]? ∧ wr.heap.size ≠ g2 := fun g2 w2 hg hat => by
              have hlt := heap_lt HBX2.out
              have hne : ∀ b, (Value.slice so l.length sc).ownBlock = some b → b ≠ wr.heap.size := fun b hb e => HBXR.out sl'.length (.slice so l.length sc) (by simp) (by rw [← e]; exact hb)
              refine ⟨(hg.block _ (by rw [HSA.out]; omega) (fun e => hne _ e.symm rfl)).trans (HBL.out.block _ hlt), fun e => ?_⟩
              rcases hat with hat | hat
              · exact hne g2 hat e.symm
              · omega
            have HBXC := Lib.hid hbxc
            have HWL := Lib.hid hWL
            clear hWL hbxc
            have hgne : g ≠ wr.heap.size := fun e => HVR.out (by rw [← e]; rfl)
            have hgne' : wr.heap.size ≠ g := fun e => hgne e.symm
            have HS0 := Lib.hid (show wc.drew.cell? ⟨g, n, none⟩ = some (.slice so l.length sc) from hcell)
            have HS1 := Lib.hid (show wc.drew.cell? ⟨wr.heap.size, 0, none⟩ = some (intV x.kd) ∧ wc.drew.cell? ⟨wr.heap.size, 1, none⟩ = some (intV x.nm) ∧ wc.drew.cell? ⟨wr.heap.size, 2, none⟩ = some (.string x.tx) ∧ wc.drew.cell? ⟨wr.heap.size, 3, none⟩ = some (.slice uo x.its.length uc) from ⟨c0, c1, c2, c3⟩)
            go_wp2
            refine wp_region_noPanic ?_
            refine wp_region_any (by kernel_rfl) (wpAny_of_k (S := fun w' => w'.cell? ⟨g, n, none⟩ = some (.slice so l.length sc)) (S' := fun w' => w'.cell? ⟨wr.heap.size, 0, none⟩ = some (intV x.kd) ∧ w'.cell? ⟨wr.heap.size, 1, none⟩ = some (intV x.nm) ∧ w'.cell? ⟨wr.heap.size, 2, none⟩ = some (.string x.tx) ∧ w'.cell? ⟨wr.heap.size, 3, none⟩ = some (.slice uo x.its.length uc)) (k := 7) _ _ _ _ ?_)
            change wpAnyK _ _ _ _ _ _ _ 12 _ _ wc.drew
            refine wpAnyK_take' (i := 0) (v := .slice (some ⟨g, 0, none⟩) (n + 1) bc) rfl (by kernel_rfl) (by kernel_rfl) (by kernel_rfl) (by decide) (fun _ _ _ h => h) (Or.inl ⟨by rfl, fun w' hw' => ?_⟩) (fun _ => HS0.out) HS1.out ?_
            · go_simp
            refine wpAnyK_take' (i := 1) (v := .int .i64 n) rfl (by kernel_rfl) (by kernel_rfl) (by kernel_rfl) (by decide) (fun _ _ _ h => h) (Or.inl ⟨by rfl, fun w' hw' => ?_⟩) (fun _ => HS0.out) HS1.out ?_
            · go_simp
            refine wpAnyK_take' (i := 2) (v := .pointer (some ⟨g, n, none⟩)) rfl (by kernel_rfl) (by kernel_rfl) (by kernel_rfl) (by decide) (fun _ _ _ h => h) (Or.inl ⟨by rfl, fun w' hw' => ?_⟩) (fun _ => HS0.out) HS1.out ?_
            · go_simp
            refine wpAnyK_take (i := 3) (v := .slice so l.length sc) rfl rfl (by kernel_rfl) (by kernel_rfl) (by kernel_rfl) (by kernel_rfl) (by kernel_rfl) (by decide) (fun _ _ _ h => h) (Or.inl ⟨by rfl, fun w' hw' => ?_⟩) HS0.out HS1.out ?_
            · dsimp only at hw'
              go_simp
            refine wpAnyK_take' (i := 4) (v := .agg #[intV x.kd, intV x.nm, .string x.tx, .slice uo x.its.length uc]) rfl (by kernel_rfl) (by kernel_rfl) (by kernel_rfl) (by decide) (fun _ _ _ h => h) (Or.inl ⟨by rfl, fun w' hw' => ?_⟩) (fun _ => HS0.out) HS1.out ?_
            · obtain ⟨b0, b1, b2, b3⟩ := hw'
              go_simp
            refine wpAnyK_take' (i := 5) (v := .int .i64 l.length) rfl (by kernel_rfl) (by kernel_rfl) (by kernel_rfl) (by decide) (fun _ _ _ h => h) (Or.inl ⟨by rfl, fun w' hw' => ?_⟩) (fun _ => HS0.out) HS1.out ?_
            · go_simp
            (try simp only [Act.put, List.setIfInBounds_toArray, List.set_cons_zero, List.set_cons_succ])
            refine wpAnyK_all (rs := [6]) (by kernel_rfl) (by simp) ?_
            intro i hi
            obtain rfl := List.mem_singleton.1 hi
            clear hi
            refine wpOp_step rfl fun K hK => ?_
            go_simp
            refine hK _ _ ⟨fun _ => cell_alloc HS0.out, ⟨cell_alloc c0, cell_alloc c1, cell_alloc c2, cell_alloc c3⟩, ?_⟩
            clear hK K
            refine wpAnyK_all (rs := [7]) (by kernel_rfl) (by simp) ?_
            intro i hi
            obtain rfl := List.mem_singleton.1 hi
            clear hi
            refine wpOp_step rfl fun K hK => ?_
            refine step_append_lies _ (by rfl) _ _ 22 (by rfl) (w.heap.size + 1) 24 i0 (.agg #[intV 0, intV 0, .string ⟨#[]⟩, .slice none 0 0]) 4 56 Tryd.underlying22 hi hz0 hz1 hz2 (by rfl) (by decide) (.slice so l.length sc) l.length cs (by rfl) HOWN'.out ⟨wc.heap.size, 0, none⟩ 1 1 [intV 0, intV 0, .string ⟨#[]⟩, .slice none 0 0] (by rfl) (by rfl) HNW'.out (by decide) (by decide) (by have := HLB.out; unfold maxLen; omega) (by have := HLB.out; omega) (by rw [HSA'.out]; have := HLB.out; omega) (wc.heap.size + 1) HSA'.out ?_
            intro g2 cap2 w2 hown2 hgrow2 hat2 hlt2
            rw [HWL.out] at hgrow2
            obtain ⟨⟨q1, q2, q3⟩, ⟨r0, r1, r2, r3⟩, t0, t1, t2, t3⟩ := HFAR.out g2 cap2 w2 hown2 hgrow2 hat2
            obtain ⟨q8, q9⟩ := HBXC.out g2 w2 hgrow2 hat2
            obtain ⟨p0, p1, p2, p3⟩ := heap4 (q8.trans HBX2.out)
            have q6 : g2 ≠ g := fun e => q3 e.symm
            have HO2 := Lib.hid (And.intro hown2 (And.intro hgrow2 (And.intro hat2 (And.intro hlt2 q8))))
            clear hown2 hgrow2 hat2 hlt2 q8
            refine hK _ _ ⟨fun h => (nomatch (h.symm.trans (show _ = true by kernel_rfl))), ⟨p0, p1, p2, p3⟩, ?_⟩
            clear hK K
            (try simp only [Act.put, List.setIfInBounds_toArray, List.set_cons_zero, List.set_cons_succ])
            refine wpAnyK_take' (i := 8) (v := .pointer (some ⟨g2, l.length * 4, none⟩)) rfl (by kernel_rfl) (by kernel_rfl) (by kernel_rfl) (by decide) (fun _ _ _ h => h) (Or.inl ⟨by rfl, fun w' hw' => ?_⟩) (fun h => (nomatch (h.symm.trans (show _ = true by kernel_rfl)))) ⟨p0, p1, p2, p3⟩ ?_
            · go_simp
            refine wpAnyK_take' (i := 10) (v := .pointer (some ⟨g, n, none⟩)) rfl (by kernel_rfl) (by kernel_rfl) (by kernel_rfl) (by decide) (fun _ _ _ h => h) (Or.inl ⟨by rfl, fun w' hw' => ?_⟩) (fun h => (nomatch (h.symm.trans (show _ = true by kernel_rfl)))) ⟨p0, p1, p2, p3⟩ ?_
            · go_simp
            (try simp only [Act.put, List.setIfInBounds_toArray, List.set_cons_zero, List.set_cons_succ])
            clear c0 c1 c2 c3 hcell
            refine wpAnyK_all (rs := [9, 11]) (by kernel_rfl) (by simp) ?_
            intro i hi
            simp only [List.mem_cons, List.mem_nil_iff, or_false] at hi
            rcases hi with rfl | rfl
            · refine wpOp_step rfl fun K hK => ?_
              go_simp
              refine hK _ _ ⟨fun h => (nomatch (h.symm.trans (show _ = true by kernel_rfl))), ⟨cell_other4 p0 q9, cell_other4 p1 q9, cell_other4 p2 q9, cell_other4 p3 q9⟩, ?_⟩
              clear hK K
              refine wpAnyK_all (rs := [11]) (by kernel_rfl) (by simp) ?_
              intro i hi
              obtain rfl := List.mem_singleton.1 hi
              clear hi
              refine wpOp_step rfl fun K hK => ?_
              go_simp
              refine hK _ _ ⟨fun h => (nomatch (h.symm.trans (show _ = true by kernel_rfl))), ⟨cell_other1 (cell_other4 p0 q9) hgne', cell_other1 (cell_other4 p1 q9) hgne', cell_other1 (cell_other4 p2 q9) hgne', cell_other1 (cell_other4 p3 q9) hgne'⟩, ?_⟩
              clear hK K
              refine wpAnyK_done (by kernel_rfl) ?_ _
              refine NoPanic.normal ?_
              go_wp2
              obtain ⟨hown2, hgrow2, hat2, hlt2, q8⟩ := HO2.out
              have hA := HOP.out.added HN.out HBL.out HSA.out hown2 hgrow2 hat2 q3 HR1.out.2 HV.out (.inl rfl)
              have hpu := HPU.out
              rw [List.reverse_append, List.reverse_singleton, List.singleton_append, push_cons] at hpu
              refine ⟨⟨rest, _, _, _, rfl, hA.1, Lib.hid ?_, ?_, Lib.hid (fun l' hl' => ?_), HBW.out.trans hA.2⟩, ?_⟩
              · rw [List.reverse_append, List.reverse_singleton, List.singleton_append]; exact hpu
              · rw [List.length_append, List.length_singleton] at hl1 ⊢; omega
              · rcases List.mem_append.1 hl' with hl' | hl'
                · have := HL2.out l' (List.mem_append_left _ hl'); omega
                · rw [List.mem_singleton] at hl'; subst hl'
                  have := HL2.out l (by simp)
                  rw [List.length_append, List.length_singleton]; omega
              · simp [szOf]; omega
            · refine wpOp_step rfl fun K hK => ?_
              go_simp
              refine hK _ _ ⟨fun h => (nomatch (h.symm.trans (show _ = true by kernel_rfl))), ⟨cell_other1 p0 hgne', cell_other1 p1 hgne', cell_other1 p2 hgne', cell_other1 p3 hgne'⟩, ?_⟩
              clear hK K
              refine wpAnyK_all (rs := [9]) (by kernel_rfl) (by simp) ?_
              intro i hi
              obtain rfl := List.mem_singleton.1 hi
              clear hi
              refine wpOp_step rfl fun K hK => ?_
              go_simp
              refine hK _ _ ⟨fun h => (nomatch (h.symm.trans (show _ = true by kernel_rfl))), ⟨cell_other4 (cell_other1 p0 hgne') q9, cell_other4 (cell_other1 p1 hgne') q9, cell_other4 (cell_other1 p2 hgne') q9, cell_other4 (cell_other1 p3 hgne') q9⟩, ?_⟩
              clear hK K
              refine wpAnyK_done (by kernel_rfl) ?_ _
              refine NoPanic.normal ?_
              go_wp2
              obtain ⟨hown2, hgrow2, hat2, hlt2, q8⟩ := HO2.out
              have hA := HOP.out.added HN.out HBL.out HSA.out hown2 hgrow2 hat2 q3 HR1.out.2 HV.out (.inr rfl)
              have hpu := HPU.out
              rw [List.reverse_append, List.reverse_singleton, List.singleton_append, push_cons] at hpu
              refine ⟨⟨rest, _, _, _, rfl, hA.1, Lib.hid ?_, ?_, Lib.hid (fun l' hl' => ?_), HBW.out.trans hA.2⟩, ?_⟩
              · rw [List.reverse_append, List.reverse_singleton, List.singleton_append]; exact hpu
              · rw [List.length_append, List.length_singleton] at hl1 ⊢; omega
              · rcases List.mem_append.1 hl' with hl' | hl'
                · have := HL2.out l' (List.mem_append_left _ hl'); omega
                · rw [List.mem_singleton] at hl'; subst hl'
                  have := HL2.out l (by simp)
                  rw [List.length_append, List.length_singleton]; omega
              · simp [szOf]; omega
end Go.Proofs.YtjcigjggfmfoeaaDoor
