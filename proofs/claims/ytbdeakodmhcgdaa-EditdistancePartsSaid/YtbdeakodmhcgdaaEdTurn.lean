/- The walk of EditdistanceParts. -/
import Derived.Test.YtbdeakodmhcgdaaEdMetric
namespace Go.Proofs.Ytbdeakodmhcgdaa
set_option linter.unusedSimpArgs false
set_option linter.unusedVariables false
set_option maxRecDepth 100000
open Go.RowKit Go.Deep

abbrev byteV (c : UInt8) : Value := .int .u8 c.toNat
/-- the row at B holds the bytes l, and can be written -/
def BytesAt (W : World) (B : Nat) (l : List UInt8) : Prop := ∀ j (h : j < l.length), W.cell? ⟨B, j, none⟩ = some (byteV l[j]) ∧ W.frozen? ⟨B, j, none⟩ = false
theorem BytesAt.set {W : World} {B k : Nat} {l : List UInt8} (h : BytesAt W B l) (hk : k < l.length) (x : UInt8) : BytesAt (W.setCell ⟨B, k, none⟩ (byteV x)) B (l.set k x) := by
  intro j hj
  have hj' : j < l.length := by simpa using hj
  refine ⟨?_, by rw [World.frozen?_setCell]; exact (h j hj').2⟩
  rw [List.getElem_set]
  by_cases e : k = j
  · subst e
    rw [if_pos rfl]
    exact World.cell?_setCell_same _ _ _ (h k hk).1
  · rw [if_neg e, World.cell?_setCell_other _ _ _ _ (by intro h'; cases h'; exact e rfl)]
    exact (h j hj').1
/-- []byte(s) -/
theorem bytes_new (w : World) (s : ByteArray) (cap : Nat) (e : TypeId) : BytesAt (w.drew.alloc (.cells (bytesRow s cap) e ((bytesRow s cap).size, (bytesRow s cap).size + 1))) w.heap.size s.data.toList := by
  intro j hj
  have hj' : j < s.data.size := by simpa using hj
  have hs : (bytesRow s cap).size = s.data.size + (cap - s.size) := by simp [bytesRow]
  refine ⟨?_, ?_⟩
  · have := World.cell?_alloc_mark w.drew (bytesRow s cap) e ((bytesRow s cap).size, (bytesRow s cap).size + 1) j
    rw [show w.drew.heap.size = w.heap.size from rfl] at this
    rw [this, bytesRow_at s cap j hj']
    simp
  · have := World.frozen?_alloc_mark w.drew (bytesRow s cap) e (bytesRow s cap).size ((bytesRow s cap).size + 1) j
    rw [show w.drew.heap.size = w.heap.size from rfl] at this
    rw [this, hs]
    simp only [Bool.and_eq_false_iff, decide_eq_false_iff_not]; omega
theorem bytes_back {P : Program} {W : World} {src dst e : TypeId} {B cap : Nat} {l : List UInt8} (hs : P.underlying src = some (.slice e)) (he : P.underlying e = some (.int .u8)) (hd : P.underlying dst = some .string)
    (h : BytesAt W B l) : (convert src dst (.slice (some ⟨B, 0, none⟩) l.length cap)).run P W = .ok (.string ⟨l.toArray⟩) W :=
  run_convert_bytes_back W src dst e ⟨B, 0, none⟩ cap l hs he hd (fun j hj => by rw [show (⟨B, 0, none⟩ : Addr).add j = ⟨B, j, none⟩ by unfold Addr.add; split <;> simp_all]; exact (h j hj).1)


theorem conv_bytes (W : World) (s : ByteArray) : BytesAt (convW W s) W.heap.size s.data.toList := bytes_new W s _ _
set_option maxHeartbeats 2000000 in
theorem revB_any (l : List UInt8) (B cap base : Nat) (hl : l.length ≤ 1000000) (w : World) (h : BytesAt w B l) (hbase : base ≤ B) :
    Calls Try.prog 70 #[.slice (some ⟨B, 0, none⟩) l.length cap] w fun e w' => e = .returned (.tuple #[]) ∧ BytesAt w' B l.reverse ∧ Below base w w' := by
  have HH := Lib.hid h
  obtain ⟨n, hn⟩ : ∃ n, l.length = n := ⟨_, rfl⟩
  rw [hn] at hl ⊢
  clear h
  go_enter Try.func70, Try.ntmps70
  go_wp2
  go_loopw [2, 3] (fun vi vj wr => ∃ (i : Nat) (es : List UInt8), 2 * i ≤ n + 1 ∧ vi = .int .i64 i ∧ vj = .int .i64 ((n : Int) - 1 - i) ∧ RevAt l es i ∧ BytesAt wr B es ∧ Below base w wr)
    (fun vi _ _ => n - (intOf vi).toNat)
  case atStart => exact ⟨0, l, by omega, rfl, by simp, RevAt.start l, HH.out, Below.refl _ _⟩
  case round =>
    obtain ⟨i, es, hi, rfl, rfl, hR, hO, hB⟩ := hrel
    have HR := Lib.hid hR
    have HO := Lib.hid hO
    have HB := Lib.hid hB
    have hel : es.length = n := by rw [hR.1, hn]
    clear hR hO hB
    by_cases hlt : 2 * i < n - 1
    · obtain ⟨j, hj⟩ : ∃ j : Nat, n - 1 - i = j := ⟨_, rfl⟩
      have hji : (n : Int) - 1 - (i : Int) = (j : Int) := by omega
      have hijI : (i : Int) < (j : Int) := by omega
      have hin : i < es.length := by omega
      have hjn : j < es.length := by omega
      have hib : i < n := by omega
      have hjb : j < n := by omega
      have c1 : wr.cell? ⟨B, i, none⟩ = some (.int .u8 es[i].toNat) := (HO.out i hin).1
      have d1 : wr.cell? ⟨B, j, none⟩ = some (.int .u8 es[j].toNat) := (HO.out j hjn).1
      have z1 := (HO.out i hin).2
      have y1 := (HO.out j hjn).2
      have HS := Lib.hid ((HO.out.set hin es[j]).set (k := j) (by rw [List.length_set]; exact hjn) es[i])
      have HS2 := Lib.hid ((HB.out.setCell (p := ⟨B, i, none⟩) hbase (byteV es[j])).setCell (p := ⟨B, j, none⟩) hbase (byteV es[i]))
      have HR2 := Lib.hid (HR.out.step (show j = l.length - 1 - i by omega) (by omega) hin hjn)
      obtain ⟨ei, hei⟩ : ∃ e, es[i] = e := ⟨_, rfl⟩
      obtain ⟨ej, hej⟩ : ∃ e, es[j] = e := ⟨_, rfl⟩
      rw [hei, hej] at HS HR2 HS2
      rw [hei] at c1
      rw [hej] at d1
      clear hei hej
      go_wp2_with fail
      go_region
      go_wp2
      go_roundw
      case rel => exact ⟨i + 1, _, by omega, by go_num, by go_num, HR2.out, HS.out, HS2.out.drew⟩
      case measure => simp [intOf]; omega
    · have e := HR.out.done (by omega)
      have HO2 := Lib.hid (show BytesAt wr B l.reverse by rw [← e]; exact HO.out)
      have hji : ¬ (i : Int) < (n : Int) - 1 - (i : Int) := by omega
      clear e
      go_wp2
      first
        | exact ⟨rfl, HO2.out, HB.out⟩
        | (go_end0; exact ⟨rfl, HO2.out, HB.out⟩)

def revS (s : ByteArray) : ByteArray := ⟨s.data.toList.reverse.toArray⟩
theorem revS_list (s : ByteArray) : (revS s).data.toList = s.data.toList.reverse := by simp [revS]
theorem revS_size (s : ByteArray) : (revS s).size = s.size := by rw [← size_list, revS_list, List.length_reverse, size_list]
set_option maxHeartbeats 1000000 in
theorem turned_any (s : ByteArray) (hs : s.size ≤ 1000000) (w : World) :
    Calls Try.prog 37 #[.string s] w fun e w' => e = .returned (.string (revS s)) ∧ Below w.heap.size w w' := by
  have hrun := conv_run
  go_enter Try.func37, Try.ntmps37
  go_wp2_with fail
  clear hrun
  obtain ⟨cap, hcap⟩ : ∃ cap, grownCap w s.size 0 5 = cap := ⟨_, rfl⟩
  rw [hcap]
  have hrev := revB_any s.data.toList w.heap.size cap w.heap.size (by rw [size_list]; exact hs) _ (conv_bytes w s) (Nat.le_refl _)
  rw [size_list] at hrev
  refine hrev.mono ?_
  rintro e w1 ⟨rfl, hb, hB⟩
  have hback := bytes_back (P := Try.prog) (src := 57) (dst := 9) (cap := cap) Try.underlying57 Try.underlying5 Try.underlying9 hb
  rw [List.length_reverse, size_list] at hback
  have HBel := Lib.hid ((conv_below w s).trans hB)
  clear hb hB hrev
  go_wp2
  go_ret
  exact ⟨rfl, HBel.out⟩
end Go.Proofs.Ytbdeakodmhcgdaa
