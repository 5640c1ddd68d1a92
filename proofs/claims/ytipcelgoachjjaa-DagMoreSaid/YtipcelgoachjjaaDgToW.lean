/- The reference's to, walked. -/
import Derived.Test.YtipcelgoachjjaaDgTo
namespace Go.Proofs.Ytipcelgoachjjaa
set_option linter.unusedSimpArgs false
set_option linter.unusedVariables false
set_option maxRecDepth 100000
open Go.RowKit Go.Deep

/-- a block whose first n cells are known -/
def RowN (W : World) (g : Nat) (t : TypeId) (n : Nat) (f : Nat → Value) : Prop := ∃ cap F, W.rowIs g t cap F ∧ n ≤ cap ∧ ∀ j, j < n → F j = f j
theorem RowN.cell {W : World} {g n j : Nat} {t : TypeId} {f : Nat → Value} (h : RowN W g t n f) (hj : j < n) : W.cell? ⟨g, j, none⟩ = some (f j) := by
  obtain ⟨cap, F, h1, h2, h3⟩ := h
  rw [← h3 j hj]; exact h1.cell (by omega)
theorem RowN.frozen {W : World} {g n : Nat} {t : TypeId} {f : Nat → Value} (h : RowN W g t n f) (j : Nat) : W.frozen? ⟨g, j, none⟩ = false := by
  obtain ⟨cap, F, h1, _⟩ := h
  exact h1.frozen j
theorem RowN.lt {W : World} {g n : Nat} {t : TypeId} {f : Nat → Value} (h : RowN W g t n f) : g < W.heap.size := by
  obtain ⟨cap, F, h1, _⟩ := h
  exact h1.lt
theorem RowN.set {W : World} {g n : Nat} {t : TypeId} {f : Nat → Value} (h : RowN W g t n f) (i : Nat) (v : Value) : RowN (W.setCell ⟨g, i, none⟩ v) g t n fun j => if j = i then v else f j := by
  obtain ⟨cap, F, h1, h2, h3⟩ := h
  exact ⟨cap, _, h1.set i v, h2, fun j hj => by rw [h3 j hj]⟩
theorem RowN.congr {W : World} {g n : Nat} {t : TypeId} {f f' : Nat → Value} (h : RowN W g t n f) (e : ∀ j, j < n → f j = f' j) : RowN W g t n f' := by
  obtain ⟨cap, F, h1, h2, h3⟩ := h
  exact ⟨cap, F, h1, h2, fun j hj => (h3 j hj).trans (e j hj)⟩
theorem RowN.of_block {W W' : World} {g n : Nat} {t : TypeId} {f : Nat → Value} (h : RowN W g t n f) (e : W'.heap[g]? = W.heap[g]?) : RowN W' g t n f := by
  obtain ⟨cap, F, h1, h2⟩ := h
  exact ⟨cap, F, h1.of_block e, h2⟩
theorem RowN.alloc {W : World} {g n : Nat} {t : TypeId} {f : Nat → Value} (h : RowN W g t n f) (o : Obj) : RowN (W.alloc o) g t n f := h.of_block (blk_alloc_lt _ _ _ h.lt)
theorem RowN.drewN {W : World} {g n : Nat} {t : TypeId} {f : Nat → Value} (h : RowN W g t n f) (m : Nat) : RowN (W.drewN m) g t n f := h.of_block rfl
theorem RowN.below {W W' : World} {g n : Nat} {t : TypeId} {f : Nat → Value} (h : RowN W g t n f) (hB : Below W.heap.size W W') : RowN W' g t n f := h.of_block (hB.block _ h.lt)
theorem RowN.of_row {W : World} {g n : Nat} {t : TypeId} {f : Nat → Value} (h : W.rowIs g t n f) : RowN W g t n f := ⟨n, f, h, Nat.le_refl _, fun _ _ => rfl⟩
theorem RowN.of_own {W : World} {base n : Nat} {t : TypeId} {v : Value} {xs : List Value} (h : W.ownsRow base t 1 v n xs) (hn : 0 < n) : ∃ g cap, v = .slice (some ⟨g, 0, none⟩) n cap ∧ base ≤ g ∧ RowN W g t n fun j => xs.getD j undef := by
  obtain ⟨h0, h⟩ := h
  rcases h with ⟨_, h⟩ | ⟨g, cap, cur, rfl, hb, hg, hc, _, hs, ht⟩
  · omega
  · refine ⟨g, cap, rfl, hb, cap, fun j => cur.getD j undef, ⟨cur, hg, by omega, fun j hj => by simp [Array.getElem?_eq_getElem (show j < cur.size by omega)]⟩, hc, fun j hj => ?_⟩
    have hj1 : j < cur.toList.length := by rw [Array.length_toList]; omega
    show cur.getD j undef = xs.getD j undef
    rw [← ht, Nat.mul_one, List.getD_eq_getElem?_getD, List.getElem?_take, if_pos hj]
    simp
theorem RowN.ints {W : World} {g n cap : Nat} {t : TypeId} {f : Nat → Value} {xs : List Int} (h : RowN W g t n f) (hl : xs.length = n) (he : ∀ j (hj : j < xs.length), f j = intV xs[j]) : IntsAt W (.slice (some ⟨g, 0, none⟩) n cap) xs := by
  subst hl
  exact ⟨_, cap, rfl, fun _ => ⟨g, 0, rfl, h.lt, fun j hj => by
    have := h.cell hj
    rw [he j hj] at this
    rw [Nat.zero_add]; exact this⟩⟩
theorem own_below {w wr w1 : World} {base : Nat} {e : TypeId} {size n : Nat} {v : Value} {xs : List Value} {o : Obj} (hB : Below base w wr) (hb : base ≤ wr.heap.size) (hown : wr.ownsRow base e size v n xs) (hg : (wr.alloc o).grownBy w1 v.ownBlock) : Below base w w1 :=
  (hB.alloc hb o).grown hg (by simp; omega) fun k e => (hown.lt k e).1
theorem one_news (W : World) (c : Int) (t : TypeId) (n : Nat) (h : n = W.heap.size) : ∀ j u, [Value.int .i64 c][j]? = some u → (W.alloc (.cells #[.int .i64 c] t)).cell? ((⟨n, 0, none⟩ : Addr).add j) = some u := by
  subst h; exact int_news (Deep.blk_alloc_new _ _)

set_option maxHeartbeats 8000000 in
theorem to_any (n : Nat) (ls : List LkV) (hs : Sm n ls) (t : Nat) (ht : t < n) (b : Bool) (v : Value) (w : World) (hv : LinksAt w v ls) :
    Calls Try.prog 44 #[intV n, v, intV t, .bool b] w fun e w' => ∃ r, e = .returned r ∧ IntsAt w' r (tab n (bestR ls b t)) ∧ Below w.heap.size w w' := by
  obtain ⟨i0, hi, hz0, hz1, hz2⟩ := info_parts info_int
  have HV := Lib.hid hv
  obtain ⟨a, cap, rfl⟩ := hv.slice
  have HS := Lib.hid hs
  have hl14 := hs.l14
  have hn8 := hs.n8
  have HF := Lib.hid (fold_best hs.g b (t : Int))
  obtain ⟨T, hT⟩ : ∃ T, bestR ls b t = T := ⟨_, rfl⟩
  obtain ⟨acc, hacc⟩ : ∃ T, accR ls b t = T := ⟨_, rfl⟩
  have HLOW := Lib.hid (show ∀ s : Int, 0 ≤ s → T s ≠ -1 → 0 ≤ T s ∧ T s ≤ 8796093022208 by
    rw [← hT]
    exact fun s h0 hl => best_low hs b (t := t) h0 (by omega) hl)
  have HSTEP := Lib.hid (show ∀ l : List Nat, (∀ i ∈ l, i < ls.length) → ∀ i, i < ls.length → ∀ c, T (lk ls i).t ≠ -1 → (lk ls i).c + T (lk ls i).t = c → 0 ≤ c → acc (l ++ [i]) = if acc l < 0 ∨ (b = true ∧ acc l < c) ∨ (b = false ∧ c < acc l) then c else acc l by
    rw [← hT, ← hacc]
    exact fun l hl i hi c h1 h2 h3 => acc_step hs.g b t l hl hi h1 h2 h3)
  rw [hT, hacc] at HF
  rw [hT]
  clear hv hs hT hacc
  go_enter Try.func44, Try.ntmps44
  go_wp2
  go_loopw [10, 9] (fun i o wr => ∃ k : Nat, k ≤ n ∧ i = .int .i64 k ∧ wr.ownsRow w.heap.size 3 1 o k (List.replicate k (intV (-1))) ∧ Below w.heap.size w wr) (fun i _ _ => n - (intOf i).toNat)
  case atStart => exact ⟨0, Nat.zero_le _, rfl, World.ownsRow_lit _ #[] 0 (Nat.le_refl _) (by simp [maxLen]) rfl, (Below.refl _ _).alloc (Nat.le_refl _) _⟩
  case round =>
    obtain ⟨k, hk, rfl, hown, hB⟩ := hrel
    have HO := Lib.hid hown
    have HB := Lib.hid hB
    obtain ⟨wk, rfl⟩ : ∃ x, x = wr := ⟨_, rfl⟩
    by_cases hlt : k < n
    · have hlen := hown.1
      clear hown hB
      go_wp2_with (at_builtin; refine wpList_append_own _ rfl _ _ 23 rfl w.heap.size 3 i0 (.int .i64 0) 1 8 Try.underlying23 hi hz0 hz1 hz2 rfl (by decide) _ _ _ rfl (HO.out.alloc _) ⟨wk.heap.size, 0, none⟩ 1 1 [.int .i64 _] rfl rfl (one_news _ _ _ _ rfl) (by simp [Value.oneCell']) (by unfold maxLen; omega) (by omega) (by have := HB.out.size; simp; omega) ?_; intro v' w1 hown' hgrow hnn; clear hnn; have HO1 := Lib.hid hown'; have HB1 := Lib.hid (own_below HB.out HB.out.size HO.out hgrow); clear hown' hgrow)
      go_roundw
      case rel => exact ⟨k + 1, by omega, by go_num, by have := HO1.out; rwa [show List.replicate k (intV (-1)) ++ [Value.int .i64 (-1)] = List.replicate (k + 1) (intV (-1)) from (List.replicate_succ').symm] at this, HB1.out⟩
      case measure => simp [intOf]; omega
    · obtain rfl : k = n := by omega
      obtain ⟨R, cR, rfl, hbR, hrow⟩ := RowN.of_own hown (by omega)
      have hrow := hrow.congr (f' := fun _ => intV (-1)) fun j hj => by simp [hj]
      have hc := hrow.cell ht
      have hf := hrow.frozen t
      have HROW := Lib.hid (hrow.set t (intV 0))
      have HBR := Lib.hid (hB.setCell (p := ⟨R, t, none⟩) hbR (intV 0))
      have htk : (0 : Int) ≤ (t : Int) := by omega
      have htl : (t : Int) < (k : Int) := by omega
      clear hown hB hrow
      go_wp2_with fail
      clear hc hf
      obtain ⟨w0, hw0⟩ : ∃ x, wk.setCell ⟨R, t, none⟩ (Value.int .i64 0) = x := ⟨_, rfl⟩
      have hw0' : wk.setCell ⟨R, t, none⟩ (intV 0) = w0 := hw0
      rw [hw0'] at HROW HBR
      rw [hw0]
      have HR0 := Lib.hid (show RowN w0 R 3 k (valsF T acc (-1) ((t : Int) - 1) []) from HROW.out.congr fun j hj => by
        unfold valsF
        by_cases e : j = t
        · subst e; rw [if_pos rfl, if_pos (by omega), HF.out.fin]
        · rw [if_neg e]
          by_cases e2 : t < j
          · rw [if_pos (by omega), HF.out.high j (by omega)]
          · rw [if_neg (by omega)]
            split
            · rw [HF.out.nil]
            · rfl)
      clear hw0 hw0' HROW HO HB
      go_loopw [11] (fun i wr => ∃ m : Nat, m ≤ t ∧ i = intV ((m : Int) - 1) ∧ Below w.heap.size w wr ∧ RowN wr R 3 k (valsF T acc (-1) ((m : Int) - 1) [])) (fun i _ => (intOf i + 1).toNat)
      case atStart => exact ⟨t, Nat.le_refl _, rfl, HBR.out, HR0.out⟩
      case round =>
        obtain ⟨m, hm, rfl, hB, hrow⟩ := hrel
        obtain ⟨wk2, rfl⟩ : ∃ x, x = wr := ⟨_, rfl⟩
        cases m with
        | zero =>
          go_wp2
          go_ret
          refine ⟨_, rfl, RowN.ints hrow (tab_len _ _) (fun j hj => ?_), hB⟩
          rw [tab_get]; unfold valsF; rw [if_pos (by omega)]
        | succ s =>
          rw [show ((s + 1 : Nat) : Int) - 1 = (s : Int) by omega] at hrow ⊢
          have HROWS := Lib.hid hrow
          have HBS := Lib.hid hB
          clear hrow hB
          go_wp2_with fail
          go_loopw [12] (fun i wr => ∃ q : Nat, q ≤ ls.length ∧ i = .int .i64 q ∧ Below w.heap.size w wr ∧ RowN wr R 3 k (valsF T acc (-1) s (selN q (lv ls s)))) (fun i _ => ls.length - (intOf i).toNat)
          case atStart => exact ⟨0, Nat.zero_le _, rfl, HBS.out, HROWS.out⟩
          case round =>
            obtain ⟨q, hq, rfl, hB, hrow⟩ := hrel
            obtain ⟨wq, rfl⟩ : ∃ x, x = wr := ⟨_, rfl⟩
            by_cases hlt : q < ls.length
            · obtain ⟨bl, ol, rfl, hbb, q1, q2, q3⟩ := HV.out.elem hlt
              have hok := HS.out.g.lk hlt
              obtain ⟨g, hg⟩ : ∃ g : Nat, (lk ls q).t = g := ⟨(lk ls q).t.toNat, by have := hok.t0; omega⟩
              obtain ⟨f, hf⟩ : ∃ f, (lk ls q).f = f := ⟨_, rfl⟩
              obtain ⟨c, hc⟩ : ∃ c, (lk ls q).c = c := ⟨_, rfl⟩
              have hc0 := hok.c0
              have hc1 := hok.c1
              have hfg := hok.lt
              have hgk := hok.t1
              have HSTEPq := Lib.hid (HSTEP.out (selN q (lv ls s)) (sel_lt (by omega)) q hlt)
              have HSEL := Lib.hid (selN_succ q (lv ls s))
              have hsk := HF.out.skip (selN q (lv ls s)) q hlt
              have HSK := Lib.hid hsk
              have HLV := Lib.hid (show lv ls s q = decide (f = s) by rw [lv, hf])
              rw [hc] at hc0 hc1 HSTEPq
              rw [hg] at hfg hgk HSTEPq HSK
              rw [hf] at hfg
              obtain ⟨W1, hW1⟩ : ∃ W1, wq.alloc (.cells #[intV f, intV g, intV c] 52) = W1 := ⟨_, rfl⟩
              have hB1 : Below w.heap.size w W1 := by rw [← hW1]; exact hB.alloc hB.size _
              have hrow1 : RowN W1 R 3 k (valsF T acc (-1) s (selN q (lv ls s))) := by rw [← hW1]; exact hrow.alloc _
              have c1 := (hB.cell (p := ⟨bl, ol + q * 3, none⟩) hbb).trans q1
              have c2 := (hB.cell (p := ⟨bl, ol + q * 3 + 1, none⟩) hbb).trans q2
              have c3 := (hB.cell (p := ⟨bl, ol + q * 3 + 2, none⟩) hbb).trans q3
              rw [hf] at c1
              rw [hg] at c2
              rw [hc] at c3
              have d1 : W1.cell? ⟨wq.heap.size, 0, none⟩ = some (intV f) := by rw [← hW1, World.cell?_alloc_new]; rfl
              have d2 : W1.cell? ⟨wq.heap.size, 1, none⟩ = some (intV g) := by rw [← hW1, World.cell?_alloc_new]; rfl
              have d3 : W1.cell? ⟨wq.heap.size, 2, none⟩ = some (intV c) := by rw [← hW1, World.cell?_alloc_new]; rfl
              have hgk' : g < k := by omega
              have hg0 : (0 : Int) ≤ (g : Int) := by omega
              have HB1 := Lib.hid hB1
              have HROW1 := Lib.hid hrow1
              clear q1 q2 q3 hf hg hc hok hB hrow hB1 hsk
              by_cases hfs : f = s
              · subst hfs
                have eg : W1.cell? ⟨R, g, none⟩ = some (intV (T g)) := by
                  have := hrow1.cell hgk'
                  rw [valsF, if_pos (by omega)] at this; exact this
                have es : W1.cell? ⟨R, s, none⟩ = some (intV (acc (selN q (lv ls s)))) := by
                  have := hrow1.cell (j := s) (by omega)
                  rw [valsF, if_neg (by omega), if_pos rfl] at this; exact this
                have efz := hrow1.frozen s
                have hlv : lv ls s q = true := by rw [HLV.out]; simp
                have HSEL2 := Lib.hid (show selN (q + 1) (lv ls s) = selN q (lv ls s) ++ [q] by rw [HSEL.out, if_pos hlv])
                have hs0 : (0 : Int) ≤ (s : Int) := by omega
                have hsk : (s : Int) < (k : Int) := by omega
                clear hlv hrow1
                by_cases hTn : T g = -1
                · rw [hTn] at eg
                  have HTN := Lib.hid hTn
                  clear hTn
                  go_wp2_with fail
                  go_roundw
                  case rel =>
                    refine ⟨q + 1, by omega, by go_num, by first | exact HB1.out | (rw [hW1]; exact HB1.out), ?_⟩
                    refine RowN.congr (by first | exact HROW1.out | (rw [hW1]; exact HROW1.out)) fun j hj => ?_
                    rw [valsF, valsF, HSEL2.out, HSK.out HTN.out]
                  case measure => simp [intOf]; omega
                · obtain ⟨hT0, hT1⟩ := HLOW.out g hg0 hTn
                  have HTN := Lib.hid hTn
                  obtain ⟨x, hx⟩ : ∃ x, T g = x := ⟨_, rfl⟩
                  obtain ⟨A, hA⟩ : ∃ A, acc (selN q (lv ls s)) = A := ⟨_, rfl⟩
                  have HST := HSTEPq.out (c + x) HTN.out (by rw [hx]) (by omega)
                  rw [hA] at es HST
                  rw [hx] at eg hT0 hT1
                  have HX := Lib.hid hx
                  have HA := Lib.hid hA
                  have HSTEP2 := Lib.hid HST
                  have hwr : IntKind.i64.wrap (c + x) = c + x := IntWalk.i64_in _ (by omega)
                  have hx0 : ¬ x < 0 := by omega
                  clear hTn hx hA HST
                  go_wp2_with fail
                  try rw [hW1]
                  go_quiet (fail)
                  by_cases hA0 : A < 0
                  · skip
                    go_wp2
                    go_roundw
                    case rel =>
                      refine ⟨q + 1, by omega, by go_num, (HB1.out.trans (below_drewN_n _ _ _)).setCell hbR _, ((HROW1.out.drewN _).set s (intV (c + x))).congr fun j _ => ?_⟩
                      rw [HSEL2.out]
                      exact vals_set (by rw [HSTEP2.out, if_pos (.inl hA0)]) j
                    case measure => simp [intOf]; omega
                  · cases b
                    · rcases Decidable.em (c + x < A) with hlt2 | hlt2 <;> have H2 := Lib.hid hlt2
                      · skip
                        go_wp2
                        go_roundw
                        case rel =>
                          refine ⟨q + 1, by omega, by go_num, (HB1.out.trans (below_drewN_n _ _ _)).setCell hbR _, ((HROW1.out.drewN _).set s (intV (c + x))).congr fun j _ => ?_⟩
                          rw [HSEL2.out]
                          exact vals_set (by rw [HSTEP2.out, if_pos (.inr (.inr ⟨rfl, H2.out⟩))]) j
                        case measure => simp [intOf]; omega
                      · skip
                        go_wp2
                        go_roundw
                        case rel =>
                          refine ⟨q + 1, by omega, by go_num, HB1.out.trans (below_drewN_n _ _ _), (HROW1.out.drewN _).congr fun j _ => ?_⟩
                          rw [HSEL2.out, valsF, valsF, HSTEP2.out.trans (if_neg (fun h => by have := H2.out; rcases h with h | ⟨h0, h⟩ | ⟨h0, h⟩ <;> first | omega | cases h0)), HA.out]
                        case measure => simp [intOf]; omega
                    · rcases Decidable.em (A < c + x) with hlt2 | hlt2 <;> have H2 := Lib.hid hlt2
                      · skip
                        go_wp2
                        go_roundw
                        case rel =>
                          refine ⟨q + 1, by omega, by go_num, (HB1.out.trans (below_drewN_n _ _ _)).setCell hbR _, ((HROW1.out.drewN _).set s (intV (c + x))).congr fun j _ => ?_⟩
                          rw [HSEL2.out]
                          exact vals_set (by rw [HSTEP2.out, if_pos (.inr (.inl ⟨rfl, H2.out⟩))]) j
                        case measure => simp [intOf]; omega
                      · skip
                        go_wp2
                        go_roundw
                        case rel =>
                          refine ⟨q + 1, by omega, by go_num, HB1.out.trans (below_drewN_n _ _ _), (HROW1.out.drewN _).congr fun j _ => ?_⟩
                          rw [HSEL2.out, valsF, valsF, HSTEP2.out.trans (if_neg (fun h => by have := H2.out; rcases h with h | ⟨h0, h⟩ | ⟨h0, h⟩ <;> first | omega | cases h0)), HA.out]
                        case measure => simp [intOf]; omega
              · have hlv : lv ls s q = false := by rw [HLV.out]; simpa using hfs
                have HSEL2 := Lib.hid (show selN (q + 1) (lv ls s) = selN q (lv ls s) by rw [HSEL.out, if_neg (by rw [hlv]; simp)])
                have hb1 : (f != (s : Int)) = true := by rw [bne_iff_ne]; exact hfs
                clear hlv hrow1 hfs
                go_wp2_with fail
                go_roundw
                case rel => exact ⟨q + 1, by omega, by go_num, by first | exact HB1.out | (rw [hW1]; exact HB1.out), by rw [HSEL2.out]; first | exact HROW1.out | (rw [hW1]; exact HROW1.out)⟩
                case measure => simp [intOf]; omega
            · obtain rfl : q = ls.length := by omega
              have HROW1 := Lib.hid (hrow.congr fun j _ => vals_next HF.out (show (s : Int) < t by omega) j)
              have HB1 := Lib.hid hB
              clear hB hrow
              go_wp2_with fail
              go_roundw
              case rel => exact ⟨s, by omega, by go_num, HB1.out, HROW1.out⟩
              case measure => simp [intOf]
end Go.Proofs.Ytipcelgoachjjaa
