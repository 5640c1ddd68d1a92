/- The reference's Cover. -/
import Derived.Test.YtdplcpnahahkaaaIsRefCov
namespace Go.Proofs.Ytdplcpnahahkaaa
set_option linter.unusedSimpArgs false
set_option linter.unusedVariables false
set_option maxRecDepth 100000
open Go.RowKit Go.Deep

/-- every ascending list of indices is the bits of a choice -/
theorem bits_of (p : Nat → Bool) : ∀ n, ∃ m, m < 2 ^ n ∧ ∀ i, i < n → m.testBit i = p i
  | 0 => ⟨0, by decide, fun i h => absurd h (by omega)⟩
  | n + 1 => by
    obtain ⟨m, h1, h2⟩ := bits_of p n
    cases hp : p n
    · refine ⟨m, by rw [Nat.pow_succ]; omega, fun i hi => ?_⟩
      by_cases e : i = n
      · subst e; rw [hp]; exact Nat.testBit_lt_two_pow h1
      · exact h2 i (by omega)
    · refine ⟨2 ^ n + m, by rw [Nat.pow_succ]; omega, fun i hi => ?_⟩
      by_cases e : i = n
      · subst e
        rw [hp, Nat.testBit_two_pow_add_eq, Nat.testBit_lt_two_pow h1]; rfl
      · rw [Nat.testBit_two_pow_add_gt (by omega) m]; exact h2 i (by omega)
theorem asc_ext {n : Nat} : ∀ {f : Nat} {a b : List Nat}, AscFrom n f a → AscFrom n f b → (∀ i, i ∈ a ↔ i ∈ b) → a = b
  | _, [], [], _, _, _ => rfl
  | _, [], j :: b, _, _, h => absurd ((h j).2 (List.mem_cons_self ..)) (by simp)
  | _, i :: a, [], _, _, h => absurd ((h i).1 (List.mem_cons_self ..)) (by simp)
  | f, i :: a, j :: b, ⟨h1, h2, h3⟩, ⟨k1, k2, k3⟩, h => by
    have hi := (h i).1 (List.mem_cons_self ..)
    have hj := (h j).2 (List.mem_cons_self ..)
    have e : i = j := by
      rcases List.mem_cons.1 hi with e | hi
      · exact e
      · rcases List.mem_cons.1 hj with e | hj
        · exact e.symm
        · have := asc_lt k3 i hi; have := asc_lt h3 j hj; omega
    subst e
    rw [asc_ext h3 k3]
    intro z
    constructor
    · intro hz
      rcases List.mem_cons.1 ((h z).1 (List.mem_cons_of_mem _ hz)) with e | h'
      · have := asc_lt h3 z hz; omega
      · exact h'
    · intro hz
      rcases List.mem_cons.1 ((h z).2 (List.mem_cons_of_mem _ hz)) with e | h'
      · have := asc_lt k3 z hz; omega
      · exact h'
theorem choice_of {n : Nat} {c : List Nat} (h : AscFrom n 0 c) : ∃ ch, ch < 2 ^ n ∧ selN n ch.testBit = c := by
  obtain ⟨m, h1, h2⟩ := bits_of (fun i => decide (i ∈ c)) n
  refine ⟨m, h1, asc_ext (asc_selN _ n) h fun i => ?_⟩
  rw [selN, List.mem_filter, List.mem_range]
  constructor
  · rintro ⟨a, b⟩
    rw [h2 i a] at b; simpa using b
  · intro hi
    have := (asc_lt h i hi).2
    exact ⟨this, by rw [h2 i this]; simpa using hi⟩
theorem lex_up : ∀ a b : List Nat, lexLt a b → lexB (upL a) (upL b) = true
  | [], [], h => h.elim
  | [], _ :: _, h => h.elim
  | _ :: _, [], h => h.elim
  | i :: a, j :: b, h => by
    show (if (i : Int) = (j : Int) then lexB (upL a) (upL b) else decide ((i : Int) < (j : Int))) = true
    rcases h with h | ⟨rfl, h⟩
    · rw [if_neg (by omega), decide_eq_true_eq]; omega
    · rw [if_pos rfl]; exact lex_up a b h
theorem lex_irr : ∀ a : List Nat, ¬ lexLt a a
  | [], h => h
  | i :: a, h => by
    rcases h with h | ⟨_, h⟩
    · omega
    · exact lex_irr a h
theorem lex_trans : ∀ a b c : List Nat, lexLt a b → lexLt b c → lexLt a c
  | [], _, _, h, _ => h.elim
  | _ :: _, [], _, h, _ => h.elim
  | _ :: _, _ :: _, [], _, h => h.elim
  | i :: a, j :: b, k :: c, h, h' => by
    rcases h with h | ⟨rfl, h⟩
    · rcases h' with h' | ⟨rfl, h'⟩
      · exact .inl (by omega)
      · exact .inl h
    · rcases h' with h' | ⟨rfl, h'⟩
      · exact .inl h'
      · exact .inr ⟨rfl, lex_trans a b c h h'⟩
def BestTo (T : List Int) (L : List (List Int)) (ch : Nat) (b : List Nat) : Prop :=
  IsCov T L b ∧ ∀ c, c < ch → IsCov T L (selN L.length c.testBit) → b.length ≤ (selN L.length c.testBit).length ∧ ((selN L.length c.testBit).length = b.length → ¬ lexLt (selN L.length c.testBit) b)
def NoTo (T : List Int) (L : List (List Int)) (ch : Nat) : Prop := ∀ c, c < ch → ¬ IsCov T L (selN L.length c.testBit)
theorem bestTo_end {T : List Int} {L : List (List Int)} {b : List Nat} (h : BestTo T L (2 ^ L.length) b) : Best T L b := by
  refine ⟨h.1, fun c' h' => ?_⟩
  obtain ⟨ch, h1, h2⟩ := choice_of h'.1
  have := h.2 ch h1 (by rw [h2]; exact h')
  rwa [h2] at this
theorem noTo_end {T : List Int} {L : List (List Int)} (h : NoTo T L (2 ^ L.length)) (c : List Nat) : ¬ IsCov T L c := fun hc => by
  obtain ⟨ch, h1, h2⟩ := choice_of hc.1
  exact h ch h1 (by rw [h2]; exact hc)
theorem noTo_next {T : List Int} {L : List (List Int)} {ch : Nat} (h : NoTo T L ch) (hn : ¬ IsCov T L (selN L.length ch.testBit)) : NoTo T L (ch + 1) := fun c hc => by
  by_cases e : c = ch
  · rw [e]; exact hn
  · exact h c (by omega)
theorem bestTo_first {T : List Int} {L : List (List Int)} {ch : Nat} (h : NoTo T L ch) (hn : IsCov T L (selN L.length ch.testBit)) : BestTo T L (ch + 1) (selN L.length ch.testBit) := by
  refine ⟨hn, fun c hc hcov => ?_⟩
  by_cases e : c = ch
  · subst e; exact ⟨Nat.le_refl _, fun _ => lex_irr _⟩
  · exact absurd hcov (h c (by omega))
theorem bestTo_keep {T : List Int} {L : List (List Int)} {ch : Nat} {b : List Nat} (h : BestTo T L ch b) (hk : IsCov T L (selN L.length ch.testBit) → b.length ≤ (selN L.length ch.testBit).length ∧ ((selN L.length ch.testBit).length = b.length → ¬ lexLt (selN L.length ch.testBit) b)) : BestTo T L (ch + 1) b := by
  refine ⟨h.1, fun c hc hcov => ?_⟩
  by_cases e : c = ch
  · subst e; exact hk hcov
  · exact h.2 c (by omega) hcov
theorem bestTo_new {T : List Int} {L : List (List Int)} {ch : Nat} {b : List Nat} (h : BestTo T L ch b) (hn : IsCov T L (selN L.length ch.testBit)) (hk : (selN L.length ch.testBit).length < b.length ∨ ((selN L.length ch.testBit).length = b.length ∧ lexLt (selN L.length ch.testBit) b)) : BestTo T L (ch + 1) (selN L.length ch.testBit) := by
  refine ⟨hn, fun c hc hcov => ?_⟩
  by_cases e : c = ch
  · subst e; exact ⟨Nat.le_refl _, fun _ => lex_irr _⟩
  · obtain ⟨h1, h2⟩ := h.2 c (by omega) hcov
    rcases hk with hk | ⟨hk, hl⟩
    · exact ⟨by omega, fun e => by omega⟩
    · exact ⟨by omega, fun e hl2 => h2 (by omega) (lex_trans _ _ _ hl2 hl)⟩

set_option maxHeartbeats 8000000 in
theorem refCover_any (T : List Int) (L : List (List Int)) (vT vL : Value) (w : World) (hT : IntsAt w vT T) (hL : ListsAt w vL L) (lT : T.length ≤ 1000000) (lL : L.length ≤ 1000000) (hs : ∀ l ∈ L, l.length ≤ 1000000) :
    Calls Try.prog 32 #[vT, vL] w (CovPost T L w) := by
  obtain ⟨i0, hi, hz0, hz1, hz2⟩ := info_parts info_int
  have HT := Lib.hid hT
  have HV := Lib.hid hL
  have HS := Lib.hid hs
  obtain ⟨aT, cT, rfl, _⟩ := hT
  obtain ⟨aL, cL, rfl, _⟩ := hL
  clear hs
  by_cases h16 : 16 < L.length
  · have h16' : (16 : Int) < (L.length : Int) := by omega
    go_enter Try.func32, Try.ntmps32
    go_wp2
    go_ret2
    exact ⟨_, .inl ⟨h16, rfl⟩, ListPost.bad rfl (Below.refl _ _)⟩
  · have h16' : (L.length : Int) ≤ 16 := by omega
    have C1 := Lib.hid (refCheck_any T _ w HT.out lT)
    by_cases eT : errL T = 0
    rotate_left
    · have H16 := Lib.hid (And.intro h16 eT)
      obtain ⟨q, hq⟩ : ∃ q, errL T = q := ⟨_, rfl⟩
      rw [hq] at C1 eT
      have eT' : (q != 0) = true := by rw [bne_iff_ne]; exact eT
      clear eT hq h16
      go_enter Try.func32, Try.ntmps32
      go_wp2_with fail
      refine C1.out.mono ?_
      rintro e w1 ⟨rfl, m, rfl⟩
      go_wp2
      go_ret2
      exact ⟨_, .inr (.inl ⟨H16.out.1, .inl H16.out.2, rfl⟩), ListPost.bad rfl (below_drewN _ _)⟩
    · rw [eT] at C1
      have H16 := Lib.hid (And.intro h16 eT)
      clear h16 eT
      go_enter Try.func32, Try.ntmps32
      go_wp2_with fail
      refine C1.out.mono ?_
      rintro e w1 ⟨rfl, m, rfl⟩
      clear C1
      go_wp2
      go_loopw [6] (fun i wr => ∃ k m : Nat, k ≤ L.length ∧ i = .int .i64 k ∧ wr = w.drewN m ∧ ∀ l ∈ L.take k, errL l = 0) (fun i _ => L.length - (intOf i).toNat)
      case atStart => exact ⟨0, _, Nat.zero_le _, rfl, rfl, by simp⟩
      case round =>
        obtain ⟨k, m', hk, rfl, hwr, ha⟩ := hrel
        obtain ⟨wk, rfl⟩ : ∃ x, x = wr := ⟨_, rfl⟩
        have HA := Lib.hid ha
        have HW := Lib.hid hwr
        have hB : Below w.heap.size w wk := by rw [hwr]; exact below_drewN _ _
        have HB := Lib.hid hB
        clear ha hwr
        by_cases hlt : k < L.length
        · obtain ⟨b, off, u, c, rfl, hb, hcell, hx⟩ := (HV.out.below hB).elem hlt
          have HTK := Lib.hid (List.take_succ_eq_append_getElem hlt)
          have hmem := List.getElem_mem hlt
          have hlen := HS.out _ hmem
          have HM := Lib.hid hmem
          obtain ⟨x, hxx⟩ : ∃ x, L[k] = x := ⟨_, rfl⟩
          rw [hxx] at hcell hx HTK hlen HM
          have C := Lib.hid (refCheck_any x _ wk hx hlen)
          obtain ⟨q, hq⟩ : ∃ q, errL x = q := ⟨_, rfl⟩
          rw [hq] at C
          have HQ := Lib.hid hq
          clear hmem hxx hx hlen hB hq
          by_cases h0 : q = 0
          · subst h0
            go_wp2_with fail
            refine C.out.mono ?_
            rintro e w1 ⟨rfl, m2, hm'⟩
            have HM' := Lib.hid hm'
            clear hm' C
            go_wp2
            go_roundw
            case rel =>
              refine ⟨k + 1, _, by omega, by go_num, by rw [HM'.out, HW.out, World.drewN_drewN], ?_⟩
              rw [HTK.out]
              intro l hl
              rcases List.mem_append.1 hl with h | h
              · exact HA.out l h
              · simp at h; rw [h]; exact HQ.out
            case measure => simp [intOf]; omega
          · have h0' : (q != 0) = true := by rw [bne_iff_ne]; exact h0
            have HBAD := Lib.hid (show errL x ≠ 0 by rw [HQ.out]; exact h0)
            clear h0
            go_wp2_with fail
            refine C.out.mono ?_
            rintro e w1 ⟨rfl, m2, hm'⟩
            have HBE := Lib.hid (HB.out.trans (show Below w.heap.size wk w1 by rw [hm']; exact below_drewN_n _ _ _))
            clear hm' C
            go_wp2
            go_ret2
            exact ⟨_, .inr (.inl ⟨H16.out.1, .inr ⟨x, HM.out, HBAD.out⟩, rfl⟩), ListPost.bad rfl HBE.out⟩
        · obtain rfl : k = L.length := by omega
          rw [List.take_length] at HA
          have HOK := Lib.hid (show ¬ (errL T ≠ 0 ∨ ∃ l ∈ L, errL l ≠ 0) by rintro (h | ⟨l, h1, h2⟩); exact h H16.out.2; exact h2 (HA.out l h1))
          have HRT := Lib.hid ((err_iff _).1 H16.out.2).2
          have HRL := Lib.hid (fun l (h : l ∈ L) => ((err_iff l).1 (HA.out l h)).2)
          have TK := Lib.hid (HT.out.below hB)
          have LK := Lib.hid (HV.out.below hB)
          obtain ⟨n, hn⟩ : ∃ n, L.length = n := ⟨_, rfl⟩
          have hn16 : n ≤ 16 := by omega
          obtain ⟨N, hN⟩ : ∃ N, 2 ^ n = N := ⟨_, rfl⟩
          have hN1 : 1 ≤ N := by rw [← hN]; exact Nat.two_pow_pos n
          have hN2 : N ≤ 65536 := by rw [← hN]; exact Nat.pow_le_pow_right (n := 2) (by decide) (show n ≤ 16 from hn16)
          have hwN : IntKind.i64.wrap (2 ^ n) = (N : Int) := by
            have e : (2 : Int) ^ n = (N : Int) := by rw [← hN]; simp
            rw [e]; exact IntWalk.i64_in _ (by omega)
          have HNN := Lib.hid (And.intro hn hN)
          rw [hn] at LK
          rw [hn]
          clear HW hB h16' lL hk hlt hn hN
          go_wp2
          go_loopw [7, 8, 9] (fun bv fv i wr => ∃ (ch : Nat) (b : List Nat) (f : Bool), ch ≤ N ∧ i = .int .i64 ch ∧ fv = .bool f ∧ IntsAt wr bv (upL b) ∧ b.length ≤ 16 ∧ Below w.heap.size w wr ∧ ((f = true ∧ BestTo T L ch b) ∨ (f = false ∧ NoTo T L ch))) (fun _ _ i _ => N - (intOf i).toNat)
          case atStart => exact ⟨0, [], false, Nat.zero_le _, rfl, rfl, IntsAt.empty _ _ _, by simp, HB.out.alloc HB.out.size _, .inr ⟨rfl, fun c hc => absurd hc (by omega)⟩⟩
          case round =>
            obtain ⟨ch, b, f, hch, rfl, rfl, hbi, hbl, hB2, hst⟩ := hrel
            obtain ⟨wq, rfl⟩ : ∃ x, x = wr := ⟨_, rfl⟩
            have HST := Lib.hid hst
            have HBI := Lib.hid hbi
            have HB2 := Lib.hid hB2
            by_cases hlt : ch < N
            · obtain ⟨ab, cb, rfl, _⟩ := id hbi
              have hub : (upL b).length = b.length := by simp [upL]
              obtain ⟨bl, hbl2⟩ : ∃ q, b.length = q := ⟨_, rfl⟩
              rw [hub, hbl2] at HBI
              rw [hub, hbl2]
              rw [hbl2] at hbl
              have HBL := Lib.hid (And.intro hub hbl2)
              clear hbi hst hub hbl2 hB2
              go_wp2
              go_loopw [10, 11] (fun o i wr => ∃ k : Nat, k ≤ n ∧ i = .int .i64 k ∧ wr.ownsRow wq.heap.size 3 1 o (selN k ch.testBit).length (mapN (selN k ch.testBit)) ∧ Below wq.heap.size wq wr) (fun _ i _ => n - (intOf i).toNat)
              case atStart => exact ⟨0, Nat.zero_le _, rfl, World.ownsRow_lit _ #[] 0 (Nat.le_refl _) (by simp [maxLen]) rfl, alloc_below _ _⟩
              case round =>
                obtain ⟨k, hk, rfl, hown, hBJ⟩ := hrel
                obtain ⟨wj, rfl⟩ : ∃ x, x = wr := ⟨_, rfl⟩
                have HO := Lib.hid hown
                have HBJ := Lib.hid hBJ
                have hsl := selN_len k ch.testBit
                clear hown
                by_cases hkl : k < n
                · have HSU := Lib.hid (selN_succ k ch.testBit)
                  have hbit := bit_i64 ch (by omega) k
                  obtain ⟨S, hS⟩ : ∃ S, selN k ch.testBit = S := ⟨_, rfl⟩
                  rw [hS] at HSU HO hsl
                  obtain ⟨bt, hbt⟩ : ∃ b, ch.testBit k = b := ⟨_, rfl⟩
                  rw [hbt] at hbit HSU
                  clear hS hbt hBJ
                  cases bt
                  · go_wp2
                    go_roundw
                    case rel => exact ⟨k + 1, by omega, by go_num, by rw [HSU.out]; exact HO.out, HBJ.out⟩
                    case measure => simp [intOf]; omega
                  · go_wp2_with (at_builtin; refine wpList_append_own _ rfl _ _ 22 rfl wq.heap.size 3 i0 (.int .i64 0) 1 8 Try.underlying22 hi hz0 hz1 hz2 rfl (by decide) _ _ _ rfl (HO.out.alloc _) ⟨wj.heap.size, 0, none⟩ 1 1 [.int .i64 _] rfl rfl (int_news _ _ _ _ rfl) (by simp [Value.oneCell']) (by unfold maxLen; omega) (by omega) (by have := HBJ.out.size; simp; omega) ?_; intro v' y1 hown' hgrow hnn; clear hnn; have HO1 := Lib.hid hown'; have HB1 := Lib.hid (own_below HBJ.out HBJ.out.size HO.out hgrow); clear hown' hgrow)
                    go_roundw
                    case rel => exact ⟨k + 1, by omega, by go_num, by rw [HSU.out]; simpa using HO1.out, HB1.out⟩
                    case measure => simp [intOf]; omega
                · obtain rfl : k = n := by omega
                  have hmi : IntsAt wj _ (upL (selN k ch.testBit)) := IntsAt.of_own (n := (selN k ch.testBit).length) (by rw [upL, List.map_map]; exact HO.out)
                  have hBW : Below w.heap.size w wj := HB2.out.trans (hBJ.mono HB2.out.size)
                  have HBW := Lib.hid hBW
                  have HBIJ := Lib.hid (HBI.out.below hBJ)
                  have hcc := fun r hr => refCovers_any T L ch.testBit H16.out.2 HA.out (by rw [HNN.out.1]; omega) lT HS.out r hr _ _ _ wj (HT.out.below hBW) (by have := HV.out.below hBW; rw [HNN.out.1] at this; exact this) (by rw [HNN.out.1]; exact hmi)
                  have hcv := covB_cov (c := selN L.length ch.testBit) HRT.out HRL.out (asc_selN _ _)
                  have hlenm : (upL (selN k ch.testBit)).length = (selN k ch.testBit).length := by simp [upL]
                  have hML : selN L.length ch.testBit = selN k ch.testBit := by rw [HNN.out.1]
                  have hkeep := fun b0 => bestTo_keep (T := T) (L := L) (ch := ch) (b := b0)
                  have hnew := fun b0 => bestTo_new (T := T) (L := L) (ch := ch) (b := b0)
                  have hfst := bestTo_first (T := T) (L := L) (ch := ch)
                  have hnxt := noTo_next (T := T) (L := L) (ch := ch)
                  rw [hML] at hcc hcv
                  simp only [hML] at hkeep hnew hfst hnxt
                  obtain ⟨M, hM⟩ : ∃ M, selN k ch.testBit = M := ⟨_, rfl⟩
                  rw [hM] at hmi hlenm hcc hcv hsl
                  simp only [hM] at hkeep hnew hfst hnxt
                  have HKEEP := Lib.hid hkeep
                  have HNEW := Lib.hid hnew
                  have HFST := Lib.hid hfst
                  have HNXT := Lib.hid hnxt
                  obtain ⟨cv, hcvv⟩ : ∃ q, covB T L M = q := ⟨_, rfl⟩
                  have hc1 := hcc cv hcvv
                  rw [hcvv] at hcv
                  have HCV := Lib.hid hcv
                  have HCC := Lib.hid hc1
                  have HMI := Lib.hid hmi
                  obtain ⟨am, cm, rfl, _⟩ := hmi
                  rw [hlenm] at HCC HMI
                  rw [hlenm]
                  obtain ⟨ml, hml⟩ : ∃ q, M.length = q := ⟨_, rfl⟩
                  rw [hml] at HCC HMI hsl
                  rw [hml]
                  have HML := Lib.hid (And.intro hlenm hml)
                  clear hBW hcc hcv hlenm hML hkeep hnew hfst hnxt hM hcvv hc1 hml HO hBJ
                  rcases HST.out with ⟨rfl, hbest⟩ | ⟨rfl, hno⟩
                  · have HBEST := Lib.hid hbest
                    clear hbest
                    by_cases hgt : bl < ml
                    · have hgt' : (bl : Int) < (ml : Int) := by omega
                      go_wp2
                      go_roundw
                      case rel => exact ⟨ch + 1, b, true, by omega, by go_num, rfl, HBIJ.out, by rw [HBL.out.2]; exact hbl, HBW.out, .inl ⟨rfl, HKEEP.out b HBEST.out (fun _ => ⟨by rw [HBL.out.2, HML.out.2]; omega, fun e => by rw [HBL.out.2, HML.out.2] at e; omega⟩)⟩⟩
                      case measure => simp [intOf]; omega
                    · have hgt' : (ml : Int) ≤ (bl : Int) := by omega
                      clear hgt
                      cases cv
                      · go_wp2_with fail
                        refine HCC.out.mono ?_
                        rintro e y1 ⟨rfl, g⟩
                        have HBY := Lib.hid (HBW.out.trans (g.mono HBW.out.size))
                        have HBIY := Lib.hid (HBIJ.out.below g)
                        clear g HCC
                        go_wp2
                        go_roundw
                        case rel => exact ⟨ch + 1, b, true, by omega, by go_num, rfl, HBIY.out, by rw [HBL.out.2]; exact hbl, HBY.out, .inl ⟨rfl, HKEEP.out b HBEST.out (fun h => absurd (HCV.out.2 h) (by simp))⟩⟩
                        case measure => simp [intOf]; omega
                      · have HCO := Lib.hid (HCV.out.1 rfl)
                        by_cases hless : ml < bl
                        · have hl1 : (ml : Int) < (bl : Int) := by omega
                          go_wp2_with fail
                          refine HCC.out.mono ?_
                          rintro e y1 ⟨rfl, g⟩
                          have HBY := Lib.hid (HBW.out.trans (g.mono HBW.out.size))
                          have HMY := Lib.hid (HMI.out.below g)
                          clear g HCC
                          go_wp2
                          go_roundw
                          case rel => exact ⟨ch + 1, M, true, by omega, by go_num, rfl, HMY.out, by rw [HML.out.2]; omega, HBY.out, .inl ⟨rfl, HNEW.out b HBEST.out HCO.out (.inl (by rw [HML.out.2, HBL.out.2]; exact hless))⟩⟩
                          case measure => simp [intOf]; omega
                        · have HEQ := Lib.hid (show ml = bl by omega)
                          have hl1 : (bl : Int) ≤ (ml : Int) := by omega
                          clear hless
                          obtain ⟨z, hz⟩ : ∃ z, lexB (upL M) (upL b) = z := ⟨_, rfl⟩
                          go_wp2_with fail
                          refine HCC.out.mono ?_
                          rintro e y1 ⟨rfl, g⟩
                          have HBY := Lib.hid (HBW.out.trans (g.mono HBW.out.size))
                          have HMY := Lib.hid (HMI.out.below g)
                          have HBIY := Lib.hid (HBIJ.out.below g)
                          have HLS := Lib.hid (less_any (upL M) (upL b) (by rw [HML.out.1, HBL.out.1, HML.out.2, HBL.out.2]; exact HEQ.out) z hz _ _ y1 HMY.out HBIY.out (by rw [HML.out.1, HML.out.2]; omega))
                          have HZ := Lib.hid hz
                          clear g HCC hz
                          go_wp2_with fail
                          refine HLS.out.mono ?_
                          rintro e y2 ⟨rfl, q2, hq2⟩
                          have HBZ := Lib.hid (HBY.out.trans (show Below w.heap.size y1 y2 by rw [hq2]; exact below_drewN_n _ _ _))
                          have hBB : Below y1.heap.size y1 y2 := by rw [hq2]; exact below_drewN _ _
                          have HMZ := Lib.hid (HMY.out.below hBB)
                          have HBIZ := Lib.hid (HBIY.out.below hBB)
                          clear hq2 HLS hBB
                          cases z
                          · go_wp2
                            go_roundw
                            case rel => exact ⟨ch + 1, b, true, by omega, by go_num, rfl, HBIZ.out, by rw [HBL.out.2]; exact hbl, HBZ.out, .inl ⟨rfl, HKEEP.out b HBEST.out (fun _ => ⟨by rw [HBL.out.2, HML.out.2]; omega, fun _ hl => by have := lex_up _ _ hl; rw [HZ.out] at this; cases this⟩)⟩⟩
                            case measure => simp [intOf]; omega
                          · go_wp2
                            go_roundw
                            case rel => exact ⟨ch + 1, M, true, by omega, by go_num, rfl, HMZ.out, by rw [HML.out.2]; omega, HBZ.out, .inl ⟨rfl, HNEW.out b HBEST.out HCO.out (.inr ⟨by rw [HML.out.2, HBL.out.2]; exact HEQ.out, lexB_up _ _ HZ.out⟩)⟩⟩
                            case measure => simp [intOf]; omega
                  · have HNO := Lib.hid hno
                    clear hno
                    cases cv
                    · go_wp2_with fail
                      refine HCC.out.mono ?_
                      rintro e y1 ⟨rfl, g⟩
                      have HBY := Lib.hid (HBW.out.trans (g.mono HBW.out.size))
                      have HBIY := Lib.hid (HBIJ.out.below g)
                      clear g HCC
                      go_wp2
                      go_roundw
                      case rel => exact ⟨ch + 1, b, false, by omega, by go_num, rfl, HBIY.out, by rw [HBL.out.2]; exact hbl, HBY.out, .inr ⟨rfl, HNXT.out HNO.out (fun h => absurd (HCV.out.2 h) (by simp))⟩⟩
                      case measure => simp [intOf]; omega
                    · go_wp2_with fail
                      refine HCC.out.mono ?_
                      rintro e y1 ⟨rfl, g⟩
                      have HBY := Lib.hid (HBW.out.trans (g.mono HBW.out.size))
                      have HMY := Lib.hid (HMI.out.below g)
                      clear g HCC
                      go_wp2
                      go_roundw
                      case rel => exact ⟨ch + 1, M, true, by omega, by go_num, rfl, HMY.out, by rw [HML.out.2]; omega, HBY.out, .inl ⟨rfl, HFST.out HNO.out (HCV.out.1 (by simp))⟩⟩
                      case measure => simp [intOf]; omega
            · obtain rfl : ch = N := by omega
              have H2N : (2 : Nat) ^ L.length = ch := by rw [HNN.out.1]; exact HNN.out.2
              have HH := Lib.hid H2N
              clear H2N hst hB2
              rcases HST.out with ⟨rfl, hbest⟩ | ⟨rfl, hno⟩
              · obtain ⟨ab, cb, rfl, _⟩ := id hbi
                have HBEST := Lib.hid hbest
                clear hbest hbi
                go_wp2
                go_ret2
                exact ⟨_, .inr (.inr ⟨H16.out.1, HOK.out, .inl ⟨b, bestTo_end (by rw [HH.out]; exact HBEST.out), rfl⟩⟩), ListPost.good rfl HBI.out HB2.out⟩
              · have HNO := Lib.hid hno
                clear hno hbi
                go_wp2
                go_ret2
                exact ⟨_, .inr (.inr ⟨H16.out.1, HOK.out, .inr ⟨noTo_end (by rw [HH.out]; exact HNO.out), rfl⟩⟩), ListPost.bad rfl HB2.out⟩
end Go.Proofs.Ytdplcpnahahkaaa
