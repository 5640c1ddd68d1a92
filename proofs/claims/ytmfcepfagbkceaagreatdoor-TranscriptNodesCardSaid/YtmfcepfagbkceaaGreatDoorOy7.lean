/- Stage 10 (transcript): TrMgM TrMgF, put together by merge10.py. -/
import Derived.Test.YtmfcepfagbkceaaGreatDoorOy6
import Derived.Test.YtmfcepfagbkceaaGreatDoorOx1
namespace Go.Proofs.YtmfcepfagbkceaaGreatDoor
set_option linter.unusedSimpArgs false
set_option linter.unusedVariables false
theorem txts_snoc (a : List Nd) (x : Nd) : txts (a ++ [x]) = txts a ++ x.tx := by rw [txts_append, txts_one]
theorem mrg_txts : ∀ (l out : List Nd), txts (mrgL out l) = txts out ++ txts l
  | [], out => by rw [mrgL]; simp [txts]
  | x :: l, out => by
    obtain ⟨m1, m2, _, _⟩ := mrg_kd x
    rw [mrgL, txts_cons]
    split
    · rename_i h
      rw [mrg_txts l out, h.2, List.nil_append]
    · rw [mrg_txts l _]
      have : txts (pushM out (mrgN x)) = txts out ++ x.tx := by
        unfold pushM
        split
        · rename_i y hy
          split
          · obtain ⟨o, rfl⟩ := List.getLast?_eq_some_iff.1 hy
            rw [List.dropLast_concat, txts_snoc, txts_snoc]
            show txts o ++ (y.tx ++ (mrgN x).tx) = _
            rw [m2, List.append_assoc]
          · rw [txts_snoc, m2]
        · rw [txts_snoc, m2]
      rw [this, List.append_assoc]
theorem push_jn {out : List Nd} {x : Nd} (ho : jnL out = true) (hx : jnN x = true) : jnL (pushM out x) = true := by
  have app : ∀ (a : List Nd) (y : Nd), jnL a = true → jnN y = true → jnL (a ++ [y]) = true := by
    intro a
    induction a with
    | nil => intro y _ hy; rw [List.nil_append, jnL, hy]; simp [jnL]
    | cons z a ih =>
      intro y ha hy
      rw [jnL, Bool.and_eq_true] at ha
      rw [List.cons_append, jnL, ha.1, ih y ha.2 hy]; rfl
  have last : ∀ (a : List Nd) (y : Nd), jnL (a ++ [y]) = true → jnL a = true ∧ jnN y = true := by
    intro a
    induction a with
    | nil => intro y h; rw [List.nil_append, jnL, Bool.and_eq_true] at h; exact ⟨by rw [jnL], h.1⟩
    | cons z a ih =>
      intro y h
      rw [List.cons_append, jnL, Bool.and_eq_true] at h
      obtain ⟨h1, h2⟩ := ih y h.2
      exact ⟨by rw [jnL, h.1, h1]; rfl, h2⟩
  unfold pushM
  split
  · rename_i y hy
    split
    · obtain ⟨o, rfl⟩ := List.getLast?_eq_some_iff.1 hy
      obtain ⟨h1, h2⟩ := last o y ho
      rw [List.dropLast_concat]
      refine app o _ h1 ?_
      obtain ⟨k, t, n, p⟩ := y
      exact h2
    · exact app _ _ ho hx
  · exact app _ _ ho hx
theorem mrg_jn : (∀ x, jnN x = true → jnN (mrgN x) = true) ∧ ∀ l, ∀ out, jnL l = true → jnL out = true → jnL (mrgL out l) = true := by
  refine Nd.both (fun k t n p ih h => ?_) (fun out _ ho => by rw [mrgL]; exact ho) (fun x l h1 h2 out h ho => ?_)
  · rw [jnN, Bool.and_eq_true, decide_eq_true_eq] at h
    rw [mrgN, jnN, ih [] h.2 (by rw [jnL]), Bool.and_true, decide_eq_true_eq, mrg_txts]
    simpa [txts] using h.1
  · rw [jnL, Bool.and_eq_true] at h
    rw [mrgL]
    split
    · exact h2 out h.2 ho
    · exact h2 _ h.2 (push_jn ho (h1 h.1))
theorem mrg_ok {l : List Nd} (h : JnOk l) : JnOk (mrgL [] l) := by
  refine ⟨?_, mrg_jn.2 l [] h.2 (by rw [jnL])⟩
  rw [mrg_txts]
  simpa [txts] using h.1
theorem push_tots (out : List Nd) (x : Nd) : tots (pushM out x) ≤ tots out + tot x := by
  unfold pushM
  split
  · rename_i y hy
    split
    · obtain ⟨o, rfl⟩ := List.getLast?_eq_some_iff.1 hy
      rw [List.dropLast_concat, tots_append, tots_append]
      obtain ⟨k, t, n, p⟩ := y
      simp [tots, tot, Nd.ps]
    · rw [tots_append]; simp [tots]
  · rw [tots_append]; simp [tots]
theorem mrg_tots : (∀ x, tot (mrgN x) ≤ tot x) ∧ ∀ l, ∀ out, tots (mrgL out l) ≤ tots out + tots l := by
  refine Nd.both (fun k t n p ih => ?_) (fun out => by rw [mrgL]; omega) (fun x l h1 h2 out => ?_)
  · have := ih []
    rw [mrgN, tot, tot]
    rw [tots] at this
    omega
  · rw [mrgL, tots]
    split
    · have := h2 out; omega
    · have := h2 (pushM out (mrgN x))
      have := push_tots out (mrgN x)
      omega
mutual
def txbN : Nd → Bool
  | .mk _ t _ p => decide (t.length ≤ 65540) && txbL p
def txbL : List Nd → Bool
  | [] => true
  | x :: l => txbN x && txbL l
end
theorem long_txb : (∀ x, ∀ d, longN d x = false → txbN x = true) ∧ ∀ l, ∀ d, longL d l = false → txbL l = true := by
  refine Nd.both (fun k t n p ih d h => ?_) (fun d _ => by rw [txbL]) (fun x l h1 h2 d h => ?_)
  · rw [longN, Bool.or_eq_false_iff, Bool.or_eq_false_iff] at h
    rw [txbN, ih _ h.2.2, Bool.and_true, decide_eq_true_eq]
    have hb := h.2.1
    unfold badT at hb
    rw [Bool.or_eq_false_iff] at hb
    have : ¬ 65540 < t.length := by simpa using hb.2
    omega
  · rw [longL, Bool.or_eq_false_iff] at h
    rw [txbL, h1 _ h.1, h2 _ h.2]
    rfl
theorem txb_txts : ∀ {l : List Nd}, txbL l = true → (txts l).length ≤ 65540 * l.length
  | [], _ => by simp [txts]
  | x :: l, h => by
    rw [txbL, Bool.and_eq_true] at h
    have h1 := txb_txts h.2
    obtain ⟨k, t, n, p⟩ := x
    have h2 := h.1
    rw [txbN, Bool.and_eq_true, decide_eq_true_eq] at h2
    rw [txts_cons, List.length_append, List.length_cons, Nat.mul_succ]
    show t.length + _ ≤ _
    omega
theorem txb_jn : (∀ x, txbN x = true → tot x ≤ 5000 → jnN x = true) ∧ ∀ l, txbL l = true → tots l ≤ 5000 → jnL l = true := by
  refine Nd.both (fun k t n p ih h ht => ?_) (fun _ _ => by rw [jnL]) (fun x l h1 h2 h ht => ?_)
  · rw [txbN, Bool.and_eq_true] at h
    rw [tot] at ht
    have h1 := txb_txts h.2
    have h2 := len_tots p
    rw [jnN, ih h.2 (by omega), Bool.and_true, decide_eq_true_eq]
    have h3 : 65540 * p.length ≤ 65540 * 5000 := Nat.mul_le_mul_left _ (by omega)
    omega
  · rw [txbL, Bool.and_eq_true] at h
    rw [tots] at ht
    rw [jnL, h1 h.1 (by omega), h2 h.2 (by omega)]
    rfl
theorem txb_chr : (∀ x, txbN x = true → (chrN x).length ≤ 65540 * tot x) ∧ ∀ l, txbL l = true → (chrL l).length ≤ 65540 * tots l := by
  refine Nd.both (fun k t n p ih h => ?_) (fun _ => by rw [chrL]; simp) (fun x l h1 h2 h => ?_)
  · rw [txbN, Bool.and_eq_true, decide_eq_true_eq] at h
    have := ih h.2
    rw [chrN, tot, List.length_append, Nat.mul_add]
    split
    · omega
    · simp; omega
  · rw [txbL, Bool.and_eq_true] at h
    have e1 := h1 h.1
    have e2 := h2 h.2
    rw [chrL, tots, List.length_append, Nat.mul_add]
    omega
theorem great_jn {l : List Nd} (h : greatR l = false) : tots l ≤ 4100 ∧ JnOk l ∧ (chrL l).length ≤ 1000000000 := by
  obtain ⟨h1, _, h3, _⟩ := not_great h
  have hx := long_txb.2 l 20 h3
  have h4 := txb_txts hx
  have h5 := len_tots l
  have h6 : 65540 * l.length ≤ 65540 * 5000 := Nat.mul_le_mul_left _ (by omega)
  have h7 := txb_chr.2 l hx
  have h8 : 65540 * tots l ≤ 65540 * 5000 := Nat.mul_le_mul_left _ (by omega)
  exact ⟨h1, ⟨by omega, txb_jn.2 l hx (by omega)⟩, by omega⟩
theorem flat_any : (∀ x, flatN x = !((decide (x.kd = 1) && decide (0 < x.ps.length)) || !flatL x.ps)) ∧ ∀ l, flatL l = !(l.any fun x => !flatN x) := by
  refine Nd.both (fun k t n p ih => ?_) (by rw [flatL]; rfl) (fun x l h1 h2 => ?_)
  · rw [flatN]
    show _ = !((decide (k = 1) && decide (0 < p.length)) || !flatL p)
    cases p <;> simp
  · rw [flatL, h2, List.any_cons]
    simp
end Go.Proofs.YtmfcepfagbkceaaGreatDoor
namespace Go.Proofs.YtmfcepfagbkceaaGreatDoor
set_option linter.unusedSimpArgs false
set_option linter.unusedVariables false
set_option maxRecDepth 100000
open Go.RowKit Go.Deep
set_option maxHeartbeats 4000000 in
theorem plain_any : ∀ (N : Nat) (l : List Nd), tots l ≤ N → tots l ≤ 100000 → (chrL l).length ≤ 1000000000 → ∀ (r : Bs), chrL l = r → ∀ (v : Value) (P : Nat → Prop) (w : World), VsAt w P v l →
    Calls Tryz.prog 31 #[v] w fun e w' => e = .returned (sV r) ∧ Below w.heap.size w w' := by
  intro N
  induction N using Nat.strongRecOn with
  | _ N ih =>
    intro l hN hM hC r hr v P w hv
    have HV := Lib.hid hv
    obtain ⟨a, c, rfl, _⟩ := hv
    have IH := Lib.hid ih
    have HR := Lib.hid hr
    have hll := len_tots l
    clear ih hr
    go_enter Tryz.func31, Tryz.ntmps31
    go_wp2
    go_loopw [3, 8] (fun nv iv wr => ∃ (j : Nat) (s : Bs), j ≤ l.length ∧ iv = .int .i64 j ∧ nv = sV s ∧ Hid (chrL (l.take j) = s) ∧ Below w.heap.size w wr) (fun _ iv _ => l.length - (intOf iv).toNat)
    case atStart => exact ⟨0, [], Nat.zero_le _, rfl, rfl, Lib.hid (by simp [chrL]), Below.refl _ _⟩
    case round =>
      obtain ⟨j, s, hj, rfl, rfl, HT, hB⟩ := hrel
      obtain ⟨wk, rfl⟩ : ∃ x, x = wr := ⟨_, rfl⟩
      have HB := Lib.hid hB
      by_cases hlt : j < l.length
      · obtain ⟨b, off, sa, sc, rfl, hpb, hbb, c1, c2, c3, c4, hx⟩ := HV.out.elem' hlt
        have d1 := (hB.cell (p := ⟨b, off + j * 4, none⟩) hbb).trans c1
        have d2 := (hB.cell (p := ⟨b, off + j * 4 + 1, none⟩) hbb).trans c2
        have d3 := (hB.cell (p := ⟨b, off + j * 4 + 2, none⟩) hbb).trans c3
        have d4 := (hB.cell (p := ⟨b, off + j * 4 + 3, none⟩) hbb).trans c4
        have hvs := parts_at hx hB
        have hs1 := chr_at hlt
        rw [HT.out, chr_ps] at hs1
        obtain ⟨hmt, hml⟩ := tots_mem hlt
        rw [chr_ps, List.length_append] at hml
        have hxt := tot_ps l[j]
        have hbl : (s ++ ((if l[j].kd = 1 then l[j].tx else []) ++ chrL l[j].ps)).length ≤ (chrL l).length := by
          rw [← hs1]; exact chr_pre l (j + 1)
        rw [List.length_append, List.length_append] at hbl
        have i0 : (0 : Int) ≤ (j : Int) := by omega
        have i1 : (j : Int) < (l.length : Int) := by omega
        obtain ⟨x, hxe⟩ : ∃ x, l[j] = x := ⟨_, rfl⟩
        rw [hxe] at d1 d2 d3 d4 hvs hs1 hmt hml hxt hbl
        obtain ⟨sp, htp⟩ : ∃ sp, chrL x.ps = sp := ⟨_, rfl⟩
        have HC := Lib.hid (fun W (h : VsAt W P (.slice sa x.ps.length sc) x.ps) => IH.out (tots x.ps) (by omega) x.ps (Nat.le_refl _) (by omega) (by omega) sp htp _ P W h)
        rw [htp] at hs1 hml hbl
        obtain ⟨xk, hxk⟩ : ∃ xk, x.kd = xk := ⟨_, rfl⟩
        obtain ⟨xt, hxt2⟩ : ∃ xt, x.tx = xt := ⟨_, rfl⟩
        obtain ⟨xn, hxn⟩ : ∃ xn, x.nm = xn := ⟨_, rfl⟩
        rw [hxk] at d1 hs1 hml hbl
        rw [hxt2] at d2 hs1 hml hbl
        rw [hxn] at d3
        obtain ⟨w3, hw3⟩ : ∃ X, wk.alloc (.cells #[intV xk, sV xt, intV xn, .slice sa x.ps.length sc] 42 (0, 0)) = X := ⟨_, rfl⟩
        have k3 : w3.heap[wk.heap.size]? = some (.cells #[intV xk, sV xt, intV xn, .slice sa x.ps.length sc] 42 (0, 0)) := by rw [← hw3]; exact World.alloc_heap_new _ _
        have b3 : Below wk.heap.size wk w3 := by rw [← hw3]; exact below_alloc _ _
        obtain ⟨e0, e1, e2, e3⟩ := box4T k3
        have HW3 := Lib.hid hw3
        have HVS := Lib.hid (hvs.below b3)
        have HB3 := Lib.hid (below_then hB b3)
        have z0 : (baL s).size ≤ 1000000000 := by rw [baL_size]; omega
        have z3 : (baL sp).size ≤ 1000000000 := by rw [baL_size]; omega
        clear hw3 k3 b3 hvs
        by_cases hk : xk = 1
        · have q1 : (xk == 1) = true := by simp [hk]
          rw [if_pos hk] at hs1 hml hbl
          have z1 : (baL xt).size ≤ 1000000000 := by rw [baL_size]; omega
          have y1 : baL s ++ baL xt = baL (s ++ xt) := baL_append _ _
          have y2 : baL (s ++ xt) ++ baL sp = baL (s ++ xt ++ sp) := baL_append _ _
          have z2 : (baL (s ++ xt)).size ≤ 2000000000 := by rw [baL_size, List.length_append]; omega
          have HT2 := Lib.hid (show chrL (l.take (j + 1)) = s ++ (xt ++ sp) by rw [hs1])
          clear hs1 hmt hml hxt hbl hx c1 c2 c3 c4 hB hk htp hxk hxt2 hxe hxn
          go_upto_region 5 with fail
          rw [HW3.out]
          go_wp2_with fail
          refine (HC.out w3 HVS.out).mono ?_
          rintro e' w6 ⟨rfl, h6⟩
          have HB6 := Lib.hid (below_then HB3.out h6)
          clear h6
          go_wp2
          go_roundw
          case rel => exact ⟨j + 1, s ++ (xt ++ sp), by omega, by go_num, rfl, HT2, HB6.out⟩
          case measure => simp [intOf]; omega
        · have q1 : (xk == 1) = false := by simpa using hk
          rw [if_neg hk, List.nil_append] at hs1
          have y2 : baL s ++ baL sp = baL (s ++ sp) := baL_append _ _
          have HT2 := Lib.hid (show chrL (l.take (j + 1)) = s ++ sp by rw [hs1])
          clear hs1 hmt hml hxt hbl hx c1 c2 c3 c4 hB hk htp hxk hxt2 hxe hxn
          go_upto_region 5 with fail
          rw [HW3.out]
          go_wp2_with fail
          refine (HC.out w3 HVS.out).mono ?_
          rintro e' w6 ⟨rfl, h6⟩
          have HB6 := Lib.hid (below_then HB3.out h6)
          clear h6
          go_wp2
          go_roundw
          case rel => exact ⟨j + 1, s ++ sp, by omega, by go_num, rfl, HT2, HB6.out⟩
          case measure => simp [intOf]; omega
      · have HZ := Lib.hid (show s = r by rw [← HT.out, ← HR.out, List.take_of_length_le (by omega)])
        clear hB
        go_wp2
        go_ret
        exact ⟨by rw [HZ.out]; rfl, HB.out⟩
theorem mgd_step {l : List Nd} {j : Nat} (h : j < l.length) : mgdL (prevB l j) (l.drop j) = ((!(decide (l[j].kd = 1) && (l[j].tx.isEmpty || prevB l j)) && mgdL false l[j].ps) && mgdL (prevB l (j + 1)) (l.drop (j + 1))) := by
  rw [List.drop_eq_getElem_cons h, mgdL]
  have : prevB l (j + 1) = decide (l[j].kd = 1) := by
    show (match l[j]? with | some x => decide (x.kd = 1) | none => false) = _
    rw [List.getElem?_eq_getElem h]
  rw [this]
  obtain ⟨x, hx⟩ : ∃ x, l[j] = x := ⟨_, rfl⟩
  rw [hx]
  obtain ⟨k, t, n, p⟩ := x
  rw [mgdN]
  rfl
set_option maxHeartbeats 8000000 in
theorem merged_any : ∀ (N : Nat) (l : List Nd), tots l ≤ N → tots l ≤ 100000 → ∀ (r : Bool), mgdL false l = r → ∀ (v : Value) (P : Nat → Prop) (w : World), VsAt w P v l →
    Calls Tryz.prog 32 #[v] w fun e w' => e = .returned (.bool r) ∧ Below w.heap.size w w' := by
  intro N
  induction N using Nat.strongRecOn with
  | _ N ih =>
    intro l hN hM r hr v P w hv
    have HV := Lib.hid hv
    obtain ⟨a, c, rfl, _⟩ := hv
    have IH := Lib.hid ih
    have HR := Lib.hid hr
    have hll := len_tots l
    clear ih hr
    go_enter Tryz.func32, Tryz.ntmps32
    go_wp2
    go_loopw [7] (fun iv wr => ∃ j : Nat, j ≤ l.length ∧ iv = .int .i64 j ∧ Hid (mgdL (prevB l j) (l.drop j) = r) ∧ Below w.heap.size w wr) (fun iv _ => l.length - (intOf iv).toNat)
    case atStart => exact ⟨0, Nat.zero_le _, rfl, Lib.hid (by rw [List.drop_zero]; exact HR.out), Below.refl _ _⟩
    case round =>
      obtain ⟨j, hj, rfl, HT, hB⟩ := hrel
      obtain ⟨wk, rfl⟩ : ∃ x, x = wr := ⟨_, rfl⟩
      have HB := Lib.hid hB
      by_cases hlt : j < l.length
      · obtain ⟨b, off, sa, sc, rfl, hpb, hbb, c1, c2, c3, c4, hx⟩ := HV.out.elem' hlt
        have d1 := (hB.cell (p := ⟨b, off + j * 4, none⟩) hbb).trans c1
        have d2 := (hB.cell (p := ⟨b, off + j * 4 + 1, none⟩) hbb).trans c2
        have d3 := (hB.cell (p := ⟨b, off + j * 4 + 2, none⟩) hbb).trans c3
        have d4 := (hB.cell (p := ⟨b, off + j * 4 + 3, none⟩) hbb).trans c4
        have hvs := parts_at hx hB
        have hst := mgd_step hlt
        rw [HT.out] at hst
        have hmt := (tots_mem hlt).1
        have hxt := tot_ps l[j]
        have i0 : (0 : Int) ≤ (j : Int) := by omega
        have i1 : (j : Int) < (l.length : Int) := by omega
        obtain ⟨x, hxe⟩ : ∃ x, l[j] = x := ⟨_, rfl⟩
        rw [hxe] at d1 d2 d3 d4 hvs hst hmt hxt
        obtain ⟨r2, hr2⟩ : ∃ r2, mgdL false x.ps = r2 := ⟨_, rfl⟩
        have HC := Lib.hid (fun W (h : VsAt W P (.slice sa x.ps.length sc) x.ps) => IH.out (tots x.ps) (by omega) x.ps (Nat.le_refl _) (by omega) r2 hr2 _ P W h)
        rw [hr2] at hst
        obtain ⟨xk, hxk⟩ : ∃ xk, x.kd = xk := ⟨_, rfl⟩
        obtain ⟨xt, hxt2⟩ : ∃ xt, x.tx = xt := ⟨_, rfl⟩
        obtain ⟨xn, hxn⟩ : ∃ xn, x.nm = xn := ⟨_, rfl⟩
        rw [hxk] at d1 hst
        rw [hxt2] at d2 hst
        rw [hxn] at d3
        have HPV := Lib.hid (show 0 < j → ∃ y, ∀ W, Below wk.heap.size wk W → W.cell? ⟨b, off + (j - 1) * 4, none⟩ = some (intV y) ∧ prevB l j = (y == 1) from fun hj0 => by
          obtain ⟨b', off', sa', sc', e, _, hbb', c1', _⟩ := HV.out.elem' (show j - 1 < l.length by omega)
          cases e
          exact ⟨_, fun W hW => ⟨(hW.cell (p := ⟨b, off + (j - 1) * 4, none⟩) (Nat.lt_of_lt_of_le hbb' hB.size)).trans ((hB.cell (p := ⟨b, off + (j - 1) * 4, none⟩) hbb').trans c1'), prevB_pos hj0 (by omega)⟩⟩)
        obtain ⟨w3, hw3⟩ : ∃ X, wk.alloc (.cells #[intV xk, sV xt, intV xn, .slice sa x.ps.length sc] 42 (0, 0)) = X := ⟨_, rfl⟩
        have k3 : w3.heap[wk.heap.size]? = some (.cells #[intV xk, sV xt, intV xn, .slice sa x.ps.length sc] 42 (0, 0)) := by rw [← hw3]; exact World.alloc_heap_new _ _
        have b3 : Below wk.heap.size wk w3 := by rw [← hw3]; exact below_alloc _ _
        obtain ⟨e0, e1, e2, e3⟩ := box4T k3
        have HW3 := Lib.hid hw3
        have H3 := Lib.hid b3
        have HVS := Lib.hid (hvs.below b3)
        have HB3 := Lib.hid (below_then hB b3)
        have HST := Lib.hid hst
        have htl := baL_tl xt
        clear hw3 k3 b3 hvs hmt hxt hx c1 c2 c3 c4 hB hr2 hxk hxt2 hxe hxn hst
        by_cases hk : xk = 1
        · have q1 : (xk == 1) = true := by simp [hk]
          obtain ⟨te, hte⟩ : ∃ b, xt.isEmpty = b := ⟨_, rfl⟩
          cases te
          · by_cases hj0 : 0 < j
            · have jq : decide ((0 : Int) < (j : Int)) = true := decide_eq_true (by omega)
              have jq2 : (0 : Int) < (j : Int) := by omega
              have jw : IntKind.i64.wrap ((j : Int) - 1) = ((j - 1 : Nat) : Int) := by rw [show (j : Int) - 1 = ((j - 1 : Nat) : Int) by omega]; exact IntWalk.i64_in _ (by omega)
              have j0 : (0 : Int) ≤ ((j - 1 : Nat) : Int) := by omega
              have j1 : ((j - 1 : Nat) : Int) < (l.length : Int) := by omega
              obtain ⟨y, hy⟩ := HPV.out hj0
              obtain ⟨p0, hp0⟩ := hy w3 H3.out
              obtain ⟨pb, hpb⟩ : ∃ b, (y == 1) = b := ⟨_, rfl⟩
              have HS2 := Lib.hid (show r = ((!(decide (xk = 1) && (false || pb)) && r2) && mgdL (prevB l (j + 1)) (l.drop (j + 1))) by rw [HST.out, hte, hp0, hpb])
              clear hy hp0
              cases pb
              · have HS3 := Lib.hid (show r = (r2 && mgdL (prevB l (j + 1)) (l.drop (j + 1))) by rw [HS2.out, Bool.false_or, Bool.and_false]; rfl)
                clear hk HST
                go_upto_region 4 with fail
                rw [HW3.out]
                go_wp2_with fail
                refine (HC.out w3 HVS.out).mono ?_
                rintro e' w6 ⟨rfl, h6⟩
                have HB6 := Lib.hid (below_then HB3.out h6)
                clear h6
                cases r2
                · have HZ := Lib.hid (show false = r by rw [HS3.out]; rfl)
                  go_wp2
                  go_ret
                  exact ⟨by rw [← HZ.out]; rfl, HB6.out⟩
                · have HT2 := Lib.hid (show mgdL (prevB l (j + 1)) (l.drop (j + 1)) = r by rw [HS3.out, Bool.true_and])
                  go_wp2
                  go_roundw
                  case rel => exact ⟨j + 1, by omega, by go_num, HT2, HB6.out⟩
                  case measure => simp [intOf]; omega
              · have HZ := Lib.hid (show false = r by rw [HS2.out, decide_eq_true hk]; rfl)
                clear hk HST
                go_upto_region 4 with fail
                rw [HW3.out]
                go_wp2
                go_ret
                exact ⟨by rw [← HZ.out]; rfl, HB3.out⟩
            · have jq : decide ((0 : Int) < (j : Int)) = false := decide_eq_false (by omega)
              have HS3 := Lib.hid (show r = (r2 && mgdL (prevB l (j + 1)) (l.drop (j + 1))) by
                rw [HST.out, hte]
                obtain rfl : j = 0 := by omega
                rw [show prevB l 0 = false from rfl, Bool.false_or, Bool.and_false]; rfl)
              clear hk HST HPV
              go_upto_region 4 with fail
              rw [HW3.out]
              go_wp2_with fail
              refine (HC.out w3 HVS.out).mono ?_
              rintro e' w6 ⟨rfl, h6⟩
              have HB6 := Lib.hid (below_then HB3.out h6)
              clear h6
              cases r2
              · have HZ := Lib.hid (show false = r by rw [HS3.out]; rfl)
                go_wp2
                go_ret
                exact ⟨by rw [← HZ.out]; rfl, HB6.out⟩
              · have HT2 := Lib.hid (show mgdL (prevB l (j + 1)) (l.drop (j + 1)) = r by rw [HS3.out, Bool.true_and])
                go_wp2
                go_roundw
                case rel => exact ⟨j + 1, by omega, by go_num, HT2, HB6.out⟩
                case measure => simp [intOf]; omega
          · have HZ := Lib.hid (show false = r by rw [HST.out, hte, decide_eq_true hk]; rfl)
            clear hk HST
            go_upto_region 4 with fail
            rw [HW3.out]
            go_wp2
            go_ret
            exact ⟨by rw [← HZ.out]; rfl, HB3.out⟩
        · have q1 : (xk == 1) = false := by simpa using hk
          have HS3 := Lib.hid (show r = (r2 && mgdL (prevB l (j + 1)) (l.drop (j + 1))) by rw [HST.out, decide_eq_false hk]; rfl)
          clear hk HST HPV
          go_upto_region 4 with fail
          rw [HW3.out]
          go_wp2_with fail
          refine (HC.out w3 HVS.out).mono ?_
          rintro e' w6 ⟨rfl, h6⟩
          have HB6 := Lib.hid (below_then HB3.out h6)
          clear h6
          cases r2
          · have HZ := Lib.hid (show false = r by rw [HS3.out]; rfl)
            go_wp2
            go_ret
            exact ⟨by rw [← HZ.out]; rfl, HB6.out⟩
          · have HT2 := Lib.hid (show mgdL (prevB l (j + 1)) (l.drop (j + 1)) = r by rw [HS3.out, Bool.true_and])
            go_wp2
            go_roundw
            case rel => exact ⟨j + 1, by omega, by go_num, HT2, HB6.out⟩
            case measure => simp [intOf]; omega
      · have HZ := Lib.hid (show true = r by rw [← HT.out, List.drop_of_length_le (by omega), mgdL])
        clear hB
        go_wp2
        go_ret
        exact ⟨by rw [← HZ.out]; rfl, HB.out⟩
theorem nested1_any (x : Nd) (s : Value) (sa : Option Addr) (sc : Nat) (hs : s = .slice sa x.ps.length sc) (r2 r : Bool) (hr : ((decide (x.kd = 1) && decide (0 < x.ps.length)) || r2) = r) (W : World) (P : Nat → Prop)
    (hx : VAt W P (.agg #[intV x.kd, sV x.tx, intV x.nm, s]) x) (HC : ∀ W', VsAt W' P (.slice sa x.ps.length sc) x.ps → Calls Tryz.prog 30 #[.slice sa x.ps.length sc] W' fun e w' => e = .returned (.bool r2) ∧ Below W'.heap.size W' w') :
    Calls Tryz.prog 64 #[.agg #[intV x.kd, sV x.tx, intV x.nm, s]] W fun e w' => e = .returned (.bool r) ∧ Below W.heap.size W w' := by
  subst hs
  obtain ⟨w3, hw3⟩ : ∃ X, W.alloc (.cells #[intV x.kd, sV x.tx, intV x.nm, .slice sa x.ps.length sc] 42) = X := ⟨_, rfl⟩
  have k3 : w3.heap[W.heap.size]? = some (.cells #[intV x.kd, sV x.tx, intV x.nm, .slice sa x.ps.length sc] 42 (0, 0)) := by rw [← hw3]; exact World.alloc_heap_new _ _
  have b3 : Below W.heap.size W w3 := by rw [← hw3]; exact below_alloc _ _
  obtain ⟨e0, e1, e2, e3⟩ := box4T k3
  have HC3 := Lib.hid (HC w3 (parts_at hx b3))
  have HW3 := Lib.hid hw3
  have HB3 := Lib.hid b3
  obtain ⟨k1, hk1⟩ : ∃ b, (x.kd == 1) = b := ⟨_, rfl⟩
  obtain ⟨pl, hpl⟩ : ∃ n, x.ps.length = n := ⟨_, rfl⟩
  rw [← beq_dec, hk1, hpl] at hr
  rw [hpl] at e3 HC3 HW3
  clear hw3 k3 b3 hx HC
  show Calls _ _ #[.agg #[intV x.kd, sV x.tx, intV x.nm, .slice sa x.ps.length sc]] _ _
  rw [hpl]
  obtain ⟨xk, hxk⟩ : ∃ z, x.kd = z := ⟨_, rfl⟩
  obtain ⟨xt, hxt⟩ : ∃ z, x.tx = z := ⟨_, rfl⟩
  obtain ⟨xn, hxn⟩ : ∃ z, x.nm = z := ⟨_, rfl⟩
  rw [hxk] at e0 hk1 HW3 ⊢
  rw [hxt] at e1 HW3 ⊢
  rw [hxn] at e2 HW3 ⊢
  clear hpl hxk hxt hxn
  cases k1
  · have HZ := Lib.hid (show r2 = r by rw [← hr]; rfl)
    clear hr
    go_enter Tryz.func64, Tryz.ntmps64
    go_upto_region 1 with fail
    rw [HW3.out]
    go_wp2_with fail
    refine HC3.out.mono ?_
    rintro e' w6 ⟨rfl, h6⟩
    have HB6 := Lib.hid (below_then HB3.out h6)
    clear h6
    go_wp2
    go_ret
    exact ⟨by rw [← HZ.out]; rfl, HB6.out⟩
  · by_cases hp : 0 < pl
    · have q : decide ((0 : Int) < (pl : Int)) = true := decide_eq_true (by omega)
      have HZ := Lib.hid (show true = r by rw [← hr, decide_eq_true hp]; rfl)
      clear hr
      go_enter Tryz.func64, Tryz.ntmps64
      go_upto_region 1 with fail
      rw [HW3.out]
      go_wp2
      go_ret
      exact ⟨by rw [← HZ.out]; rfl, HB3.out⟩
    · have q : decide ((0 : Int) < (pl : Int)) = false := decide_eq_false (by omega)
      have HZ := Lib.hid (show r2 = r by rw [← hr, decide_eq_false hp]; rfl)
      clear hr
      go_enter Tryz.func64, Tryz.ntmps64
      go_upto_region 1 with fail
      rw [HW3.out]
      go_wp2_with fail
      refine HC3.out.mono ?_
      rintro e' w6 ⟨rfl, h6⟩
      have HB6 := Lib.hid (below_then HB3.out h6)
      clear h6
      go_wp2
      go_ret
      exact ⟨by rw [← HZ.out]; rfl, HB6.out⟩
set_option maxHeartbeats 4000000 in
theorem nested_anyL : ∀ (N : Nat) (l : List Nd), tots l ≤ N → tots l ≤ 100000 → ∀ (r : Bool), (!flatL l) = r → ∀ (v : Value) (P : Nat → Prop) (w : World), VsAt w P v l →
    Calls Tryz.prog 30 #[v] w fun e w' => e = .returned (.bool r) ∧ Below w.heap.size w w' := by
  intro N
  induction N using Nat.strongRecOn with
  | _ N ih =>
    intro l hN hM r hr v P w hv
    have hany : l.any (fun x => !flatN x) = r := by rw [← hr, flat_any.2, Bool.not_not]
    have HC := Lib.hid (containsN_any 64 Tryz.call64 (fun x => !flatN x) l r hany v P w (src_of_vs hv) (by have := len_tots l; omega) (fun j hj s W hW hx => by
      obtain ⟨sa, sc, hs⟩ := vat_slice hx
      have hmt := (tots_mem hj).1
      have hxt := tot_ps l[j]
      refine nested1_any l[j] s sa sc hs (!flatL l[j].ps) _ (by rw [flat_any.1, Bool.not_not]) W P hx fun W' h => ?_
      exact ih (tots l[j].ps) (by omega) l[j].ps (Nat.le_refl _) (by omega) _ rfl _ P W' h))
    obtain ⟨a, c, rfl, _⟩ := hv
    clear ih hr hany
    go_enter Tryz.func30, Tryz.ntmps30
    go_wp2_with fail
    refine HC.out.mono ?_
    rintro e w2 ⟨rfl, h2⟩
    have HB2 := Lib.hid h2
    clear h2
    go_wp2
    go_ret
    exact ⟨rfl, HB2.out⟩
end Go.Proofs.YtmfcepfagbkceaaGreatDoor
