/- All paths, as the law makes them. -/
import Derived.Laws.AppendOwnNone
import Derived.Deep.AppendLies
import Derived.Test.YtipcelgoachjjaaDgLaw
namespace Go.Proofs.Ytipcelgoachjjaa
set_option linter.unusedSimpArgs false
set_option linter.unusedVariables false
set_option maxRecDepth 100000
open Go.RowKit Go.Deep

theorem wpList_append_ints {P : Program} {w : World} {ops : Array Oper} {rest : List Oper} {o : Oper} {a : Act} {Q : Exit → Act → World → Prop} (hgd : o.guard = none) (s x : Operand) (t : TypeId)
    (ho : o.op = .call { callee := .builtin .append, args := #[s, x], argTypes := #[t, t] })
    (base : Nat) (e : TypeId) (i : TypeInfo) (z : Value) (bytes : Nat) (ht : P.underlying t = some (.slice e)) (hi : P.info? e = some i) (hz : i.zero = some z)
    (hsize : i.size = 1) (hby : i.bytes = bytes) (hzs : z.cells.size = 1)
    (v : Value) (n : Nat) (xs : List Value) (hs : a.eval s = v) (hown : w.ownsRow base e 1 v n xs)
    (u : Option Addr) (c : Nat) (ys : List Int) (hx : a.eval x = .slice u ys.length c) (hI : IntsAt w (.slice u ys.length c) ys) (hu : u = none → c = 0)
    (h63 : n + ys.length ≤ maxLen) (hbytes : (n + ys.length) * bytes ≤ 140737488355328) (hbase : base ≤ w.heap.size)
    (h : ∀ v' w', w'.ownsRow base e 1 v' (n + ys.length) (xs ++ ys.map intV) → w.grownBy w' v.ownBlock → wpList P ops Q rest (a.put o.dst v') w') : wpList P ops Q (o :: rest) a w := by
  cases u with
  | none =>
    obtain rfl := hu rfl
    have hy : ys = [] := by
      obtain ⟨a', c', e', hc⟩ := hI
      cases e'
      rcases Nat.eq_zero_or_pos ys.length with h0 | h0
      · exact List.length_eq_zero_iff.1 h0
      · obtain ⟨b, off, e1, _⟩ := hc h0
        cases e1
    subst hy
    exact wpList_append_own_none hgd s x t ho base e i 1 ht hi v n xs hs hown hx (h v w (by simpa using hown) (World.grownBy.refl _ _))
  | some ad =>
    refine wpList_append_own _ hgd s x t ho base e i z 1 bytes ht hi hz hsize hby hzs (by decide) v n xs hs hown ad ys.length c (ys.map intV) hx (by simp) ?_ ?_ h63 hbytes hbase (fun v' w' k1 k2 _ => h v' w' k1 k2)
    · intro j q hj
      obtain ⟨hj1, hj2⟩ := List.getElem?_eq_some_iff.1 hj
      rw [List.length_map] at hj1
      rw [List.getElem_map] at hj2
      obtain ⟨b, off, e1, _, hc⟩ := hI.elem hj1
      cases e1
      rw [← hj2, addr_more]; exact hc
    · intro q hq
      obtain ⟨y, _, rfl⟩ := List.mem_map.1 hq
      rfl
theorem rows_apart {w : World} {b1 b2 : Nat} {e1 e2 : TypeId} {s1 s2 n1 n2 : Nat} {v1 v2 : Value} {x1 x2 : List Value} (h1 : w.ownsRow b1 e1 s1 v1 n1 x1) (h2 : w.ownsRow b2 e2 s2 v2 n2 x2) (hne : e1 ≠ e2) : v1.ownBlock = none ∨ v1.ownBlock ≠ v2.ownBlock := by
  rcases h1.2 with ⟨rfl, _⟩ | ⟨g1, cap1, cur1, rfl, _, hg1, _⟩
  · exact .inl rfl
  · right
    rcases h2.2 with ⟨rfl, _⟩ | ⟨g2, cap2, cur2, rfl, _, hg2, _⟩
    · simp [Value.ownBlock]
    · simp only [Value.ownBlock]
      intro e
      cases e
      rw [hg1] at hg2
      simp at hg2
      exact hne hg2.2
theorem own_belowW {w w' : World} {b : Nat} {v : Value} {n : Nat} {xs : List Value} {e : TypeId} (h : w.ownsRow b e 1 v n xs) (hb : Below w.heap.size w w') : w'.ownsRow b e 1 v n xs := by
  refine ⟨h.1, ?_⟩
  rcases h.2 with hn | ⟨g, cap, cur, rfl, hbg, hg, rest⟩
  · exact .inl hn
  · exact .inr ⟨g, cap, cur, rfl, hbg, (hb.block g (Array.getElem?_eq_some_iff.1 hg).1).trans hg, rest⟩
/-- lists of lists, each a row of its own -/
structure OwnL (W : World) (base : Nat) (v : Value) (us : List Value) (L : List (List Int)) : Prop where
  top : W.ownsRow base 23 1 v us.length us
  len : us.length = L.length
  each : ∀ j (h : j < L.length), W.ownsRow base 3 1 (us[j]'(by omega)) L[j].length (L[j].map intV)
theorem OwnL.below {W W' : World} {base : Nat} {v : Value} {us : List Value} {L : List (List Int)} (h : OwnL W base v us L) (hB : Below W.heap.size W W') : OwnL W' base v us L :=
  ⟨own_belowW h.top hB, h.len, fun j hj => own_belowW (h.each j hj) hB⟩
theorem OwnL.lists {W : World} {base : Nat} {v : Value} {us : List Value} {L : List (List Int)} (h : OwnL W base v us L) : ListsAt W v L := by
  have ht := h.top
  rcases ht.2 with ⟨rfl, h0⟩ | ⟨g, cap, cur, rfl, _⟩
  · have : L = [] := List.length_eq_zero_iff.1 (by rw [← h.len]; exact h0)
    subst this
    exact ⟨none, 0, rfl, fun h => absurd h (by simp)⟩
  · refine ⟨some ⟨g, 0, none⟩, cap, by rw [h.len], fun h0 => ⟨g, 0, rfl, (ht.lt g rfl).2, fun j hj => ⟨us[j]'(by rw [h.len]; exact hj), ?_, IntsAt.of_own (h.each j hj)⟩⟩⟩
    have := ht.cells (g := g) rfl j (us[j]'(by rw [h.len]; exact hj)) (List.getElem?_eq_getElem _)
    rwa [show (⟨g, 0, none⟩ : Addr).add j = ⟨g, 0 + j, none⟩ from addr_more g 0 j] at this
/-- a further list -/
theorem OwnL.more {W W2 : World} {base : Nat} {v v' u : Value} {us : List Value} {L : List (List Int)} {l : List Int} (h : OwnL W base v us L) (hu : W.ownsRow base 3 1 u l.length (l.map intV)) {o : Obj}
    (hown : W2.ownsRow base 23 1 v' (us.length + 1) (us ++ [u])) (hg : (W.alloc o).grownBy W2 v.ownBlock) : OwnL W2 base v' (us ++ [u]) (L ++ [l]) := by
  have key : ∀ {x : Value} {n : Nat} {xs : List Value}, W.ownsRow base 3 1 x n xs → W2.ownsRow base 3 1 x n xs := fun hx => (hx.alloc o).kept hg (rows_apart hx h.top (by decide))
  refine ⟨by simpa using hown, by simp [h.len], fun j hj => ?_⟩
  rw [List.length_append, List.length_singleton] at hj
  rcases (show j < L.length ∨ j = L.length by omega) with h1 | rfl
  · have := key (h.each j h1)
    simpa [List.getElem_append_left h1, List.getElem_append_left (show j < us.length by rw [h.len]; exact h1)] using this
  · have := key hu
    simpa [List.getElem_append_right, h.len] using this
theorem OwnL.nil (W : World) (base : Nat) : OwnL W base (.slice none 0 0) [] [] := ⟨World.ownsRow_nil _ _ _ _, rfl, fun j hj => absurd hj (Nat.not_lt_zero _)⟩
theorem OwnL.mono {W : World} {base base' : Nat} {v : Value} {us : List Value} {L : List (List Int)} (h : OwnL W base v us L) (hb : base' ≤ base) : OwnL W base' v us L := by
  have key : ∀ {x : Value} {n : Nat} {xs : List Value} {e : TypeId}, W.ownsRow base e 1 x n xs → W.ownsRow base' e 1 x n xs := fun hx => ⟨hx.1, hx.2.imp id fun ⟨g, cap, cur, h1, h2, h3⟩ => ⟨g, cap, cur, h1, Nat.le_trans hb h2, h3⟩⟩
  exact ⟨key h.top, h.len, fun j hj => key (h.each j hj)⟩
theorem own_slice {W : World} {base : Nat} {v : Value} {n : Nat} {xs : List Value} {e : TypeId} (h : W.ownsRow base e 1 v n xs) : ∃ a c, v = .slice a n c ∧ (a = none → c = 0) := by
  rcases h.2 with ⟨rfl, rfl⟩ | ⟨g, cap, cur, rfl, _⟩
  · exact ⟨none, 0, rfl, fun _ => rfl⟩
  · exact ⟨some ⟨g, 0, none⟩, cap, rfl, fun h => by cases h⟩
theorem lists_news (W : World) (u : Value) (t : TypeId) (n : Nat) (h : n = W.heap.size) : ∀ j x, [u][j]? = some x → (W.alloc (.cells #[u] t)).cell? ((⟨n, 0, none⟩ : Addr).add j) = some x := by
  subst h; exact int_news (Deep.blk_alloc_new _ _)
theorem info_lists : (Try.prog.info? 23).map (fun i => (i.zero, i.size, i.bytes)) = some (some (.slice none 0 0), 1, 24) := info_ints

/-- the paths over the first q links -/
def PO (ls : List LkV) (t s : Int) (q : Nat) : List (List Int) := ((selN q (lv ls s)).flatMap fun i => (P ls t (lk ls i).t).map (i :: ·)).map toI
theorem PO_next {ls : List LkV} {t s : Int} {q : Nat} (h : lv ls s q = true) : PO ls t s (q + 1) = PO ls t s q ++ ((P ls t (lk ls q).t).map fun p => toI (q :: p)) := by
  rw [PO, selN_succ, if_pos h, List.flatMap_append, List.map_append, PO]
  simp [List.map_map]
theorem PO_skip {ls : List LkV} {t s : Int} {q : Nat} (h : lv ls s q = false) : PO ls t s (q + 1) = PO ls t s q := by
  rw [PO, selN_succ, if_neg (by rw [h]; simp), PO]
theorem PO_all {ls : List LkV} (hu : Up ls) {t s : Int} (h : s ≠ t) : PO ls t s ls.length = (P ls t s).map toI := by
  rw [P_rec hu h]; rfl
theorem PO_len {n : Int} {ls : List LkV} (hg : Gr n ls) (h14 : ls.length ≤ 14) (t s : Int) (q : Nat) (hq : q ≤ ls.length) : (PO ls t s q).length ≤ 229376 := by
  have h1 : (PO ls t s q).length = nO ls t (selN q (lv ls s)) := by rw [PO, List.length_map, nO]
  have := nO_small hg h14 t (selN q (lv ls s)) (by have := selN_len q (lv ls s); omega)
  omega
theorem P_len8 {n : Int} {ls : List LkV} (hg : Gr n ls) {t : Int} : ∀ s, ∀ p ∈ P ls t s, s + p.length ≤ t := by
  refine up_ind hg.up (n := n) (fun j hj => (hg.lk hj).t1) fun s ih p hp => ?_
  by_cases e : s = t
  · subst e; rw [P_end] at hp; rw [List.mem_singleton.1 hp]; simp
  · obtain ⟨i, q, rfl, hi, hq⟩ := (mem_P hg.up e).1 hp
    have := ih i hi q hq
    obtain ⟨h1, h2⟩ := mem_out.1 hi
    have := hg.up i h1
    rw [List.length_cons]; omega
/-- the blocks from lo to hi are as they were -/
def SameIn (lo hi : Nat) (A B : World) : Prop := ∀ b, lo ≤ b → b < hi → B.heap[b]? = A.heap[b]?
theorem OwnL.same {A B : World} {lo : Nat} {v : Value} {us : List Value} {L : List (List Int)} (h : OwnL A lo v us L) (hs : SameIn lo A.heap.size A B) : OwnL B lo v us L := by
  have key : ∀ {x : Value} {n : Nat} {xs : List Value} {e : TypeId}, A.ownsRow lo e 1 x n xs → B.ownsRow lo e 1 x n xs := fun hx => ⟨hx.1, hx.2.imp id fun ⟨g, cap, cur, h1, h2, h3, h4⟩ => ⟨g, cap, cur, h1, h2, (hs g h2 (Array.getElem?_eq_some_iff.1 h3).1).trans h3, h4⟩⟩
  exact ⟨key h.top, h.len, fun j hj => key (h.each j hj)⟩
set_option maxHeartbeats 8000000 in
theorem paths_any (n : Nat) (ls : List LkV) (hs : Sm n ls) (t : Int) (ht : t < n) (v : Value) : ∀ (s : Int) (w : World), LinksAt w v ls →
    Calls Try.prog 29 #[v, intV s, intV t] w fun e w' => ∃ u us, e = .returned u ∧ OwnL w' w.heap.size u us ((P ls t s).map toI) ∧ Below w.heap.size w w' := by
  obtain ⟨i0, hi, hz0, hz1, hz2⟩ := info_parts info_int
  obtain ⟨i1, hj, hy0, hy1, hy2⟩ := info_parts info_lists
  refine up_ind hs.g.up (n := n) (fun j hj => (hs.g.lk hj).t1) fun s ih w hv => ?_
  have HV := Lib.hid hv
  have HS := Lib.hid hs
  have HIH := Lib.hid ih
  have hl14 := hs.l14
  obtain ⟨av, cv, rfl⟩ := hv.slice
  clear hv hs ih
  by_cases hst : s = t
  · subst hst
    have HP := Lib.hid (P_end ls s)
    go_enter Try.func29, Try.ntmps29
    go_wp2
    go_ret
    refine ⟨_, [.slice none 0 0], rfl, ⟨World.ownsRow_lit w #[.slice none 0 0] 1 (Nat.le_refl _) (by simp [maxLen]) rfl, by rw [HP.out]; rfl, fun j hj => ?_⟩, alloc_below _ _⟩
    rw [HP.out] at hj
    obtain rfl : j = 0 := by simp at hj; omega
    simp only [HP.out]
    exact World.ownsRow_nil _ _ _ _
  · have hstb : (s == t) = false := beq_eq_false_iff_ne.2 hst
    have HALL := Lib.hid (PO_all HS.out.g.up hst)
    clear hst
    go_enter Try.func29, Try.ntmps29
    go_wp2
    go_loopw [18, 7] (fun i o wr => ∃ (q : Nat) (us : List Value), q ≤ ls.length ∧ i = .int .i64 q ∧ OwnL wr w.heap.size o us (PO ls t s q) ∧ Below w.heap.size w wr) (fun i _ _ => ls.length - (intOf i).toNat)
    case atStart => exact ⟨0, [], Nat.zero_le _, rfl, by simpa [PO, selN] using OwnL.nil _ _, Below.refl _ _⟩
    case round =>
      obtain ⟨q, us, hq, rfl, hown, hB⟩ := hrel
      obtain ⟨wq, rfl⟩ : ∃ x, x = wr := ⟨_, rfl⟩
      by_cases hlt : q < ls.length
      · obtain ⟨bl, ol, rfl, hbb, q1, q2, q3⟩ := HV.out.elem hlt
        have hok := HS.out.g.lk hlt
        have HREC := Lib.hid (fun h => HIH.out q (mem_out.2 ⟨hlt, h⟩))
        obtain ⟨g, hg⟩ : ∃ g, (lk ls q).t = g := ⟨_, rfl⟩
        obtain ⟨f, hf⟩ : ∃ f, (lk ls q).f = f := ⟨_, rfl⟩
        obtain ⟨c, hc⟩ : ∃ c, (lk ls q).c = c := ⟨_, rfl⟩
        have HLV := Lib.hid (show lv ls s q = decide (f = s) by rw [lv, hf])
        rw [hg, hf] at HREC
        have HG := Lib.hid hg
        obtain ⟨W1, hW1⟩ : ∃ W1, wq.alloc (.cells #[intV f, intV g, intV c] 52) = W1 := ⟨_, rfl⟩
        have hB1 : Below w.heap.size w W1 := by rw [← hW1]; exact hB.alloc hB.size _
        have hO1 := hown.below (alloc_below wq (.cells #[intV f, intV g, intV c] 52))
        rw [hW1] at hO1
        have c1 := (hB.cell (p := ⟨bl, ol + q * 3, none⟩) hbb).trans q1
        have c2 := (hB.cell (p := ⟨bl, ol + q * 3 + 1, none⟩) hbb).trans q2
        have c3 := (hB.cell (p := ⟨bl, ol + q * 3 + 2, none⟩) hbb).trans q3
        rw [hf] at c1
        rw [hg] at c2
        rw [hc] at c3
        have d1 : W1.cell? ⟨wq.heap.size, 0, none⟩ = some (intV f) := by rw [← hW1, World.cell?_alloc_new]; rfl
        have d2 : W1.cell? ⟨wq.heap.size, 1, none⟩ = some (intV g) := by rw [← hW1, World.cell?_alloc_new]; rfl
        have HB1 := Lib.hid hB1
        have HO1 := Lib.hid hO1
        clear q1 q2 q3 hf hg hc hok hB hown hB1 hO1
        by_cases hfs : f = s
        · subst hfs
          have HLVT := Lib.hid (show lv ls f q = true by rw [HLV.out]; simp)
          have HNEXT := Lib.hid (PO_next (t := t) HLVT.out)
          have HLEN := Lib.hid (PO_len HS.out.g HS.out.l14 t f (q + 1) hlt)
          go_wp2_with fail
          try rw [hW1]
          refine (HREC.out (by first | rfl | trivial) W1 (HV.out.below HB1.out)).mono ?_
          rintro e w3 ⟨r, usr, rfl, hr, b3⟩
          have HR := Lib.hid hr
          have HB3 := Lib.hid (below_then HB1.out b3)
          have HW3 := Lib.hid b3.size
          have HO3 := Lib.hid (HO1.out.below b3)
          have HOB := Lib.hid (fun b h => (HO1.out.top.lt b h).2)
          obtain ⟨L, hL⟩ : ∃ L, (P ls t g).map toI = L := ⟨_, rfl⟩
          have HLL := Lib.hid (show PO ls t f (q + 1) = PO ls t f q ++ L.map ((q : Int) :: ·) by
            rw [HNEXT.out, HG.out, ← hL, List.map_map]; rfl)
          have HP8 := Lib.hid (show ∀ l ∈ L, l.length ≤ 8 from fun l hl => by
            rw [← hL] at hl
            obtain ⟨p, hp, rfl⟩ := List.mem_map.1 hl
            have h1 := P_len8 HS.out.g g p hp
            have h2 := (HS.out.g.lk hlt).t0
            have h3 := HS.out.n8
            rw [HG.out] at h2
            rw [List.length_map]
            omega)
          rw [hL] at HR
          have hlr := HR.out.len
          obtain ⟨ar, cr, rfl, _⟩ := own_slice HR.out.top
          clear hr b3 hL d1 d2 c1 c2 c3 HREC
          rw [hlr] at *
          go_wp2_with fail
          go_loopw [33, 7] (fun i o wr => ∃ (p : Nat) (us' : List Value), p ≤ L.length ∧ i = .int .i64 p ∧ OwnL wr w.heap.size o us' (PO ls t f q ++ (L.take p).map ((q : Int) :: ·)) ∧ Below w.heap.size w wr ∧ SameIn W1.heap.size w3.heap.size w3 wr ∧ (∀ b, o.ownBlock = some b → b < W1.heap.size ∨ w3.heap.size ≤ b) ∧ w3.heap.size ≤ wr.heap.size) (fun i _ _ => L.length - (intOf i).toNat)
          case atStart => exact ⟨0, us, Nat.zero_le _, rfl, by simpa using HO3.out, HB3.out, fun _ _ _ => rfl, fun b h => .inl (HOB.out b h), Nat.le_refl _⟩
          case round =>
            obtain ⟨p, us', hp, rfl, hown, hB, hsame, hblk, hsz⟩ := hrel
            obtain ⟨wj, rfl⟩ : ∃ x, x = wr := ⟨_, rfl⟩
            have HOJ := Lib.hid hown
            have HBJ := Lib.hid hB
            have HSA := Lib.hid hsame
            have HBK := Lib.hid hblk
            have HSZ := Lib.hid hsz
            by_cases hpl : p < L.length
            · have hrj := HR.out.same hsame
              have htop := hrj.top
              have hel := hrj.each p hpl
              have HL8 := Lib.hid (HP8.out _ (List.getElem_mem hpl))
              have HTK := Lib.hid (List.take_succ_eq_append_getElem hpl)
              have hlo := hown.len
              have hLL := HLEN.out
              rw [HLL.out, List.length_append, List.length_map] at hLL
              rw [List.length_append, List.length_map, List.length_take] at hlo
              have hu9 : us'.length ≤ 229376 := by omega
              have hp9 : L.length ≤ 229376 := by omega
              clear hlo hLL
              obtain ⟨l, hl⟩ : ∃ l, L[p] = l := ⟨_, rfl⟩
              rw [hl] at hel HL8 HTK
              obtain ⟨gr, rfl, hcl⟩ : ∃ gr, ar = some ⟨gr, 0, none⟩ ∧ wj.cell? ⟨gr, p, none⟩ = some (usr[p]'(by rw [hrj.len]; exact hpl)) := by
                rcases htop.2 with ⟨h, _⟩ | ⟨gr, cap, cur, he, _⟩
                · simp only [Value.slice.injEq] at h; omega
                · simp only [Value.slice.injEq] at he
                  obtain ⟨rfl, _, rfl⟩ := he
                  refine ⟨gr, rfl, ?_⟩
                  have h := htop.cells (g := gr) (by first | rfl | (rw [hrj.len])) p (usr[p]'(by rw [hrj.len]; exact hpl)) (List.getElem?_eq_getElem _)
                  rwa [addr_more, Nat.zero_add] at h
              obtain ⟨up, hup⟩ : ∃ x, usr[p]'(by rw [hrj.len]; exact hpl) = x := ⟨_, rfl⟩
              rw [hup] at hel hcl
              have hI := IntsAt.of_own hel
              obtain ⟨au, cu, rfl, hun⟩ := own_slice hel
              have HUN := Lib.hid hun
              have HLIT := Lib.hid (World.ownsRow_lit (base := w.heap.size) (e := 3) (size := 1) wj #[intV q] 1 hB.size (by simp [maxLen]) rfl)
              have HLI := Lib.hid (hI.below (alloc_below wj (.cells #[intV q] 3)))
              clear hown hB hsame hblk hsz hrj htop hel hup hI hun hl
              have hl8 := HL8.out
              go_wp2_with (at_builtin; first
                | (refine wpList_append_ints rfl _ _ 23 rfl w.heap.size 3 i0 (.int .i64 0) 8 Try.underlying23 hi hz0 hz1 hz2 rfl (.slice (some ⟨wj.heap.size, 0, none⟩) 1 1) 1 [intV q] rfl HLIT.out au cu l rfl HLI.out HUN.out (by unfold maxLen; omega) (by omega) (by have := HBJ.out.size; simp; omega) ?_
                   intro v1 w4 hown1 hgrow1
                   have hb4 : Below wj.heap.size wj w4 := (alloc_below wj (.cells #[intV q] 3)).grown hgrow1 (by simp) (fun k e => by cases e; exact Nat.le_refl _)
                   have HO4 := Lib.hid (HOJ.out.below hb4)
                   have HB4 := Lib.hid hb4
                   obtain ⟨a1, c1, rfl, _⟩ := own_slice hown1
                   have HV1 := Lib.hid hown1
                   clear hown1 hgrow1 hb4)
                | (refine wpList_append_lies _ rfl _ _ 40 rfl w.heap.size 23 i1 (.slice none 0 0) 1 24 Try.underlying40 hj hy0 hy1 hy2 rfl (by decide) _ _ _ rfl (HO4.out.top.alloc _) ⟨w4.heap.size, 0, none⟩ 1 1 [.slice a1 (1 + l.length) c1] rfl rfl (lists_news _ _ _ _ rfl) (by simp [Value.oneCell']) (by decide) (by unfold maxLen; omega) (by omega) (by have := HBJ.out.size; have := HB4.out.size; simp; omega) _ rfl ?_
                   intro g' cap' w5 hown5 hgrow5 hat5 hlt5
                   have HO5 := Lib.hid (HO4.out.more (l := (q : Int) :: l) (by rw [show ((q : Int) :: l).length = 1 + l.length by rw [List.length_cons, Nat.add_comm]]; exact HV1.out) hown5 hgrow5)
                   have HB5 := Lib.hid (((HBJ.out.trans (HB4.out.mono HBJ.out.size)).alloc (by have := HBJ.out.size; have := HB4.out.size; omega) _).grown hgrow5 (by have := HBJ.out.size; have := HB4.out.size; simp; omega) (fun k e => (HOJ.out.top.lt k e).1))
                   have HS5 := Lib.hid (show SameIn W1.heap.size w3.heap.size w3 w5 from fun b h1 h2 => by
                     have h3 := HSZ.out
                     have h4 := HB4.out.size
                     have e1 := hgrow5.block b (by simp; omega) (fun e => by have := HBK.out b e.symm; omega)
                     rw [e1, Below.heap_alloc _ _ _ (by omega), HB4.out.block b (by omega)]
                     exact HSA.out b h1 h2)
                   have HK5 := Lib.hid (show ∀ b, (Value.slice (some ⟨g', 0, none⟩) (us'.length + 1) cap').ownBlock = some b → b < W1.heap.size ∨ w3.heap.size ≤ b from fun b e => by
                     have e : g' = b := by simpa [Value.ownBlock] using e
                     subst e
                     rcases hat5 with h | h
                     · exact HBK.out _ h
                     · have h3 := HSZ.out
                       have h4 := HB4.out.size
                       rw [h]; right; simp; omega)
                   have HZ5 := Lib.hid (show w3.heap.size ≤ w5.heap.size from by
                     have h3 := HSZ.out
                     have h4 := HB4.out.size
                     have h5 := hgrow5.size
                     simp at h5; omega)
                   clear hown5 hgrow5 hat5 hlt5))
              go_roundw
              case rel => exact ⟨p + 1, us' ++ [.slice a1 (1 + l.length) c1], by omega, by go_num, by rw [HTK.out, List.map_append, ← List.append_assoc]; exact HO5.out, HB5.out, HS5.out, by simpa using HK5.out, HZ5.out⟩
              case measure => simp [intOf]; omega
            · obtain rfl : p = L.length := by omega
              rw [List.take_length] at HOJ
              clear hown hB hsame hblk hsz
              go_wp2_with fail
              go_roundw
              case rel => exact ⟨q + 1, us', by omega, by go_num, by rw [HLL.out]; exact HOJ.out, HBJ.out⟩
              case measure => simp [intOf]; omega
        · have HLVF := Lib.hid (show lv ls s q = false by rw [HLV.out]; simpa using hfs)
          have hb1 : (f == s) = false := beq_eq_false_iff_ne.2 hfs
          clear hfs
          go_wp2_with fail
          go_roundw
          case rel => exact ⟨q + 1, us, by omega, by go_num, by rw [PO_skip HLVF.out]; first | exact HO1.out | (rw [hW1]; exact HO1.out), by first | exact HB1.out | (rw [hW1]; exact HB1.out)⟩
          case measure => simp [intOf]; omega
      · obtain rfl : q = ls.length := by omega
        rw [HALL.out] at hown
        have HO := Lib.hid hown
        have HB := Lib.hid hB
        obtain ⟨ao, co, rfl, _⟩ := own_slice hown.top
        clear hown hB
        go_wp2
        go_ret
        exact ⟨_, us, rfl, HO.out, HB.out⟩
end Go.Proofs.Ytipcelgoachjjaa
