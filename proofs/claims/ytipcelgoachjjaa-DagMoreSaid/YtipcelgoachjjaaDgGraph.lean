/- The program's graphOf: the indices of the links that leave a node. -/
import Derived.Deep.RegionLaw
import Derived.Deep.OwnRows
import Derived.Deep.AppendLies
import Derived.Test.YtipcelgoachjjaaDgNode
namespace Go.Proofs.Ytipcelgoachjjaa
set_option linter.unusedSimpArgs false
set_option linter.unusedVariables false
set_option maxRecDepth 100000
open Go.RowKit Go.Deep

theorem info_ints : (Try.prog.info? 23).map (fun i => (i.zero, i.size, i.bytes)) = some (some (.slice none 0 0), 1, 24) := by kernel_rfl
abbrev mapN (l : List Nat) : List Value := l.map fun x : Nat => intV x
def upN (U : Nat → Value) (s : Nat) (v : Value) : Nat → Value := fun j => if j = s then v else U j
/-- the rows behind k links -/
structure Gm (w W : World) (n k : Nat) (ls : List LkV) (g : Nat) (U : Nat → Value) : Prop where
  top : W.rowIs g 23 n U
  own : ∀ s, s < n → W.ownsRow (g + 1) 3 1 (U s) (selN k (lv ls s)).length (mapN (selN k (lv ls s)))
  apart : ∀ s s', s < n → s' < n → s ≠ s' → ∀ b, (U s).ownBlock = some b → (U s').ownBlock ≠ some b
  below : Below w.heap.size w W
  ge : w.heap.size ≤ g
theorem Gm.drew {w W : World} {n k g : Nat} {ls : List LkV} {U : Nat → Value} (h : Gm w W n k ls g U) : Gm w W.drew n k ls g U := ⟨h.top.drew, fun s hs => (h.own s hs).drew, h.apart, h.below.trans ⟨rfl, rfl, rfl, Nat.le_refl _, fun _ _ => rfl⟩, h.ge⟩
theorem Gm.alloc {w W : World} {n k g : Nat} {ls : List LkV} {U : Nat → Value} (h : Gm w W n k ls g U) (o : Obj) : Gm w (W.alloc o) n k ls g U := ⟨h.top.alloc o, fun s hs => (h.own s hs).alloc o, h.apart, h.below.alloc h.below.size o, h.ge⟩
theorem Gm.start {w W : World} (n : Nat) (ls : List LkV) (hB : Below w.heap.size w W) : Gm w (W.alloc (.cells (madeCells #[.slice none 0 0] n) 23)) n 0 ls W.heap.size (fun _ => .slice none 0 0) :=
  ⟨World.rowIs_made _ _ _ _, fun s _ => by simpa [selN] using World.ownsRow_nil _ _ _ _, fun s s' _ _ _ b h => by simp [Value.ownBlock] at h, hB.alloc hB.size _, hB.size⟩
theorem Gm.not_top {w W : World} {n k g : Nat} {ls : List LkV} {U : Nat → Value} (h : Gm w W n k ls g U) {s : Nat} (hs : s < n) : some g ≠ (U s).ownBlock := fun e => by have := ((h.own s hs).lt g e.symm).1; omega
/-- behind the append, ahead of the store -/
theorem Gm.top1 {w W W1 : World} {n k g : Nat} {ls : List LkV} {U : Nat → Value} (h : Gm w W n k ls g U) {s : Nat} (hs : s < n) (hg : W.grownBy W1 (U s).ownBlock) : W1.rowIs g 23 n U :=
  h.top.of_block (hg.block g h.top.lt (h.not_top hs))
theorem Gm.put {w W W1 : World} {n k g : Nat} {ls : List LkV} {U : Nat → Value} (h : Gm w W n k ls g U) {s : Nat} (hs : s < n) (hf : (lk ls k).f = s) {g' cap m : Nat} {xs : List Value} (hm : m = (selN k (lv ls s)).length) (hxs : xs = mapN (selN k (lv ls s)))
    (hown : W1.ownsRow (g + 1) 3 1 (.slice (some ⟨g', 0, none⟩) (m + 1) cap) (m + 1) (xs ++ [intV k])) (hg : W.grownBy W1 (U s).ownBlock) (hat : (U s).ownBlock = some g' ∨ g' = W.heap.size) :
    Gm w (W1.setCell ⟨g, s, none⟩ (.slice (some ⟨g', 0, none⟩) (m + 1) cap)) n (k + 1) ls g (upN U s (.slice (some ⟨g', 0, none⟩) (m + 1) cap)) := by
  subst hm hxs
  have hfs : lv ls s k = true := by rw [lv, decide_eq_true_eq, hf]
  refine ⟨(h.top1 hs hg).set s _, fun j hj => ?_, fun a b ha hb hab c h1 h2 => ?_, (h.below.grown hg h.below.size fun r e => ?_).setCell h.ge _, h.ge⟩
  · refine ownsRow_setCell_below ?_ (Nat.lt_succ_self _) _
    unfold upN
    by_cases e : j = s
    · subst e
      rw [if_pos rfl, selN_succ, if_pos hfs]
      simpa [mapN] using hown
    · rw [if_neg e, selN_succ, if_neg (by rw [lv, decide_eq_true_eq, hf]; omega)]
      refine (h.own j hj).kept hg ?_
      rcases hq : (U j).ownBlock with _ | q
      · exact .inl rfl
      · exact .inr fun e' => h.apart j s hj hs e q hq e'.symm
  · unfold upN at h1 h2
    by_cases e1 : a = s
    · subst e1
      rw [if_pos rfl] at h1
      rw [if_neg (fun e => hab e.symm)] at h2
      have h1 : g' = c := by simpa [Value.ownBlock] using h1
      subst h1
      rcases hat with h3 | h3
      · exact h.apart b a hb hs (fun e => hab e.symm) g' h2 h3
      · have := ((h.own b hb).lt g' h2).2; omega
    · rw [if_neg e1] at h1
      by_cases e2 : b = s
      · subst e2
        rw [if_pos rfl] at h2
        have h2 : g' = c := by simpa [Value.ownBlock] using h2
        subst h2
        rcases hat with h3 | h3
        · exact h.apart a b ha hs hab g' h1 h3
        · have := ((h.own a ha).lt g' h1).2; omega
      · rw [if_neg e2] at h2
        exact h.apart a b ha hb hab c h1 h2
  · have := ((h.own s hs).lt r e).1
    have := h.ge
    omega
theorem Gm.res {w W : World} {n k g b i : Nat} {ls : List LkV} {U : Nat → Value} (h : Gm w W n k ls g U) (hb : w.heap.size ≤ b) (hg : b < g) (u : Value) : Gm w (W.setCell ⟨b, i, none⟩ u) n k ls g U :=
  ⟨h.top.setOther (by show g ≠ b; omega) u, fun s hs => ownsRow_setCell_below (h.own s hs) (by show b < g + 1; omega) u, h.apart, h.below.setCell hb u, h.ge⟩
/-- the lists of the indices -/
def outs (n : Nat) (ls : List LkV) : List (List Int) := (List.range n).map fun s : Nat => (out ls s).map fun i : Nat => (i : Int)
theorem outs_len (n : Nat) (ls : List LkV) : (outs n ls).length = n := by simp [outs]
theorem outs_get (n : Nat) (ls : List LkV) {s : Nat} (h : s < (outs n ls).length) : (outs n ls)[s] = (out ls s).map fun i : Nat => (i : Int) := by simp [outs]
theorem Gm.lists {w W : World} {n g : Nat} {ls : List LkV} {U : Nat → Value} (h : Gm w W n ls.length ls g U) : ListsAt W (.slice (some ⟨g, 0, none⟩) n n) (outs n ls) := by
  refine ⟨_, n, by rw [outs_len], fun _ => ⟨g, 0, rfl, h.top.lt, fun j hj => ⟨U j, ?_, ?_⟩⟩⟩
  · rw [outs_len] at hj
    rw [Nat.zero_add]; exact h.top.cell hj
  · have hj' : j < n := by rw [outs_len] at hj; exact hj
    rw [outs_get]
    refine IntsAt.of_own (n := (out ls j).length) (e := 3) (base := g + 1) ?_
    rw [List.map_map]
    exact h.own j hj'
theorem below_drew1 (N : Nat) (w : World) : Below N w w.drew := ⟨rfl, rfl, rfl, Nat.le_refl _, fun _ _ => rfl⟩
theorem int_news {W : World} {B : Nat} {x : Value} {t : TypeId} (h : W.heap[B]? = some (.cells #[x] t (0, 0))) : ∀ j u, [x][j]? = some u → W.cell? ((⟨B, 0, none⟩ : Addr).add j) = some u :=
  fun j u hu => World.news_of_block (cs := #[x]) h j u hu
def NilRes (W : World) (b : Nat) (t : TypeId) : Prop := W.rowIs b t 2 (fun _ => .slice none 0 0)

theorem nilRes_put {W W1 : World} {b g s : Nat} {t : TypeId} {u : Value} {row : Option Nat} (h : NilRes W b t) {o : Obj} (hg : (W.drew.alloc o).grownBy W1 row) (hr : ∀ k, row = some k → b < k) (hb : b ≠ g) : NilRes (W1.setCell ⟨g, s, none⟩ u) b t := by
  have h2 : NilRes (W.drew.alloc o) b t := World.rowIs.alloc (World.rowIs.drew h) o
  refine World.rowIs.setOther (World.rowIs.of_block h2 (hg.block b (World.rowIs.lt h2) fun e => ?_)) (by exact hb) u
  have := hr b e.symm
  omega

set_option maxHeartbeats 4000000 in
theorem graphOf_any (n : Nat) (ls : List LkV) (hg : Gr n ls) (v : Value) (w : World) (hv : LinksAt w v ls) :
    Calls Try.prog 40 #[intV n, v] w fun e w' => ∃ u, e = .returned (.agg #[v, u]) ∧ ListsAt w' u (outs n ls) ∧ Below w.heap.size w w' := by
  obtain ⟨i0, hi, hz0, hz1, hz2⟩ := info_parts info_int
  have hn := hg.n2
  have hl := hg.len
  have HG := Lib.hid hg
  have HV := Lib.hid hv
  obtain ⟨a, cap, rfl⟩ := hv.slice
  have hmk := run_make_row' (P := Try.prog) 40 23 (.slice none 0 0) 24 rfl info_ints rfl
  clear hv hg
  have hmk1 := fun W => hmk .i64 .i64 n (by omega) (by omega) W
  clear hmk
  go_enter Try.func40, Try.ntmps40
  go_wp2
  go_loopw [12, 6, 7] (fun i j p wr => ∃ k : Nat, k ≤ ls.length ∧ i = .int .i64 k ∧ NilRes wr w.heap.size 57 ∧ ∃ U, Gm w wr n k ls (w.heap.size + 1) U) (fun i _ _ _ => ls.length - (intOf i).toNat)
  case atStart => exact ⟨0, Nat.zero_le _, rfl, World.rowIs.alloc (World.rowIs_alloc w #[.slice none 0 0, .slice none 0 0] _ _ (fun i hi => by rcases (show i = 0 ∨ i = 1 by simp at hi; omega) with rfl | rfl <;> rfl)) _, _, by have := Gm.start n ls ((Below.refl w.heap.size w).alloc (Nat.le_refl _) (.cells #[.slice none 0 0, .slice none 0 0] 57)); simpa using this⟩
  case round =>
    obtain ⟨k, hk, rfl, hres, U, hU⟩ := hrel
    obtain ⟨wk, rfl⟩ : ∃ x, x = wr := ⟨_, rfl⟩
    by_cases hlt : k < ls.length
    · obtain ⟨b, off, rfl, hbb, q1, q2, q3⟩ := HV.out.elem hlt
      have hok := HG.out.lk hlt
      obtain ⟨s, hs⟩ : ∃ s : Nat, (lk ls k).f = s := ⟨(lk ls k).f.toNat, by have := hok.f0; omega⟩
      have hsn : s < n := by have := hok.lt; have := hok.t1; omega
      have c1 := (hU.below.cell (p := ⟨b, off + k * 3, none⟩) hbb).trans q1
      have c2 := (hU.below.cell (p := ⟨b, off + k * 3 + 1, none⟩) hbb).trans q2
      have c3 := (hU.below.cell (p := ⟨b, off + k * 3 + 2, none⟩) hbb).trans q3
      rw [hs] at c1
      have HK := Lib.hid hs
      obtain ⟨t, ht⟩ : ∃ t, (lk ls k).t = t := ⟨_, rfl⟩
      obtain ⟨c, hc⟩ : ∃ c, (lk ls k).c = c := ⟨_, rfl⟩
      rw [ht] at c2
      rw [hc] at c3
      obtain ⟨W1, hW1⟩ : ∃ W1, wk.alloc (.cells #[intV s, intV t, intV c] 52) = W1 := ⟨_, rfl⟩
      have HU1 := Lib.hid (show Gm w W1 n k ls (w.heap.size + 1) U by rw [← hW1]; exact hU.alloc _)
      have hsz : W1.heap.size = wk.heap.size + 1 := by rw [← hW1]; simp
      have hcs : W1.cell? ⟨wk.heap.size, 0, none⟩ = some (intV s) := by rw [← hW1, World.cell?_alloc_new]; rfl
      have hct := HU1.out.top.cell hsn
      have hlt1 := HU1.out.top.lt
      have HS := Lib.hid (show ∀ W', Below W1.heap.size W1 W' → W'.cell? ⟨wk.heap.size, 0, none⟩ = some (intV s) ∧ W'.cell? ⟨w.heap.size + 1, s, none⟩ = some (U s) from fun W' hB => ⟨(hB.cell (p := ⟨wk.heap.size, 0, none⟩) (by simp [hsz])).trans hcs, (hB.cell (p := ⟨w.heap.size + 1, s, none⟩) hlt1).trans hct⟩)
      have HNF := Lib.hid (show ∀ (X : World) (w1 : World), (W1.drew.alloc (.cells #[intV k] 3)).grownBy w1 (U s).ownBlock → w1.cell? ⟨wk.heap.size, 0, none⟩ = some (intV s) from fun X w1 hg => by
        refine hg.cell (((below_drew1 W1.heap.size W1).alloc (Nat.le_refl _) _).cell (p := ⟨wk.heap.size, 0, none⟩) (by simp [hsz]) |>.trans hcs) fun e => ?_
        have := ((hU.own s hsn).lt wk.heap.size e.symm).2
        omega)
      have HNEW := Lib.hid (show ∀ W' : World, W'.heap.size = W1.heap.size → ∀ (j : Nat) (u : Value), [intV k][j]? = some u → (W'.alloc (.cells #[intV k] 3)).cell? ((⟨wk.heap.size + 1, 0, none⟩ : Addr).add j) = some u from fun W' e => by rw [← hsz, ← e]; exact int_news (Deep.blk_alloc_new _ _))
      have HRES := Lib.hid (show NilRes W1 w.heap.size 57 by rw [← hW1]; exact World.rowIs.alloc hres _)
      clear hct hcs q1 q2 q3 hok hres hs ht hc hU
      go_wp2_with fail
      clear hW1
      have hct := (HS.out W1 (Below.refl _ _)).2
      have hcs := (HS.out W1 (Below.refl _ _)).1
      have hct2 := (HS.out (W1.alloc (.cells #[intV k] 3)) ((Below.refl _ _).alloc (Nat.le_refl _) _)).2
      have hcs2 := (HS.out (W1.alloc (.cells #[intV k] 3)) ((Below.refl _ _).alloc (Nat.le_refl _) _)).1
      go_region_law
        (refine step_append_lies _ rfl _ _ 23 rfl (w.heap.size + 2) 3 i0 (.int .i64 0) 1 8 Try.underlying23 hi hz0 hz1 hz2 rfl (by decide) _ _ _ rfl ((HU1.out.drew.alloc _).own s hsn) ⟨wk.heap.size + 1, 0, none⟩ 1 1 [intV k] rfl rfl (HNEW.out W1.drew rfl) (by simp [Value.oneCell']) (by decide) (by have := selN_len k (lv ls s); unfold maxLen; omega) (by have := selN_len k (lv ls s); omega) (by have := HU1.out.drew.below.size; simp; omega) _ rfl ?_; intro g' cap' w1 hown hgrow hat hltg; have HT1 := Lib.hid ((HU1.out.drew.alloc _).top1 hsn hgrow); have hc1 := HT1.out.cell hsn; have hfz := HT1.out.frozen s; have hcw := HNF.out w w1 hgrow)
      all_goals
        clear hct hcs hct2 hcs2 hc1 hfz hcw
        have HN := Lib.hid ((HU1.out.drew.alloc _).put hsn HK.out rfl rfl hown hgrow hat)
        have HR2 := Lib.hid (nilRes_put HRES.out hgrow (fun r e => by have := (((HU1.out.drew.alloc (.cells #[intV k] 3)).own s hsn).lt r e).1; omega) (g := w.heap.size + 1) (s := s) (u := .slice (some ⟨g', 0, none⟩) ((selN k (lv ls s)).length + 1) cap') (by omega))
        obtain ⟨W2, hW2⟩ : ∃ W2, w1.setCell ⟨w.heap.size + 1, s, none⟩ (.slice (some ⟨g', 0, none⟩) ((selN k (lv ls s)).length + 1) cap') = W2 := ⟨_, rfl⟩
        rw [hW2] at HN HR2 ⊢
        clear HRES hgrow hown hat hltg HT1 HU1 HNEW HNF HS hW2
        go_wp2
        go_roundw
        case rel => exact ⟨k + 1, by omega, by go_num, HR2.out, _, HN.out⟩
        case measure => simp [intOf]; omega
    · obtain rfl : k = ls.length := by omega
      have HU := Lib.hid ((hU.res (b := w.heap.size) (i := 0) (Nat.le_refl _) (Nat.lt_succ_self _) (.slice a ls.length cap)).res (b := w.heap.size) (i := 1) (Nat.le_refl _) (Nat.lt_succ_self _) (.slice (some ⟨w.heap.size + 1, 0, none⟩) n n))
      have HR := Lib.hid ((hres.set 0 (.slice a ls.length cap)).set 1 (.slice (some ⟨w.heap.size + 1, 0, none⟩) n n))
      have hr0 := World.rowIs.cell hres (i := 0) (by omega)
      have hr1 := World.rowIs.cell hres (i := 1) (by omega)
      have hf0 := World.rowIs.frozen hres 0
      have hf1 := World.rowIs.frozen hres 1
      clear hU hres
      go_wp2
      have e0 := HR.out.cell (i := 0) (by omega)
      have e1 := HR.out.cell (i := 1) (by omega)
      exact bodyPost_ret (v := .agg #[.slice a ls.length cap, .slice (some ⟨w.heap.size + 1, 0, none⟩) n n]) (by simp [results, Try.results40, go_sem, e0, e1]) rfl ⟨_, rfl, HU.out.lists, HU.out.below⟩
end Go.Proofs.Ytipcelgoachjjaa
