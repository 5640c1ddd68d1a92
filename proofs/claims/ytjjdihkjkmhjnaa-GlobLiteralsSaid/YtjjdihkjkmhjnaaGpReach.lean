/- reach, firstOfBoth of the program. -/
import Derived.Test.YtjjdihkjkmhjnaaGpMap
import Derived.Maps.Own
namespace Go.Proofs.Ytjjdihkjkmhjnaa
set_option linter.unusedSimpArgs false
set_option linter.unusedVariables false
set_option maxRecDepth 100000
open Go.RowKit Go.Deep Go.Maps

theorem wpList_look_none {w : World} {ops : Array Oper} {rest : List Oper} {o : Oper} {a : Act} {Q : Exit → Act → World → Prop} (hg : o.guard = none) (m x : Operand) (hop : o.op = Op.lookup 99 m x true)
    {b n : Nat} {F : Fn} (h : MapAt w b n F) (hm : a.eval m = .map (some b)) {i j : Nat} (hx : a.eval x = pairV i j) (hi : i ≤ 64) (hj : j ≤ 64) (hF : F i j = none)
    (hK : ∀ s : ByteArray, wpList Try.prog ops Q rest (a.put o.dst (.tuple #[.string s, .bool false])) w) : wpList Try.prog ops Q (o :: rest) a w :=
  wpList_look hg m x hop h hm hx hi hj fun s _ => by
    have := hK s
    rw [hF]; exact this
theorem wpList_look_some {w : World} {ops : Array Oper} {rest : List Oper} {o : Oper} {a : Act} {Q : Exit → Act → World → Prop} (hg : o.guard = none) (m x : Operand) (hop : o.op = Op.lookup 99 m x true)
    {b n : Nat} {F : Fn} (h : MapAt w b n F) (hm : a.eval m = .map (some b)) {i j : Nat} (hx : a.eval x = pairV i j) (hi : i ≤ 64) (hj : j ≤ 64) {k : ByteArray} (hF : F i j = some k)
    (hK : k.size ≤ maxLen → wpList Try.prog ops Q rest (a.put o.dst (.tuple #[.string k, .bool true])) w) : wpList Try.prog ops Q (o :: rest) a w :=
  wpList_look hg m x hop h hm hx hi hj fun s hs => by
    obtain ⟨rfl, h2⟩ := hs k hF
    rw [hF]; exact hK h2
theorem lessL : ∀ a b : List UInt8, Op.bytesLess a b = ltL a b
  | [], [] => rfl
  | [], _ :: _ => rfl
  | _ :: _, [] => rfl
  | a :: x, b :: y => by
    rw [Op.bytesLess, ltL, lessL x y]
    rfl
theorem noteF_none {F : Fn} {i j : Nat} {s : ByteArray} (h : F i j = none) : ∀ a b, setF F i j s a b = noteF F i j s a b := fun a b => by
  unfold setF noteF
  rw [h]; rfl
theorem noteF_less {F : Fn} {i j : Nat} {s k : ByteArray} (h : F i j = some k) (hl : ltL s.data.toList k.data.toList = true) : ∀ a b, setF F i j s a b = noteF F i j s a b := fun a b => by
  unfold setF noteF
  rw [h, note, if_pos hl]
theorem noteF_more {F : Fn} {i j : Nat} {s k : ByteArray} (h : F i j = some k) (hl : ltL s.data.toList k.data.toList = false) : ∀ a b, F a b = noteF F i j s a b := fun a b => by
  unfold noteF
  by_cases e : a = i ∧ b = j
  · obtain ⟨rfl, rfl⟩ := e
    rw [if_pos ⟨rfl, rfl⟩, h, note, if_neg (by rw [hl]; decide)]
  · rw [if_neg e]
def ReachPost (mb n : Nat) (F : Fn) (w : World) (e : Ending) (w' : World) : Prop := e = .returned (.tuple #[]) ∧ MapAt w' mb (n + 1) F ∧ w.grownBy w' (some mb)
set_option maxHeartbeats 1000000 in
theorem reach_at (mb n i j : Nat) (F : Fn) (s : ByteArray) (w : World) (hm : MapAt w mb n F) (hn : n < maxLen) (hi : i ≤ 64) (hj : j ≤ 64) (hs : s.size ≤ maxLen) :
    Calls Try.prog 78 #[.map (some mb), pairV i j, .string s] w (ReachPost mb n (noteF F i j s) w) := by
  have hlt := hm.lt
  have HM := Lib.hid (hm.kept (World.grownBy_alloc w (.cells #[intV i, intV j] 97) none) (by simp))
  have HGA := Lib.hid (World.grownBy_alloc w (.cells #[intV i, intV j] 97) (some mb))
  have HN := Lib.hid (And.intro hn hs)
  clear hm hn hs
  cases hF : F i j with
  | none =>
    have HF := Lib.hid hF
    clear hF
    go_enter Try.func78, Try.ntmps78
    go_wp2_with (first
      | (refine wpList_look_none rfl (.tmp 9) (.tmp 10) rfl HM.out rfl (i := i) (j := j) rfl hi hj HF.out ?_; intro k)
      | (refine wpList_set rfl (.tmp 21) (.tmp 22) (.tmp 23) (Or.inl rfl) HM.out HN.out.1 rfl (i := i) (j := j) rfl hi hj rfl HN.out.2 ?_; intro w3 h3 g3; have H3 := Lib.hid (And.intro (h3.congr (noteF_none HF.out)) (HGA.out.trans g3)); clear h3 g3))
    go_end0
    exact ⟨rfl, H3.out.1, H3.out.2⟩
  | some k =>
    have HF := Lib.hid hF
    clear hF
    obtain ⟨r, hr⟩ : ∃ r, ltL s.data.toList k.data.toList = r := ⟨_, rfl⟩
    have hq : Op.bytesLess s.toList k.toList = r := by rw [lessL, ByteArray.toList_eq, ByteArray.toList_eq, hr]
    have HR := Lib.hid hr
    clear hr
    cases r with
    | true =>
      go_enter Try.func78, Try.ntmps78
      go_wp2_with (first
        | (refine wpList_look_some rfl (.tmp 9) (.tmp 10) rfl HM.out rfl (i := i) (j := j) rfl hi hj HF.out ?_; intro _)
        | (refine wpList_set rfl (.tmp 21) (.tmp 22) (.tmp 23) (Or.inl rfl) HM.out HN.out.1 rfl (i := i) (j := j) rfl hi hj rfl HN.out.2 ?_; intro w3 h3 g3; have H3 := Lib.hid (And.intro (h3.congr (noteF_less HF.out HR.out)) (HGA.out.trans g3)); clear h3 g3))
      go_end0
      exact ⟨rfl, H3.out.1, H3.out.2⟩
    | false =>
      go_enter Try.func78, Try.ntmps78
      go_wp2_with (refine wpList_look_some rfl (.tmp 9) (.tmp 10) rfl HM.out rfl (i := i) (j := j) rfl hi hj HF.out ?_; intro _)
      go_end0
      exact ⟨rfl, (HM.out.congr (noteF_more HF.out HR.out)).mono (Nat.le_succ _), HGA.out⟩
theorem isOf_nat (k : Nat) (hk : k < 256) (b : Bool) (hb : chW (UInt8.ofNat k) = b) (w : World) :
    Calls Try.prog 81 #[.int .u8 k] w fun e w' => e = .returned (.bool b) ∧ w = w' := by
  have := isOf_at (UInt8.ofNat k) b hb w
  rwa [UInt8.toNat_ofNat_of_lt' (by simpa using hk)] at this
def FobPost (r : Option Nat) (w : World) (e : Ending) (w' : World) : Prop := e = .returned (match r with | some c => .tuple #[.int .u8 c, .bool true] | none => .tuple #[.int .u8 0, .bool false]) ∧ w = w'
set_option maxHeartbeats 2000000 in
theorem fob_at (l m : List El) (i j b1 o1 b2 o2 : Nat) (hi : i < l.length) (hj : j < m.length) (w : World) (h1 : w.rangeAt b1 o1 (elL l[i])) (h2 : w.rangeAt b2 o2 (elL m[j])) (r : Option Nat) (hr : fb l m i j = r) :
    Calls Try.prog 79 #[.pointer (some ⟨b1, o1, none⟩), .pointer (some ⟨b2, o2, none⟩)] w (FobPost r w) := by
  have H1 := Lib.hid (show ∀ k, k < 256 → w.cell? ⟨b1, o1 + 1 + k, none⟩ = some (.bool (fitAt l i (UInt8.ofNat k))) from fun k hk => by
    rw [fitAt_get hi, Nat.add_assoc]; exact h1 (1 + k) _ (by rw [elL, cellL_byte _ _ _ hk]))
  have H2 := Lib.hid (show ∀ k, k < 256 → w.cell? ⟨b2, o2 + 1 + k, none⟩ = some (.bool (fitAt m j (UInt8.ofNat k))) from fun k hk => by
    rw [fitAt_get hj, Nat.add_assoc]; exact h2 (1 + k) _ (by rw [elL, cellL_byte _ _ _ hk]))
  have HR := Lib.hid hr
  clear h1 h2 hr
  go_enter Try.func79, Try.ntmps79
  go_wp2_with fail
  go_loopw [7] (fun v7 wr => ∃ k : Nat, k ≤ 256 ∧ v7 = .int .i64 k ∧ Hid (fbN l m i j k = none) ∧ w = wr) (fun v7 _ => 256 - (intOf v7).toNat)
  case atStart => exact ⟨0, by omega, rfl, Lib.hid rfl, by trivial⟩
  case round =>
    obtain ⟨k, hk, rfl, HN, rfl⟩ := hrel
    by_cases hlt : k < 256
    · obtain ⟨f1, hf1⟩ : ∃ f, fitAt l i (UInt8.ofNat k) = f := ⟨_, rfl⟩
      obtain ⟨f2, hf2⟩ : ∃ f, fitAt m j (UInt8.ofNat k) = f := ⟨_, rfl⟩
      obtain ⟨f3, hf3⟩ : ∃ f, chW (UInt8.ofNat k) = f := ⟨_, rfl⟩
      have c1 := H1.out k hlt
      have c2 := H2.out k hlt
      rw [hf1] at c1
      rw [hf2] at c2
      have HO := Lib.hid (isOf_nat k hlt f3 hf3 w)
      have hs : fbN l m i j (k + 1) = if f1 && (f2 && f3) then some k else none := by rw [fbN, HN.out, hf1, hf2, hf3]
      have HS := Lib.hid hs
      have hk0 : (k : Int) < 256 := by omega
      have hk1 : (0 : Int) ≤ k := by omega
      clear hf1 hf2 hf3 hs
      cases f1 with
      | false =>
        go_wp2_with fail
        refine ⟨⟨k + 1, by omega, by go_num, Lib.hid HS.out, by trivial⟩, by simp [intOf]; omega⟩
      | true =>
        cases f2 with
        | false =>
          go_wp2_with fail
          refine ⟨⟨k + 1, by omega, by go_num, Lib.hid HS.out, by trivial⟩, by simp [intOf]; omega⟩
        | true =>
          cases f3 with
          | false =>
            go_wp2_with fail
            refine HO.out.mono ?_
            rintro e w2 ⟨rfl, rfl⟩
            go_wp2_with fail
            refine ⟨⟨k + 1, by omega, by go_num, Lib.hid HS.out, by trivial⟩, by simp [intOf]; omega⟩
          | true =>
            have hres : r = some k := by
              rw [← HR.out]
              have hm : ∀ q, k + 1 ≤ q → fbN l m i j q = some k := fun q hq => by
                induction q with
                | zero => omega
                | succ q ih =>
                  rcases Nat.lt_or_ge k q with g | g
                  · rw [fbN, ih g]
                  · obtain rfl : q = k := by omega
                    exact HS.out
              exact hm 256 (by omega)
            subst hres
            go_wp2_with fail
            refine HO.out.mono ?_
            rintro e w2 ⟨rfl, rfl⟩
            go_wp2_with fail
            refine bodyPost_ret (v := .tuple #[.int .u8 k, .bool true]) (by simp [results, Try.results79, go_sem]) rfl ⟨rfl, by trivial⟩
    · obtain rfl : k = 256 := by omega
      obtain rfl : r = none := by rw [← HR.out]; exact HN.out
      have hk0 : ¬ ((256 : Nat) : Int) < 256 := by omega
      go_wp2_with fail
      refine bodyPost_ret (v := .tuple #[.int .u8 0, .bool false]) (by simp [results, Try.results79, go_sem]) rfl ⟨rfl, by trivial⟩
end Go.Proofs.Ytjjdihkjkmhjnaa
