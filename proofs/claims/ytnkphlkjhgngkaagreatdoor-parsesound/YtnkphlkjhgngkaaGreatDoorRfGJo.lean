/- The document's is: what its tests come to. -/
import Derived.Test.YtnkphlkjhgngkaaGreatDoorRfDJo
namespace Go.Proofs.YtnkphlkjhgngkaaGreatDoor
open Go.RowKit
attribute [local go_sem ↓] Go.wp_at_zero Go.wp_at_succ

theorem kidsP_true (r : Tr → Int → Bool) (rest : Int) : ∀ (xs : List Int) (ts : List Tr), (∀ (j : Nat) a, ts[j]? = some a → r a ((xs[j]?).getD rest) = true) → kidsP r xs rest ts = true
  | xs, [], _ => by cases xs <;> rfl
  | [], t :: ts, h => by
    simp only [kidsP, Bool.and_eq_true]
    exact ⟨h 0 t rfl, kidsP_true r rest [] ts fun j a hj => by have := h (j + 1) a hj; simpa using this⟩
  | x :: xs, t :: ts, h => by
    simp only [kidsP, Bool.and_eq_true]
    exact ⟨h 0 t rfl, kidsP_true r rest xs ts fun j a hj => by have := h (j + 1) a hj; simpa using this⟩
theorem kidsP_false (r : Tr → Int → Bool) (rest : Int) : ∀ (xs : List Int) (ts : List Tr) (j : Nat) (a : Tr), ts[j]? = some a → r a ((xs[j]?).getD rest) = false → kidsP r xs rest ts = false
  | _, [], j, a, h, _ => by simp at h
  | [], t :: ts, 0, a, h, h2 => by simp at h h2; subst h; simp [kidsP, h2]
  | x :: xs, t :: ts, 0, a, h, h2 => by simp at h h2; subst h; simp [kidsP, h2]
  | [], t :: ts, j + 1, a, h, h2 => by simp only [kidsP, kidsP_false r rest [] ts j a (by simpa using h) (by simpa using h2), Bool.and_false]
  | x :: xs, t :: ts, j + 1, a, h, h2 => by simp only [kidsP, kidsP_false r rest xs ts j a (by simpa using h) (by simpa using h2), Bool.and_false]
/-- What the tests ahead of the kids come to. -/
theorem chk_len {r : Tr → Int → Bool} {xs : List Int} {rest tx : Int} {k : Int} {x : List UInt8} {m : Int} {ks : List Tr} (h : ks.length < xs.length) : chk r (xs, rest, tx, true) (.mk k x m ks) = false := by
  show (true && (decide (xs.length ≤ ks.length) && _)) = false
  rw [decide_eq_false (show ¬ xs.length ≤ ks.length by omega)]; rfl
theorem chk_more {r : Tr → Int → Bool} {xs : List Int} {tx : Int} {k : Int} {x : List UInt8} {m : Int} {ks : List Tr} (h : xs.length < ks.length) : chk r (xs, 0, tx, true) (.mk k x m ks) = false := by
  show (true && (decide (xs.length ≤ ks.length) && ((((0 : Int) != 0) || decide (ks.length ≤ xs.length)) && _))) = false
  rw [decide_eq_false (show ¬ ks.length ≤ xs.length by omega), show (((0 : Int) != 0) || false) = false from rfl, Bool.false_and, Bool.and_false]; rfl
theorem chk_num {r : Tr → Int → Bool} {xs : List Int} {rest tx : Int} {k : Int} {x : List UInt8} {m : Int} {ks : List Tr} (h : m ≠ 0) (h2 : numK k = false) : chk r (xs, rest, tx, true) (.mk k x m ks) = false := by
  simp only [chk, Tr.num, Tr.kind, h2, show (m == 0) = false from beq_false_of_ne h, Bool.or_false, Bool.false_and, Bool.and_false]
theorem chk_go {r : Tr → Int → Bool} {xs : List Int} {rest tx : Int} {k : Int} {x : List UInt8} {m : Int} {ks : List Tr} (h1 : xs.length ≤ ks.length) (h2 : rest ≠ 0 ∨ ks.length ≤ xs.length) (h3 : m = 0 ∨ numK k = true) :
    chk r (xs, rest, tx, true) (.mk k x m ks) = ((tx != 0 || x == []) && ((tx != 1 || nameP x) && kidsP r xs rest ks)) := by
  have e2 : (rest != 0 || decide (ks.length ≤ xs.length)) = true := by
    rcases h2 with h | h
    · simp [h]
    · simp [h]
  have e3 : (m == 0 || numK k) = true := by
    rcases h3 with h | h
    · simp [h]
    · simp [h]
  show (true && (decide (xs.length ≤ ks.length) && ((rest != 0 || decide (ks.length ≤ xs.length)) && ((m == 0 || numK k) && ((tx != 0 || x == []) && ((tx != 1 || nameP x) && kidsP r xs rest ks)))))) = _
  rw [decide_eq_true h1, e2, e3]; rfl
theorem Srt.keep {B : Nat} {w w' : World} {xs : List Int} {sl : Value} (h : Srt B w xs sl) (hb : Below w.heap.size w w') : Srt B w' xs sl := by
  obtain ⟨ao, c, h1, h2⟩ := h
  refine ⟨ao, c, h1, fun j x hj => ?_⟩
  obtain ⟨g, o, e1, e2, e3⟩ := h2 j x hj
  exact ⟨g, o, e1, e2, (hb.cell (p := ⟨g, o + j, none⟩) (lt_of_cell e3)).trans e3⟩
end Go.Proofs.YtnkphlkjhgngkaaGreatDoor

namespace Go.Proofs.YtnkphlkjhgngkaaGreatDoor
open Go.RowKit
attribute [local go_sem ↓] Go.wp_at_zero Go.wp_at_succ

set_option maxRecDepth 20000 in
set_option maxHeartbeats 8000000 in
theorem is_000 (n : Nat) (HI : Hid (∀ (k : Int) (x : List UInt8) (m : Int) (ks : List Tr) (ao : Option Addr) (c : Nat) (s : Int) (S : Nat → Prop) (w : World), Fit n (.mk k x m ks) → (∀ b, S b → b < w.heap.size) → KT w S (.mk k x m ks) (.slice ao ks.length c) →
    Calls Tryz.prog 28 #[.agg #[.int .i64 k, .string ⟨x.toArray⟩, .int .i64 m, .slice ao ks.length c], .int .i64 s] w fun e w' => e = .returned (.bool (isP n (.mk k x m ks) s)) ∧ Below w.heap.size w w'))
    (k : Int) (x : List UInt8) (m : Int) (ks : List Tr) (ao : Option Addr) (c : Nat) (s : Int) (S : Nat → Prop) (w : World) (hF1 : ks.length ≤ 20000) (_hxm : (⟨x.toArray⟩ : ByteArray).size ≤ maxLen) (hF3 : ∀ t ∈ ks, Fit n t) (hS : ∀ b, S b → b < w.heap.size) (hL : Lst w S ks (.slice ao ks.length c))
    (xs : List Int) (rest tx : Int) (hr : rest = 0) (h1 : xs.length = ks.length) (hm : m = 0) (ht : tx = 0) (hx : x = []) (HR : Hid (isP (n + 1) (.mk k x m ks) s = kidsP (isP n) xs rest ks))
    (cSh : ∀ W, Below w.heap.size w W → Calls Tryz.prog 48 #[.agg #[.int .i64 k, .string ⟨x.toArray⟩, .int .i64 m, .slice ao ks.length c], .int .i64 s] W (OutH W (xs, rest, tx, true))) :
    Calls Tryz.prog 28 #[.agg #[.int .i64 k, .string ⟨x.toArray⟩, .int .i64 m, .slice ao ks.length c], .int .i64 s] w fun e w' => e = .returned (.bool (isP (n + 1) (.mk k x m ks) s)) ∧ Below w.heap.size w w' := by
  have hX0 := Hx.start (w := w) (c0 := .int .i64 k) (c1 := .string ⟨x.toArray⟩) (c2 := .int .i64 m) (c3 := .slice ao ks.length c)
  subst hr
  have d1 : decide ((ks.length : Int) < xs.length) = false := decide_eq_false (by omega)
  have d2 : decide ((xs.length : Int) < ks.length) = false := decide_eq_false (by omega)
  subst hm
  subst ht hx
  go_enter Tryz.func28, Tryz.ntmps28
  go_wp2_with (first
    | (go_at_call 48; refine (cSh _ hX0.out).mono ?_; rintro e w1 ⟨sl1, rfl, hs1, hb1⟩
       have hX1 := hX0.next hb1
       have hx1 := hX1.cells
       obtain ⟨ao1, c1, rfl, hc1⟩ := hs1
       obtain ⟨x0, x1, x2, x3⟩ := hx1)
    | (go_at_call 49; refine (numK_any k _).mono ?_; rintro e w2 ⟨rfl, rfl⟩)
    | (go_at_call 50; refine (nmR_any ⟨([] : List UInt8).toArray⟩ _hxm _).mono ?_; rintro e w3 ⟨rfl, hb3⟩
       have hX3 := hX1.next hb3
       clear x0 x1 x2 x3
       obtain ⟨x0, x1, x2, x3⟩ := hX3.cells))
  go_loopw [9, 10] (fun v9 v10 wr => ∃ j : Nat, j ≤ ks.length ∧ v9 = .int .i64 j ∧ Below w1.heap.size w1 wr ∧ Hid (∀ (i : Nat) a, i < j → ks[i]? = some a → isP n a ((xs[i]?).getD 0) = true)) (fun v9 _ _ => ks.length - (intOf v9).toNat)
  case atStart => exact ⟨0, Nat.zero_le _, rfl, Below.refl _ _, Lib.hid fun i a h => absurd h (Nat.not_lt_zero _)⟩
  case round =>
    obtain ⟨j, hj, rfl, hbr, HP⟩ := hrel
    have hX := hX1.next hbr
    clear x0 x1 x2 x3
    obtain ⟨x0, x1, x2, x3⟩ := hX.cells
    by_cases hlt : j < ks.length
    · obtain ⟨a, ha⟩ : ∃ t, ks[j]? = some t := ⟨_, List.getElem?_eq_getElem hlt⟩
      obtain ⟨g, o, a0, n0, q0, hao, y0, y1, y2, y3, hg, hka⟩ := hL.kid ha hS
      subst hao
      have z0 := (hX.out.cell (p := ⟨g, o + j * 4, none⟩) hg).trans y0
      have z1 := (hX.out.cell (p := ⟨g, o + j * 4 + 1, none⟩) hg).trans y1
      have z2 := (hX.out.cell (p := ⟨g, o + j * 4 + 2, none⟩) hg).trans y2
      have z3 := (hX.out.cell (p := ⟨g, o + j * 4 + 3, none⟩) hg).trans y3
      have hFa := hF3 a (List.mem_of_getElem? ha)
      have HA := Lib.hid ha
      have hka' : KT wr S a (.slice a0 n0 q0) := hka.fr (fun b hb => hX.out.block b (hS b hb)) (fun _ h => h)
      obtain ⟨ak, av, am, aks⟩ := a
      obtain ⟨_, _, e⟩ := (Lst.of hka').slice
      injection e with e4 e5 e7
      clear e4 e7
      subst e5
      have cI := fun s' => HI.out ak av am aks a0 q0 s' S wr hFa (fun b hb => Nat.lt_of_lt_of_le (hS b hb) hX.out.size) hka'
      simp only [Tr.kind, Tr.text, Tr.num] at z0 z1 z2
      clear ha hka hka' hFa y0 y1 y2 y3
      by_cases hjx : j < xs.length
      · obtain ⟨u, hu⟩ : ∃ u, xs[j]? = some u := ⟨_, List.getElem?_eq_getElem hjx⟩
        obtain ⟨g1, o1, hao1, _, hcu⟩ := hc1 j u hu
        have hd : decide ((j : Int) < xs.length) = true := decide_eq_true (by omega)
        have zu : wr.cell? ⟨g1, o1 + j, none⟩ = some (.int .i64 u) := ((hbr.cell (p := ⟨g1, o1 + j, none⟩) (lt_of_cell (hcu))).trans (hcu))
        have HW : Hid ((xs[j]?).getD 0 = u) := Lib.hid (by rw [hu]; rfl)
        clear hu hcu
        subst hao1
        cases hp : isP n (.mk ak av am aks) u with
        | false =>
          have HX : Hid (isP (n + 1) (.mk k [] 0 ks) s = false) := HR.out.trans (kidsP_false _ _ _ _ j _ HA.out (by rw [HW.out]; exact hp))
          have cI' := cI u
          rw [hp] at cI'
          clear hp cI
          go_wp2_with (go_at_call 28; refine cI'.mono ?_; rintro e w4 ⟨rfl, hb4⟩)
          go_ret
          exact ⟨congrArg (fun b => Ending.returned (Value.bool b)) HX.out.symm, (hX.next hb4).out⟩
        | true =>
          have HP2 : Hid (∀ (i : Nat) a, i < j + 1 → ks[i]? = some a → isP n a ((xs[i]?).getD 0) = true) := Lib.hid (fun i a hi hia => by
            rcases Nat.lt_succ_iff_lt_or_eq.1 hi with h | h
            · exact HP.out i a h hia
            · subst h
              rw [HA.out] at hia
              injection hia with e
              subst e
              rw [HW.out]; exact hp)
          have cI' := cI u
          rw [hp] at cI'
          clear hp cI HP HA HW
          go_wp2_with (go_at_call 28; refine cI'.mono ?_; rintro e w4 ⟨rfl, hb4⟩)
          go_roundw
          case rel => exact ⟨j + 1, by omega, by go_num, hbr.trans (hb4.mono hbr.size), HP2⟩
          case measure => simp [intOf]; omega
      · exact absurd (show j < xs.length by omega) hjx
    · have HX : Hid (isP (n + 1) (.mk k [] 0 ks) s = true) := HR.out.trans (kidsP_true _ _ _ _ fun i a ha => HP.out i a (by
        have := (List.getElem?_eq_some_iff.1 ha).1; omega) ha)
      go_wp2
      go_ret
      exact ⟨congrArg (fun b => Ending.returned (Value.bool b)) HX.out.symm, hX.out⟩
set_option maxRecDepth 20000 in
set_option maxHeartbeats 8000000 in
theorem is_001 (n : Nat) (HI : Hid (∀ (k : Int) (x : List UInt8) (m : Int) (ks : List Tr) (ao : Option Addr) (c : Nat) (s : Int) (S : Nat → Prop) (w : World), Fit n (.mk k x m ks) → (∀ b, S b → b < w.heap.size) → KT w S (.mk k x m ks) (.slice ao ks.length c) →
    Calls Tryz.prog 28 #[.agg #[.int .i64 k, .string ⟨x.toArray⟩, .int .i64 m, .slice ao ks.length c], .int .i64 s] w fun e w' => e = .returned (.bool (isP n (.mk k x m ks) s)) ∧ Below w.heap.size w w'))
    (k : Int) (x : List UInt8) (m : Int) (ks : List Tr) (ao : Option Addr) (c : Nat) (s : Int) (S : Nat → Prop) (w : World) (hF1 : ks.length ≤ 20000) (hxm : (⟨x.toArray⟩ : ByteArray).size ≤ maxLen) (hF3 : ∀ t ∈ ks, Fit n t) (hS : ∀ b, S b → b < w.heap.size) (hL : Lst w S ks (.slice ao ks.length c))
    (xs : List Int) (rest tx : Int) (hr : rest = 0) (h1 : xs.length = ks.length) (hm : m = 0) (ht : tx = 1) (hx : nameP x = true) (HR : Hid (isP (n + 1) (.mk k x m ks) s = kidsP (isP n) xs rest ks))
    (cSh : ∀ W, Below w.heap.size w W → Calls Tryz.prog 48 #[.agg #[.int .i64 k, .string ⟨x.toArray⟩, .int .i64 m, .slice ao ks.length c], .int .i64 s] W (OutH W (xs, rest, tx, true))) :
    Calls Tryz.prog 28 #[.agg #[.int .i64 k, .string ⟨x.toArray⟩, .int .i64 m, .slice ao ks.length c], .int .i64 s] w fun e w' => e = .returned (.bool (isP (n + 1) (.mk k x m ks) s)) ∧ Below w.heap.size w w' := by
  have hX0 := Hx.start (w := w) (c0 := .int .i64 k) (c1 := .string ⟨x.toArray⟩) (c2 := .int .i64 m) (c3 := .slice ao ks.length c)
  subst hr
  have d1 : decide ((ks.length : Int) < xs.length) = false := decide_eq_false (by omega)
  have d2 : decide ((xs.length : Int) < ks.length) = false := decide_eq_false (by omega)
  subst hm
  subst ht
  have nmT : ∀ W : World, Calls Tryz.prog 50 #[.string ⟨x.toArray⟩] W fun e w' => e = .returned (.bool true) ∧ Below W.heap.size W w' := fun W => by have h := nmR_any ⟨x.toArray⟩ hxm W; rw [show nameP (⟨x.toArray⟩ : ByteArray).data.toList = true from hx] at h; exact h
  go_enter Tryz.func28, Tryz.ntmps28
  go_wp2_with (first
    | (go_at_call 48; refine (cSh _ hX0.out).mono ?_; rintro e w1 ⟨sl1, rfl, hs1, hb1⟩
       have hX1 := hX0.next hb1
       have hx1 := hX1.cells
       obtain ⟨ao1, c1, rfl, hc1⟩ := hs1
       obtain ⟨x0, x1, x2, x3⟩ := hx1)
    | (go_at_call 49; refine (numK_any k _).mono ?_; rintro e w2 ⟨rfl, rfl⟩)
    | (go_at_call 50; refine (nmT _).mono ?_; rintro e w3 ⟨rfl, hb3⟩
       have hX3 := hX1.next hb3
       clear x0 x1 x2 x3
       obtain ⟨x0, x1, x2, x3⟩ := hX3.cells))
  go_loopw [9, 10] (fun v9 v10 wr => ∃ j : Nat, j ≤ ks.length ∧ v9 = .int .i64 j ∧ Below w3.heap.size w3 wr ∧ Hid (∀ (i : Nat) a, i < j → ks[i]? = some a → isP n a ((xs[i]?).getD 0) = true)) (fun v9 _ _ => ks.length - (intOf v9).toNat)
  case atStart => exact ⟨0, Nat.zero_le _, rfl, Below.refl _ _, Lib.hid fun i a h => absurd h (Nat.not_lt_zero _)⟩
  case round =>
    obtain ⟨j, hj, rfl, hbr, HP⟩ := hrel
    have hX := hX3.next hbr
    clear x0 x1 x2 x3
    obtain ⟨x0, x1, x2, x3⟩ := hX.cells
    by_cases hlt : j < ks.length
    · obtain ⟨a, ha⟩ : ∃ t, ks[j]? = some t := ⟨_, List.getElem?_eq_getElem hlt⟩
      obtain ⟨g, o, a0, n0, q0, hao, y0, y1, y2, y3, hg, hka⟩ := hL.kid ha hS
      subst hao
      have z0 := (hX.out.cell (p := ⟨g, o + j * 4, none⟩) hg).trans y0
      have z1 := (hX.out.cell (p := ⟨g, o + j * 4 + 1, none⟩) hg).trans y1
      have z2 := (hX.out.cell (p := ⟨g, o + j * 4 + 2, none⟩) hg).trans y2
      have z3 := (hX.out.cell (p := ⟨g, o + j * 4 + 3, none⟩) hg).trans y3
      have hFa := hF3 a (List.mem_of_getElem? ha)
      have HA := Lib.hid ha
      have hka' : KT wr S a (.slice a0 n0 q0) := hka.fr (fun b hb => hX.out.block b (hS b hb)) (fun _ h => h)
      obtain ⟨ak, av, am, aks⟩ := a
      obtain ⟨_, _, e⟩ := (Lst.of hka').slice
      injection e with e4 e5 e7
      clear e4 e7
      subst e5
      have cI := fun s' => HI.out ak av am aks a0 q0 s' S wr hFa (fun b hb => Nat.lt_of_lt_of_le (hS b hb) hX.out.size) hka'
      simp only [Tr.kind, Tr.text, Tr.num] at z0 z1 z2
      clear ha hka hka' hFa y0 y1 y2 y3
      by_cases hjx : j < xs.length
      · obtain ⟨u, hu⟩ : ∃ u, xs[j]? = some u := ⟨_, List.getElem?_eq_getElem hjx⟩
        obtain ⟨g1, o1, hao1, _, hcu⟩ := hc1 j u hu
        have hd : decide ((j : Int) < xs.length) = true := decide_eq_true (by omega)
        have zu : wr.cell? ⟨g1, o1 + j, none⟩ = some (.int .i64 u) := ((hbr.cell (p := ⟨g1, o1 + j, none⟩) (lt_of_cell ((hb3.cell (p := ⟨g1, o1 + j, none⟩) (lt_of_cell hcu)).trans hcu))).trans ((hb3.cell (p := ⟨g1, o1 + j, none⟩) (lt_of_cell hcu)).trans hcu))
        have HW : Hid ((xs[j]?).getD 0 = u) := Lib.hid (by rw [hu]; rfl)
        clear hu hcu
        subst hao1
        cases hp : isP n (.mk ak av am aks) u with
        | false =>
          have HX : Hid (isP (n + 1) (.mk k x 0 ks) s = false) := HR.out.trans (kidsP_false _ _ _ _ j _ HA.out (by rw [HW.out]; exact hp))
          have cI' := cI u
          rw [hp] at cI'
          clear hp cI
          go_wp2_with (go_at_call 28; refine cI'.mono ?_; rintro e w4 ⟨rfl, hb4⟩)
          go_ret
          exact ⟨congrArg (fun b => Ending.returned (Value.bool b)) HX.out.symm, (hX.next hb4).out⟩
        | true =>
          have HP2 : Hid (∀ (i : Nat) a, i < j + 1 → ks[i]? = some a → isP n a ((xs[i]?).getD 0) = true) := Lib.hid (fun i a hi hia => by
            rcases Nat.lt_succ_iff_lt_or_eq.1 hi with h | h
            · exact HP.out i a h hia
            · subst h
              rw [HA.out] at hia
              injection hia with e
              subst e
              rw [HW.out]; exact hp)
          have cI' := cI u
          rw [hp] at cI'
          clear hp cI HP HA HW
          go_wp2_with (go_at_call 28; refine cI'.mono ?_; rintro e w4 ⟨rfl, hb4⟩)
          go_roundw
          case rel => exact ⟨j + 1, by omega, by go_num, hbr.trans (hb4.mono hbr.size), HP2⟩
          case measure => simp [intOf]; omega
      · exact absurd (show j < xs.length by omega) hjx
    · have HX : Hid (isP (n + 1) (.mk k x 0 ks) s = true) := HR.out.trans (kidsP_true _ _ _ _ fun i a ha => HP.out i a (by
        have := (List.getElem?_eq_some_iff.1 ha).1; omega) ha)
      go_wp2
      go_ret
      exact ⟨congrArg (fun b => Ending.returned (Value.bool b)) HX.out.symm, hX.out⟩
set_option maxRecDepth 20000 in
set_option maxHeartbeats 8000000 in
theorem is_002 (n : Nat) (HI : Hid (∀ (k : Int) (x : List UInt8) (m : Int) (ks : List Tr) (ao : Option Addr) (c : Nat) (s : Int) (S : Nat → Prop) (w : World), Fit n (.mk k x m ks) → (∀ b, S b → b < w.heap.size) → KT w S (.mk k x m ks) (.slice ao ks.length c) →
    Calls Tryz.prog 28 #[.agg #[.int .i64 k, .string ⟨x.toArray⟩, .int .i64 m, .slice ao ks.length c], .int .i64 s] w fun e w' => e = .returned (.bool (isP n (.mk k x m ks) s)) ∧ Below w.heap.size w w'))
    (k : Int) (x : List UInt8) (m : Int) (ks : List Tr) (ao : Option Addr) (c : Nat) (s : Int) (S : Nat → Prop) (w : World) (hF1 : ks.length ≤ 20000) (_hxm : (⟨x.toArray⟩ : ByteArray).size ≤ maxLen) (hF3 : ∀ t ∈ ks, Fit n t) (hS : ∀ b, S b → b < w.heap.size) (hL : Lst w S ks (.slice ao ks.length c))
    (xs : List Int) (rest tx : Int) (hr : rest = 0) (h1 : xs.length = ks.length) (hm : m = 0) (t0 : (tx == 0) = false) (t1 : (tx == 1) = false) (HR : Hid (isP (n + 1) (.mk k x m ks) s = kidsP (isP n) xs rest ks))
    (cSh : ∀ W, Below w.heap.size w W → Calls Tryz.prog 48 #[.agg #[.int .i64 k, .string ⟨x.toArray⟩, .int .i64 m, .slice ao ks.length c], .int .i64 s] W (OutH W (xs, rest, tx, true))) :
    Calls Tryz.prog 28 #[.agg #[.int .i64 k, .string ⟨x.toArray⟩, .int .i64 m, .slice ao ks.length c], .int .i64 s] w fun e w' => e = .returned (.bool (isP (n + 1) (.mk k x m ks) s)) ∧ Below w.heap.size w w' := by
  have hX0 := Hx.start (w := w) (c0 := .int .i64 k) (c1 := .string ⟨x.toArray⟩) (c2 := .int .i64 m) (c3 := .slice ao ks.length c)
  subst hr
  have d1 : decide ((ks.length : Int) < xs.length) = false := decide_eq_false (by omega)
  have d2 : decide ((xs.length : Int) < ks.length) = false := decide_eq_false (by omega)
  subst hm
  go_enter Tryz.func28, Tryz.ntmps28
  go_wp2_with (first
    | (go_at_call 48; refine (cSh _ hX0.out).mono ?_; rintro e w1 ⟨sl1, rfl, hs1, hb1⟩
       have hX1 := hX0.next hb1
       have hx1 := hX1.cells
       obtain ⟨ao1, c1, rfl, hc1⟩ := hs1
       obtain ⟨x0, x1, x2, x3⟩ := hx1)
    | (go_at_call 49; refine (numK_any k _).mono ?_; rintro e w2 ⟨rfl, rfl⟩)
    | (go_at_call 50; refine (nmR_any ⟨x.toArray⟩ _hxm _).mono ?_; rintro e w3 ⟨rfl, hb3⟩
       have hX3 := hX1.next hb3
       clear x0 x1 x2 x3
       obtain ⟨x0, x1, x2, x3⟩ := hX3.cells))
  go_loopw [9, 10] (fun v9 v10 wr => ∃ j : Nat, j ≤ ks.length ∧ v9 = .int .i64 j ∧ Below w1.heap.size w1 wr ∧ Hid (∀ (i : Nat) a, i < j → ks[i]? = some a → isP n a ((xs[i]?).getD 0) = true)) (fun v9 _ _ => ks.length - (intOf v9).toNat)
  case atStart => exact ⟨0, Nat.zero_le _, rfl, Below.refl _ _, Lib.hid fun i a h => absurd h (Nat.not_lt_zero _)⟩
  case round =>
    obtain ⟨j, hj, rfl, hbr, HP⟩ := hrel
    have hX := hX1.next hbr
    clear x0 x1 x2 x3
    obtain ⟨x0, x1, x2, x3⟩ := hX.cells
    by_cases hlt : j < ks.length
    · obtain ⟨a, ha⟩ : ∃ t, ks[j]? = some t := ⟨_, List.getElem?_eq_getElem hlt⟩
      obtain ⟨g, o, a0, n0, q0, hao, y0, y1, y2, y3, hg, hka⟩ := hL.kid ha hS
      subst hao
      have z0 := (hX.out.cell (p := ⟨g, o + j * 4, none⟩) hg).trans y0
      have z1 := (hX.out.cell (p := ⟨g, o + j * 4 + 1, none⟩) hg).trans y1
      have z2 := (hX.out.cell (p := ⟨g, o + j * 4 + 2, none⟩) hg).trans y2
      have z3 := (hX.out.cell (p := ⟨g, o + j * 4 + 3, none⟩) hg).trans y3
      have hFa := hF3 a (List.mem_of_getElem? ha)
      have HA := Lib.hid ha
      have hka' : KT wr S a (.slice a0 n0 q0) := hka.fr (fun b hb => hX.out.block b (hS b hb)) (fun _ h => h)
      obtain ⟨ak, av, am, aks⟩ := a
      obtain ⟨_, _, e⟩ := (Lst.of hka').slice
      injection e with e4 e5 e7
      clear e4 e7
      subst e5
      have cI := fun s' => HI.out ak av am aks a0 q0 s' S wr hFa (fun b hb => Nat.lt_of_lt_of_le (hS b hb) hX.out.size) hka'
      simp only [Tr.kind, Tr.text, Tr.num] at z0 z1 z2
      clear ha hka hka' hFa y0 y1 y2 y3
      by_cases hjx : j < xs.length
      · obtain ⟨u, hu⟩ : ∃ u, xs[j]? = some u := ⟨_, List.getElem?_eq_getElem hjx⟩
        obtain ⟨g1, o1, hao1, _, hcu⟩ := hc1 j u hu
        have hd : decide ((j : Int) < xs.length) = true := decide_eq_true (by omega)
        have zu : wr.cell? ⟨g1, o1 + j, none⟩ = some (.int .i64 u) := ((hbr.cell (p := ⟨g1, o1 + j, none⟩) (lt_of_cell (hcu))).trans (hcu))
        have HW : Hid ((xs[j]?).getD 0 = u) := Lib.hid (by rw [hu]; rfl)
        clear hu hcu
        subst hao1
        cases hp : isP n (.mk ak av am aks) u with
        | false =>
          have HX : Hid (isP (n + 1) (.mk k x 0 ks) s = false) := HR.out.trans (kidsP_false _ _ _ _ j _ HA.out (by rw [HW.out]; exact hp))
          have cI' := cI u
          rw [hp] at cI'
          clear hp cI
          go_wp2_with (go_at_call 28; refine cI'.mono ?_; rintro e w4 ⟨rfl, hb4⟩)
          go_ret
          exact ⟨congrArg (fun b => Ending.returned (Value.bool b)) HX.out.symm, (hX.next hb4).out⟩
        | true =>
          have HP2 : Hid (∀ (i : Nat) a, i < j + 1 → ks[i]? = some a → isP n a ((xs[i]?).getD 0) = true) := Lib.hid (fun i a hi hia => by
            rcases Nat.lt_succ_iff_lt_or_eq.1 hi with h | h
            · exact HP.out i a h hia
            · subst h
              rw [HA.out] at hia
              injection hia with e
              subst e
              rw [HW.out]; exact hp)
          have cI' := cI u
          rw [hp] at cI'
          clear hp cI HP HA HW
          go_wp2_with (go_at_call 28; refine cI'.mono ?_; rintro e w4 ⟨rfl, hb4⟩)
          go_roundw
          case rel => exact ⟨j + 1, by omega, by go_num, hbr.trans (hb4.mono hbr.size), HP2⟩
          case measure => simp [intOf]; omega
      · exact absurd (show j < xs.length by omega) hjx
    · have HX : Hid (isP (n + 1) (.mk k x 0 ks) s = true) := HR.out.trans (kidsP_true _ _ _ _ fun i a ha => HP.out i a (by
        have := (List.getElem?_eq_some_iff.1 ha).1; omega) ha)
      go_wp2
      go_ret
      exact ⟨congrArg (fun b => Ending.returned (Value.bool b)) HX.out.symm, hX.out⟩
set_option maxRecDepth 20000 in
set_option maxHeartbeats 8000000 in
theorem is_010 (n : Nat) (HI : Hid (∀ (k : Int) (x : List UInt8) (m : Int) (ks : List Tr) (ao : Option Addr) (c : Nat) (s : Int) (S : Nat → Prop) (w : World), Fit n (.mk k x m ks) → (∀ b, S b → b < w.heap.size) → KT w S (.mk k x m ks) (.slice ao ks.length c) →
    Calls Tryz.prog 28 #[.agg #[.int .i64 k, .string ⟨x.toArray⟩, .int .i64 m, .slice ao ks.length c], .int .i64 s] w fun e w' => e = .returned (.bool (isP n (.mk k x m ks) s)) ∧ Below w.heap.size w w'))
    (k : Int) (x : List UInt8) (m : Int) (ks : List Tr) (ao : Option Addr) (c : Nat) (s : Int) (S : Nat → Prop) (w : World) (hF1 : ks.length ≤ 20000) (_hxm : (⟨x.toArray⟩ : ByteArray).size ≤ maxLen) (hF3 : ∀ t ∈ ks, Fit n t) (hS : ∀ b, S b → b < w.heap.size) (hL : Lst w S ks (.slice ao ks.length c))
    (xs : List Int) (rest tx : Int) (hr : rest = 0) (h1 : xs.length = ks.length) (hm : m ≠ 0) (hk2 : numK k = true) (ht : tx = 0) (hx : x = []) (HR : Hid (isP (n + 1) (.mk k x m ks) s = kidsP (isP n) xs rest ks))
    (cSh : ∀ W, Below w.heap.size w W → Calls Tryz.prog 48 #[.agg #[.int .i64 k, .string ⟨x.toArray⟩, .int .i64 m, .slice ao ks.length c], .int .i64 s] W (OutH W (xs, rest, tx, true))) :
    Calls Tryz.prog 28 #[.agg #[.int .i64 k, .string ⟨x.toArray⟩, .int .i64 m, .slice ao ks.length c], .int .i64 s] w fun e w' => e = .returned (.bool (isP (n + 1) (.mk k x m ks) s)) ∧ Below w.heap.size w w' := by
  have hX0 := Hx.start (w := w) (c0 := .int .i64 k) (c1 := .string ⟨x.toArray⟩) (c2 := .int .i64 m) (c3 := .slice ao ks.length c)
  subst hr
  have d1 : decide ((ks.length : Int) < xs.length) = false := decide_eq_false (by omega)
  have d2 : decide ((xs.length : Int) < ks.length) = false := decide_eq_false (by omega)
  have m0 : (m != 0) = true := by simp [hm]
  subst ht hx
  have nkT : ∀ W : World, Calls Tryz.prog 49 #[.int .i64 k] W fun e w' => e = .returned (.bool true) ∧ w' = W := fun W => by have h := numK_any k W; rw [hk2] at h; exact h
  go_enter Tryz.func28, Tryz.ntmps28
  go_wp2_with (first
    | (go_at_call 48; refine (cSh _ hX0.out).mono ?_; rintro e w1 ⟨sl1, rfl, hs1, hb1⟩
       have hX1 := hX0.next hb1
       have hx1 := hX1.cells
       obtain ⟨ao1, c1, rfl, hc1⟩ := hs1
       obtain ⟨x0, x1, x2, x3⟩ := hx1)
    | (go_at_call 49; refine (nkT _).mono ?_; rintro e w2 ⟨rfl, hw2⟩; obtain rfl := hw2.symm)
    | (go_at_call 50; refine (nmR_any ⟨([] : List UInt8).toArray⟩ _hxm _).mono ?_; rintro e w3 ⟨rfl, hb3⟩
       have hX3 := hX1.next hb3
       clear x0 x1 x2 x3
       obtain ⟨x0, x1, x2, x3⟩ := hX3.cells))
  go_loopw [9, 10] (fun v9 v10 wr => ∃ j : Nat, j ≤ ks.length ∧ v9 = .int .i64 j ∧ Below w1.heap.size w1 wr ∧ Hid (∀ (i : Nat) a, i < j → ks[i]? = some a → isP n a ((xs[i]?).getD 0) = true)) (fun v9 _ _ => ks.length - (intOf v9).toNat)
  case atStart => exact ⟨0, Nat.zero_le _, rfl, Below.refl _ _, Lib.hid fun i a h => absurd h (Nat.not_lt_zero _)⟩
  case round =>
    obtain ⟨j, hj, rfl, hbr, HP⟩ := hrel
    have hX := hX1.next hbr
    clear x0 x1 x2 x3
    obtain ⟨x0, x1, x2, x3⟩ := hX.cells
    by_cases hlt : j < ks.length
    · obtain ⟨a, ha⟩ : ∃ t, ks[j]? = some t := ⟨_, List.getElem?_eq_getElem hlt⟩
      obtain ⟨g, o, a0, n0, q0, hao, y0, y1, y2, y3, hg, hka⟩ := hL.kid ha hS
      subst hao
      have z0 := (hX.out.cell (p := ⟨g, o + j * 4, none⟩) hg).trans y0
      have z1 := (hX.out.cell (p := ⟨g, o + j * 4 + 1, none⟩) hg).trans y1
      have z2 := (hX.out.cell (p := ⟨g, o + j * 4 + 2, none⟩) hg).trans y2
      have z3 := (hX.out.cell (p := ⟨g, o + j * 4 + 3, none⟩) hg).trans y3
      have hFa := hF3 a (List.mem_of_getElem? ha)
      have HA := Lib.hid ha
      have hka' : KT wr S a (.slice a0 n0 q0) := hka.fr (fun b hb => hX.out.block b (hS b hb)) (fun _ h => h)
      obtain ⟨ak, av, am, aks⟩ := a
      obtain ⟨_, _, e⟩ := (Lst.of hka').slice
      injection e with e4 e5 e7
      clear e4 e7
      subst e5
      have cI := fun s' => HI.out ak av am aks a0 q0 s' S wr hFa (fun b hb => Nat.lt_of_lt_of_le (hS b hb) hX.out.size) hka'
      simp only [Tr.kind, Tr.text, Tr.num] at z0 z1 z2
      clear ha hka hka' hFa y0 y1 y2 y3
      by_cases hjx : j < xs.length
      · obtain ⟨u, hu⟩ : ∃ u, xs[j]? = some u := ⟨_, List.getElem?_eq_getElem hjx⟩
        obtain ⟨g1, o1, hao1, _, hcu⟩ := hc1 j u hu
        have hd : decide ((j : Int) < xs.length) = true := decide_eq_true (by omega)
        have zu : wr.cell? ⟨g1, o1 + j, none⟩ = some (.int .i64 u) := ((hbr.cell (p := ⟨g1, o1 + j, none⟩) (lt_of_cell (hcu))).trans (hcu))
        have HW : Hid ((xs[j]?).getD 0 = u) := Lib.hid (by rw [hu]; rfl)
        clear hu hcu
        subst hao1
        cases hp : isP n (.mk ak av am aks) u with
        | false =>
          have HX : Hid (isP (n + 1) (.mk k [] m ks) s = false) := HR.out.trans (kidsP_false _ _ _ _ j _ HA.out (by rw [HW.out]; exact hp))
          have cI' := cI u
          rw [hp] at cI'
          clear hp cI
          go_wp2_with (go_at_call 28; refine cI'.mono ?_; rintro e w4 ⟨rfl, hb4⟩)
          go_ret
          exact ⟨congrArg (fun b => Ending.returned (Value.bool b)) HX.out.symm, (hX.next hb4).out⟩
        | true =>
          have HP2 : Hid (∀ (i : Nat) a, i < j + 1 → ks[i]? = some a → isP n a ((xs[i]?).getD 0) = true) := Lib.hid (fun i a hi hia => by
            rcases Nat.lt_succ_iff_lt_or_eq.1 hi with h | h
            · exact HP.out i a h hia
            · subst h
              rw [HA.out] at hia
              injection hia with e
              subst e
              rw [HW.out]; exact hp)
          have cI' := cI u
          rw [hp] at cI'
          clear hp cI HP HA HW
          go_wp2_with (go_at_call 28; refine cI'.mono ?_; rintro e w4 ⟨rfl, hb4⟩)
          go_roundw
          case rel => exact ⟨j + 1, by omega, by go_num, hbr.trans (hb4.mono hbr.size), HP2⟩
          case measure => simp [intOf]; omega
      · exact absurd (show j < xs.length by omega) hjx
    · have HX : Hid (isP (n + 1) (.mk k [] m ks) s = true) := HR.out.trans (kidsP_true _ _ _ _ fun i a ha => HP.out i a (by
        have := (List.getElem?_eq_some_iff.1 ha).1; omega) ha)
      go_wp2
      go_ret
      exact ⟨congrArg (fun b => Ending.returned (Value.bool b)) HX.out.symm, hX.out⟩
set_option maxRecDepth 20000 in
set_option maxHeartbeats 8000000 in
theorem is_011 (n : Nat) (HI : Hid (∀ (k : Int) (x : List UInt8) (m : Int) (ks : List Tr) (ao : Option Addr) (c : Nat) (s : Int) (S : Nat → Prop) (w : World), Fit n (.mk k x m ks) → (∀ b, S b → b < w.heap.size) → KT w S (.mk k x m ks) (.slice ao ks.length c) →
    Calls Tryz.prog 28 #[.agg #[.int .i64 k, .string ⟨x.toArray⟩, .int .i64 m, .slice ao ks.length c], .int .i64 s] w fun e w' => e = .returned (.bool (isP n (.mk k x m ks) s)) ∧ Below w.heap.size w w'))
    (k : Int) (x : List UInt8) (m : Int) (ks : List Tr) (ao : Option Addr) (c : Nat) (s : Int) (S : Nat → Prop) (w : World) (hF1 : ks.length ≤ 20000) (hxm : (⟨x.toArray⟩ : ByteArray).size ≤ maxLen) (hF3 : ∀ t ∈ ks, Fit n t) (hS : ∀ b, S b → b < w.heap.size) (hL : Lst w S ks (.slice ao ks.length c))
    (xs : List Int) (rest tx : Int) (hr : rest = 0) (h1 : xs.length = ks.length) (hm : m ≠ 0) (hk2 : numK k = true) (ht : tx = 1) (hx : nameP x = true) (HR : Hid (isP (n + 1) (.mk k x m ks) s = kidsP (isP n) xs rest ks))
    (cSh : ∀ W, Below w.heap.size w W → Calls Tryz.prog 48 #[.agg #[.int .i64 k, .string ⟨x.toArray⟩, .int .i64 m, .slice ao ks.length c], .int .i64 s] W (OutH W (xs, rest, tx, true))) :
    Calls Tryz.prog 28 #[.agg #[.int .i64 k, .string ⟨x.toArray⟩, .int .i64 m, .slice ao ks.length c], .int .i64 s] w fun e w' => e = .returned (.bool (isP (n + 1) (.mk k x m ks) s)) ∧ Below w.heap.size w w' := by
  have hX0 := Hx.start (w := w) (c0 := .int .i64 k) (c1 := .string ⟨x.toArray⟩) (c2 := .int .i64 m) (c3 := .slice ao ks.length c)
  subst hr
  have d1 : decide ((ks.length : Int) < xs.length) = false := decide_eq_false (by omega)
  have d2 : decide ((xs.length : Int) < ks.length) = false := decide_eq_false (by omega)
  have m0 : (m != 0) = true := by simp [hm]
  subst ht
  have nkT : ∀ W : World, Calls Tryz.prog 49 #[.int .i64 k] W fun e w' => e = .returned (.bool true) ∧ w' = W := fun W => by have h := numK_any k W; rw [hk2] at h; exact h
  have nmT : ∀ W : World, Calls Tryz.prog 50 #[.string ⟨x.toArray⟩] W fun e w' => e = .returned (.bool true) ∧ Below W.heap.size W w' := fun W => by have h := nmR_any ⟨x.toArray⟩ hxm W; rw [show nameP (⟨x.toArray⟩ : ByteArray).data.toList = true from hx] at h; exact h
  go_enter Tryz.func28, Tryz.ntmps28
  go_wp2_with (first
    | (go_at_call 48; refine (cSh _ hX0.out).mono ?_; rintro e w1 ⟨sl1, rfl, hs1, hb1⟩
       have hX1 := hX0.next hb1
       have hx1 := hX1.cells
       obtain ⟨ao1, c1, rfl, hc1⟩ := hs1
       obtain ⟨x0, x1, x2, x3⟩ := hx1)
    | (go_at_call 49; refine (nkT _).mono ?_; rintro e w2 ⟨rfl, hw2⟩; obtain rfl := hw2.symm)
    | (go_at_call 50; refine (nmT _).mono ?_; rintro e w3 ⟨rfl, hb3⟩
       have hX3 := hX1.next hb3
       clear x0 x1 x2 x3
       obtain ⟨x0, x1, x2, x3⟩ := hX3.cells))
  go_loopw [9, 10] (fun v9 v10 wr => ∃ j : Nat, j ≤ ks.length ∧ v9 = .int .i64 j ∧ Below w3.heap.size w3 wr ∧ Hid (∀ (i : Nat) a, i < j → ks[i]? = some a → isP n a ((xs[i]?).getD 0) = true)) (fun v9 _ _ => ks.length - (intOf v9).toNat)
  case atStart => exact ⟨0, Nat.zero_le _, rfl, Below.refl _ _, Lib.hid fun i a h => absurd h (Nat.not_lt_zero _)⟩
  case round =>
    obtain ⟨j, hj, rfl, hbr, HP⟩ := hrel
    have hX := hX3.next hbr
    clear x0 x1 x2 x3
    obtain ⟨x0, x1, x2, x3⟩ := hX.cells
    by_cases hlt : j < ks.length
    · obtain ⟨a, ha⟩ : ∃ t, ks[j]? = some t := ⟨_, List.getElem?_eq_getElem hlt⟩
      obtain ⟨g, o, a0, n0, q0, hao, y0, y1, y2, y3, hg, hka⟩ := hL.kid ha hS
      subst hao
      have z0 := (hX.out.cell (p := ⟨g, o + j * 4, none⟩) hg).trans y0
      have z1 := (hX.out.cell (p := ⟨g, o + j * 4 + 1, none⟩) hg).trans y1
      have z2 := (hX.out.cell (p := ⟨g, o + j * 4 + 2, none⟩) hg).trans y2
      have z3 := (hX.out.cell (p := ⟨g, o + j * 4 + 3, none⟩) hg).trans y3
      have hFa := hF3 a (List.mem_of_getElem? ha)
      have HA := Lib.hid ha
      have hka' : KT wr S a (.slice a0 n0 q0) := hka.fr (fun b hb => hX.out.block b (hS b hb)) (fun _ h => h)
      obtain ⟨ak, av, am, aks⟩ := a
      obtain ⟨_, _, e⟩ := (Lst.of hka').slice
      injection e with e4 e5 e7
      clear e4 e7
      subst e5
      have cI := fun s' => HI.out ak av am aks a0 q0 s' S wr hFa (fun b hb => Nat.lt_of_lt_of_le (hS b hb) hX.out.size) hka'
      simp only [Tr.kind, Tr.text, Tr.num] at z0 z1 z2
      clear ha hka hka' hFa y0 y1 y2 y3
      by_cases hjx : j < xs.length
      · obtain ⟨u, hu⟩ : ∃ u, xs[j]? = some u := ⟨_, List.getElem?_eq_getElem hjx⟩
        obtain ⟨g1, o1, hao1, _, hcu⟩ := hc1 j u hu
        have hd : decide ((j : Int) < xs.length) = true := decide_eq_true (by omega)
        have zu : wr.cell? ⟨g1, o1 + j, none⟩ = some (.int .i64 u) := ((hbr.cell (p := ⟨g1, o1 + j, none⟩) (lt_of_cell ((hb3.cell (p := ⟨g1, o1 + j, none⟩) (lt_of_cell hcu)).trans hcu))).trans ((hb3.cell (p := ⟨g1, o1 + j, none⟩) (lt_of_cell hcu)).trans hcu))
        have HW : Hid ((xs[j]?).getD 0 = u) := Lib.hid (by rw [hu]; rfl)
        clear hu hcu
        subst hao1
        cases hp : isP n (.mk ak av am aks) u with
        | false =>
          have HX : Hid (isP (n + 1) (.mk k x m ks) s = false) := HR.out.trans (kidsP_false _ _ _ _ j _ HA.out (by rw [HW.out]; exact hp))
          have cI' := cI u
          rw [hp] at cI'
          clear hp cI
          go_wp2_with (go_at_call 28; refine cI'.mono ?_; rintro e w4 ⟨rfl, hb4⟩)
          go_ret
          exact ⟨congrArg (fun b => Ending.returned (Value.bool b)) HX.out.symm, (hX.next hb4).out⟩
        | true =>
          have HP2 : Hid (∀ (i : Nat) a, i < j + 1 → ks[i]? = some a → isP n a ((xs[i]?).getD 0) = true) := Lib.hid (fun i a hi hia => by
            rcases Nat.lt_succ_iff_lt_or_eq.1 hi with h | h
            · exact HP.out i a h hia
            · subst h
              rw [HA.out] at hia
              injection hia with e
              subst e
              rw [HW.out]; exact hp)
          have cI' := cI u
          rw [hp] at cI'
          clear hp cI HP HA HW
          go_wp2_with (go_at_call 28; refine cI'.mono ?_; rintro e w4 ⟨rfl, hb4⟩)
          go_roundw
          case rel => exact ⟨j + 1, by omega, by go_num, hbr.trans (hb4.mono hbr.size), HP2⟩
          case measure => simp [intOf]; omega
      · exact absurd (show j < xs.length by omega) hjx
    · have HX : Hid (isP (n + 1) (.mk k x m ks) s = true) := HR.out.trans (kidsP_true _ _ _ _ fun i a ha => HP.out i a (by
        have := (List.getElem?_eq_some_iff.1 ha).1; omega) ha)
      go_wp2
      go_ret
      exact ⟨congrArg (fun b => Ending.returned (Value.bool b)) HX.out.symm, hX.out⟩
set_option maxRecDepth 20000 in
set_option maxHeartbeats 8000000 in
theorem is_012 (n : Nat) (HI : Hid (∀ (k : Int) (x : List UInt8) (m : Int) (ks : List Tr) (ao : Option Addr) (c : Nat) (s : Int) (S : Nat → Prop) (w : World), Fit n (.mk k x m ks) → (∀ b, S b → b < w.heap.size) → KT w S (.mk k x m ks) (.slice ao ks.length c) →
    Calls Tryz.prog 28 #[.agg #[.int .i64 k, .string ⟨x.toArray⟩, .int .i64 m, .slice ao ks.length c], .int .i64 s] w fun e w' => e = .returned (.bool (isP n (.mk k x m ks) s)) ∧ Below w.heap.size w w'))
    (k : Int) (x : List UInt8) (m : Int) (ks : List Tr) (ao : Option Addr) (c : Nat) (s : Int) (S : Nat → Prop) (w : World) (hF1 : ks.length ≤ 20000) (_hxm : (⟨x.toArray⟩ : ByteArray).size ≤ maxLen) (hF3 : ∀ t ∈ ks, Fit n t) (hS : ∀ b, S b → b < w.heap.size) (hL : Lst w S ks (.slice ao ks.length c))
    (xs : List Int) (rest tx : Int) (hr : rest = 0) (h1 : xs.length = ks.length) (hm : m ≠ 0) (hk2 : numK k = true) (t0 : (tx == 0) = false) (t1 : (tx == 1) = false) (HR : Hid (isP (n + 1) (.mk k x m ks) s = kidsP (isP n) xs rest ks))
    (cSh : ∀ W, Below w.heap.size w W → Calls Tryz.prog 48 #[.agg #[.int .i64 k, .string ⟨x.toArray⟩, .int .i64 m, .slice ao ks.length c], .int .i64 s] W (OutH W (xs, rest, tx, true))) :
    Calls Tryz.prog 28 #[.agg #[.int .i64 k, .string ⟨x.toArray⟩, .int .i64 m, .slice ao ks.length c], .int .i64 s] w fun e w' => e = .returned (.bool (isP (n + 1) (.mk k x m ks) s)) ∧ Below w.heap.size w w' := by
  have hX0 := Hx.start (w := w) (c0 := .int .i64 k) (c1 := .string ⟨x.toArray⟩) (c2 := .int .i64 m) (c3 := .slice ao ks.length c)
  subst hr
  have d1 : decide ((ks.length : Int) < xs.length) = false := decide_eq_false (by omega)
  have d2 : decide ((xs.length : Int) < ks.length) = false := decide_eq_false (by omega)
  have m0 : (m != 0) = true := by simp [hm]
  have nkT : ∀ W : World, Calls Tryz.prog 49 #[.int .i64 k] W fun e w' => e = .returned (.bool true) ∧ w' = W := fun W => by have h := numK_any k W; rw [hk2] at h; exact h
  go_enter Tryz.func28, Tryz.ntmps28
  go_wp2_with (first
    | (go_at_call 48; refine (cSh _ hX0.out).mono ?_; rintro e w1 ⟨sl1, rfl, hs1, hb1⟩
       have hX1 := hX0.next hb1
       have hx1 := hX1.cells
       obtain ⟨ao1, c1, rfl, hc1⟩ := hs1
       obtain ⟨x0, x1, x2, x3⟩ := hx1)
    | (go_at_call 49; refine (nkT _).mono ?_; rintro e w2 ⟨rfl, hw2⟩; obtain rfl := hw2.symm)
    | (go_at_call 50; refine (nmR_any ⟨x.toArray⟩ _hxm _).mono ?_; rintro e w3 ⟨rfl, hb3⟩
       have hX3 := hX1.next hb3
       clear x0 x1 x2 x3
       obtain ⟨x0, x1, x2, x3⟩ := hX3.cells))
  go_loopw [9, 10] (fun v9 v10 wr => ∃ j : Nat, j ≤ ks.length ∧ v9 = .int .i64 j ∧ Below w1.heap.size w1 wr ∧ Hid (∀ (i : Nat) a, i < j → ks[i]? = some a → isP n a ((xs[i]?).getD 0) = true)) (fun v9 _ _ => ks.length - (intOf v9).toNat)
  case atStart => exact ⟨0, Nat.zero_le _, rfl, Below.refl _ _, Lib.hid fun i a h => absurd h (Nat.not_lt_zero _)⟩
  case round =>
    obtain ⟨j, hj, rfl, hbr, HP⟩ := hrel
    have hX := hX1.next hbr
    clear x0 x1 x2 x3
    obtain ⟨x0, x1, x2, x3⟩ := hX.cells
    by_cases hlt : j < ks.length
    · obtain ⟨a, ha⟩ : ∃ t, ks[j]? = some t := ⟨_, List.getElem?_eq_getElem hlt⟩
      obtain ⟨g, o, a0, n0, q0, hao, y0, y1, y2, y3, hg, hka⟩ := hL.kid ha hS
      subst hao
      have z0 := (hX.out.cell (p := ⟨g, o + j * 4, none⟩) hg).trans y0
      have z1 := (hX.out.cell (p := ⟨g, o + j * 4 + 1, none⟩) hg).trans y1
      have z2 := (hX.out.cell (p := ⟨g, o + j * 4 + 2, none⟩) hg).trans y2
      have z3 := (hX.out.cell (p := ⟨g, o + j * 4 + 3, none⟩) hg).trans y3
      have hFa := hF3 a (List.mem_of_getElem? ha)
      have HA := Lib.hid ha
      have hka' : KT wr S a (.slice a0 n0 q0) := hka.fr (fun b hb => hX.out.block b (hS b hb)) (fun _ h => h)
      obtain ⟨ak, av, am, aks⟩ := a
      obtain ⟨_, _, e⟩ := (Lst.of hka').slice
      injection e with e4 e5 e7
      clear e4 e7
      subst e5
      have cI := fun s' => HI.out ak av am aks a0 q0 s' S wr hFa (fun b hb => Nat.lt_of_lt_of_le (hS b hb) hX.out.size) hka'
      simp only [Tr.kind, Tr.text, Tr.num] at z0 z1 z2
      clear ha hka hka' hFa y0 y1 y2 y3
      by_cases hjx : j < xs.length
      · obtain ⟨u, hu⟩ : ∃ u, xs[j]? = some u := ⟨_, List.getElem?_eq_getElem hjx⟩
        obtain ⟨g1, o1, hao1, _, hcu⟩ := hc1 j u hu
        have hd : decide ((j : Int) < xs.length) = true := decide_eq_true (by omega)
        have zu : wr.cell? ⟨g1, o1 + j, none⟩ = some (.int .i64 u) := ((hbr.cell (p := ⟨g1, o1 + j, none⟩) (lt_of_cell (hcu))).trans (hcu))
        have HW : Hid ((xs[j]?).getD 0 = u) := Lib.hid (by rw [hu]; rfl)
        clear hu hcu
        subst hao1
        cases hp : isP n (.mk ak av am aks) u with
        | false =>
          have HX : Hid (isP (n + 1) (.mk k x m ks) s = false) := HR.out.trans (kidsP_false _ _ _ _ j _ HA.out (by rw [HW.out]; exact hp))
          have cI' := cI u
          rw [hp] at cI'
          clear hp cI
          go_wp2_with (go_at_call 28; refine cI'.mono ?_; rintro e w4 ⟨rfl, hb4⟩)
          go_ret
          exact ⟨congrArg (fun b => Ending.returned (Value.bool b)) HX.out.symm, (hX.next hb4).out⟩
        | true =>
          have HP2 : Hid (∀ (i : Nat) a, i < j + 1 → ks[i]? = some a → isP n a ((xs[i]?).getD 0) = true) := Lib.hid (fun i a hi hia => by
            rcases Nat.lt_succ_iff_lt_or_eq.1 hi with h | h
            · exact HP.out i a h hia
            · subst h
              rw [HA.out] at hia
              injection hia with e
              subst e
              rw [HW.out]; exact hp)
          have cI' := cI u
          rw [hp] at cI'
          clear hp cI HP HA HW
          go_wp2_with (go_at_call 28; refine cI'.mono ?_; rintro e w4 ⟨rfl, hb4⟩)
          go_roundw
          case rel => exact ⟨j + 1, by omega, by go_num, hbr.trans (hb4.mono hbr.size), HP2⟩
          case measure => simp [intOf]; omega
      · exact absurd (show j < xs.length by omega) hjx
    · have HX : Hid (isP (n + 1) (.mk k x m ks) s = true) := HR.out.trans (kidsP_true _ _ _ _ fun i a ha => HP.out i a (by
        have := (List.getElem?_eq_some_iff.1 ha).1; omega) ha)
      go_wp2
      go_ret
      exact ⟨congrArg (fun b => Ending.returned (Value.bool b)) HX.out.symm, hX.out⟩
set_option maxRecDepth 20000 in
set_option maxHeartbeats 8000000 in
theorem is_100 (n : Nat) (HI : Hid (∀ (k : Int) (x : List UInt8) (m : Int) (ks : List Tr) (ao : Option Addr) (c : Nat) (s : Int) (S : Nat → Prop) (w : World), Fit n (.mk k x m ks) → (∀ b, S b → b < w.heap.size) → KT w S (.mk k x m ks) (.slice ao ks.length c) →
    Calls Tryz.prog 28 #[.agg #[.int .i64 k, .string ⟨x.toArray⟩, .int .i64 m, .slice ao ks.length c], .int .i64 s] w fun e w' => e = .returned (.bool (isP n (.mk k x m ks) s)) ∧ Below w.heap.size w w'))
    (k : Int) (x : List UInt8) (m : Int) (ks : List Tr) (ao : Option Addr) (c : Nat) (s : Int) (S : Nat → Prop) (w : World) (hF1 : ks.length ≤ 20000) (_hxm : (⟨x.toArray⟩ : ByteArray).size ≤ maxLen) (hF3 : ∀ t ∈ ks, Fit n t) (hS : ∀ b, S b → b < w.heap.size) (hL : Lst w S ks (.slice ao ks.length c))
    (xs : List Int) (rest tx : Int) (hr : rest ≠ 0) (h1 : xs.length ≤ ks.length) (hm : m = 0) (ht : tx = 0) (hx : x = []) (HR : Hid (isP (n + 1) (.mk k x m ks) s = kidsP (isP n) xs rest ks))
    (cSh : ∀ W, Below w.heap.size w W → Calls Tryz.prog 48 #[.agg #[.int .i64 k, .string ⟨x.toArray⟩, .int .i64 m, .slice ao ks.length c], .int .i64 s] W (OutH W (xs, rest, tx, true))) :
    Calls Tryz.prog 28 #[.agg #[.int .i64 k, .string ⟨x.toArray⟩, .int .i64 m, .slice ao ks.length c], .int .i64 s] w fun e w' => e = .returned (.bool (isP (n + 1) (.mk k x m ks) s)) ∧ Below w.heap.size w w' := by
  have hX0 := Hx.start (w := w) (c0 := .int .i64 k) (c1 := .string ⟨x.toArray⟩) (c2 := .int .i64 m) (c3 := .slice ao ks.length c)
  have r0 : (rest == 0) = false := beq_false_of_ne hr
  have d1 : decide (ks.length < xs.length) = false := decide_eq_false (by omega)
  subst hm
  subst ht hx
  clear hr
  go_enter Tryz.func28, Tryz.ntmps28
  go_wp2_with (first
    | (go_at_call 48; refine (cSh _ hX0.out).mono ?_; rintro e w1 ⟨sl1, rfl, hs1, hb1⟩
       have hX1 := hX0.next hb1
       have hx1 := hX1.cells
       obtain ⟨ao1, c1, rfl, hc1⟩ := hs1
       obtain ⟨x0, x1, x2, x3⟩ := hx1)
    | (go_at_call 49; refine (numK_any k _).mono ?_; rintro e w2 ⟨rfl, rfl⟩)
    | (go_at_call 50; refine (nmR_any ⟨([] : List UInt8).toArray⟩ _hxm _).mono ?_; rintro e w3 ⟨rfl, hb3⟩
       have hX3 := hX1.next hb3
       clear x0 x1 x2 x3
       obtain ⟨x0, x1, x2, x3⟩ := hX3.cells))
  go_loopw [9, 10] (fun v9 v10 wr => ∃ j : Nat, j ≤ ks.length ∧ v9 = .int .i64 j ∧ Below w1.heap.size w1 wr ∧ Hid (∀ (i : Nat) a, i < j → ks[i]? = some a → isP n a ((xs[i]?).getD rest) = true)) (fun v9 _ _ => ks.length - (intOf v9).toNat)
  case atStart => exact ⟨0, Nat.zero_le _, rfl, Below.refl _ _, Lib.hid fun i a h => absurd h (Nat.not_lt_zero _)⟩
  case round =>
    obtain ⟨j, hj, rfl, hbr, HP⟩ := hrel
    have hX := hX1.next hbr
    clear x0 x1 x2 x3
    obtain ⟨x0, x1, x2, x3⟩ := hX.cells
    by_cases hlt : j < ks.length
    · obtain ⟨a, ha⟩ : ∃ t, ks[j]? = some t := ⟨_, List.getElem?_eq_getElem hlt⟩
      obtain ⟨g, o, a0, n0, q0, hao, y0, y1, y2, y3, hg, hka⟩ := hL.kid ha hS
      subst hao
      have z0 := (hX.out.cell (p := ⟨g, o + j * 4, none⟩) hg).trans y0
      have z1 := (hX.out.cell (p := ⟨g, o + j * 4 + 1, none⟩) hg).trans y1
      have z2 := (hX.out.cell (p := ⟨g, o + j * 4 + 2, none⟩) hg).trans y2
      have z3 := (hX.out.cell (p := ⟨g, o + j * 4 + 3, none⟩) hg).trans y3
      have hFa := hF3 a (List.mem_of_getElem? ha)
      have HA := Lib.hid ha
      have hka' : KT wr S a (.slice a0 n0 q0) := hka.fr (fun b hb => hX.out.block b (hS b hb)) (fun _ h => h)
      obtain ⟨ak, av, am, aks⟩ := a
      obtain ⟨_, _, e⟩ := (Lst.of hka').slice
      injection e with e4 e5 e7
      clear e4 e7
      subst e5
      have cI := fun s' => HI.out ak av am aks a0 q0 s' S wr hFa (fun b hb => Nat.lt_of_lt_of_le (hS b hb) hX.out.size) hka'
      simp only [Tr.kind, Tr.text, Tr.num] at z0 z1 z2
      clear ha hka hka' hFa y0 y1 y2 y3
      by_cases hjx : j < xs.length
      · obtain ⟨u, hu⟩ : ∃ u, xs[j]? = some u := ⟨_, List.getElem?_eq_getElem hjx⟩
        obtain ⟨g1, o1, hao1, _, hcu⟩ := hc1 j u hu
        have hd : decide ((j : Int) < xs.length) = true := decide_eq_true (by omega)
        have zu : wr.cell? ⟨g1, o1 + j, none⟩ = some (.int .i64 u) := ((hbr.cell (p := ⟨g1, o1 + j, none⟩) (lt_of_cell (hcu))).trans (hcu))
        have HW : Hid ((xs[j]?).getD rest = u) := Lib.hid (by rw [hu]; rfl)
        clear hu hcu
        subst hao1
        cases hp : isP n (.mk ak av am aks) u with
        | false =>
          have HX : Hid (isP (n + 1) (.mk k [] 0 ks) s = false) := HR.out.trans (kidsP_false _ _ _ _ j _ HA.out (by rw [HW.out]; exact hp))
          have cI' := cI u
          rw [hp] at cI'
          clear hp cI
          go_wp2_with (go_at_call 28; refine cI'.mono ?_; rintro e w4 ⟨rfl, hb4⟩)
          go_ret
          exact ⟨congrArg (fun b => Ending.returned (Value.bool b)) HX.out.symm, (hX.next hb4).out⟩
        | true =>
          have HP2 : Hid (∀ (i : Nat) a, i < j + 1 → ks[i]? = some a → isP n a ((xs[i]?).getD rest) = true) := Lib.hid (fun i a hi hia => by
            rcases Nat.lt_succ_iff_lt_or_eq.1 hi with h | h
            · exact HP.out i a h hia
            · subst h
              rw [HA.out] at hia
              injection hia with e
              subst e
              rw [HW.out]; exact hp)
          have cI' := cI u
          rw [hp] at cI'
          clear hp cI HP HA HW
          go_wp2_with (go_at_call 28; refine cI'.mono ?_; rintro e w4 ⟨rfl, hb4⟩)
          go_roundw
          case rel => exact ⟨j + 1, by omega, by go_num, hbr.trans (hb4.mono hbr.size), HP2⟩
          case measure => simp [intOf]; omega
      · have hd : decide ((j : Int) < xs.length) = false := decide_eq_false (by omega)
        have HW : Hid ((xs[j]?).getD rest = rest) := Lib.hid (by rw [List.getElem?_eq_none (by omega)]; rfl)
        cases hp : isP n (.mk ak av am aks) rest with
        | false =>
          have HX : Hid (isP (n + 1) (.mk k [] 0 ks) s = false) := HR.out.trans (kidsP_false _ _ _ _ j _ HA.out (by rw [HW.out]; exact hp))
          have cI' := cI rest
          rw [hp] at cI'
          clear hp cI
          go_wp2_with (go_at_call 28; refine cI'.mono ?_; rintro e w4 ⟨rfl, hb4⟩)
          go_ret
          exact ⟨congrArg (fun b => Ending.returned (Value.bool b)) HX.out.symm, (hX.next hb4).out⟩
        | true =>
          have HP2 : Hid (∀ (i : Nat) a, i < j + 1 → ks[i]? = some a → isP n a ((xs[i]?).getD rest) = true) := Lib.hid (fun i a hi hia => by
            rcases Nat.lt_succ_iff_lt_or_eq.1 hi with h | h
            · exact HP.out i a h hia
            · subst h
              rw [HA.out] at hia
              injection hia with e
              subst e
              rw [HW.out]; exact hp)
          have cI' := cI rest
          rw [hp] at cI'
          clear hp cI HP HA HW
          go_wp2_with (go_at_call 28; refine cI'.mono ?_; rintro e w4 ⟨rfl, hb4⟩)
          go_roundw
          case rel => exact ⟨j + 1, by omega, by go_num, hbr.trans (hb4.mono hbr.size), HP2⟩
          case measure => simp [intOf]; omega
    · have HX : Hid (isP (n + 1) (.mk k [] 0 ks) s = true) := HR.out.trans (kidsP_true _ _ _ _ fun i a ha => HP.out i a (by
        have := (List.getElem?_eq_some_iff.1 ha).1; omega) ha)
      go_wp2
      go_ret
      exact ⟨congrArg (fun b => Ending.returned (Value.bool b)) HX.out.symm, hX.out⟩
set_option maxRecDepth 20000 in
set_option maxHeartbeats 8000000 in
theorem is_101 (n : Nat) (HI : Hid (∀ (k : Int) (x : List UInt8) (m : Int) (ks : List Tr) (ao : Option Addr) (c : Nat) (s : Int) (S : Nat → Prop) (w : World), Fit n (.mk k x m ks) → (∀ b, S b → b < w.heap.size) → KT w S (.mk k x m ks) (.slice ao ks.length c) →
    Calls Tryz.prog 28 #[.agg #[.int .i64 k, .string ⟨x.toArray⟩, .int .i64 m, .slice ao ks.length c], .int .i64 s] w fun e w' => e = .returned (.bool (isP n (.mk k x m ks) s)) ∧ Below w.heap.size w w'))
    (k : Int) (x : List UInt8) (m : Int) (ks : List Tr) (ao : Option Addr) (c : Nat) (s : Int) (S : Nat → Prop) (w : World) (hF1 : ks.length ≤ 20000) (hxm : (⟨x.toArray⟩ : ByteArray).size ≤ maxLen) (hF3 : ∀ t ∈ ks, Fit n t) (hS : ∀ b, S b → b < w.heap.size) (hL : Lst w S ks (.slice ao ks.length c))
    (xs : List Int) (rest tx : Int) (hr : rest ≠ 0) (h1 : xs.length ≤ ks.length) (hm : m = 0) (ht : tx = 1) (hx : nameP x = true) (HR : Hid (isP (n + 1) (.mk k x m ks) s = kidsP (isP n) xs rest ks))
    (cSh : ∀ W, Below w.heap.size w W → Calls Tryz.prog 48 #[.agg #[.int .i64 k, .string ⟨x.toArray⟩, .int .i64 m, .slice ao ks.length c], .int .i64 s] W (OutH W (xs, rest, tx, true))) :
    Calls Tryz.prog 28 #[.agg #[.int .i64 k, .string ⟨x.toArray⟩, .int .i64 m, .slice ao ks.length c], .int .i64 s] w fun e w' => e = .returned (.bool (isP (n + 1) (.mk k x m ks) s)) ∧ Below w.heap.size w w' := by
  have hX0 := Hx.start (w := w) (c0 := .int .i64 k) (c1 := .string ⟨x.toArray⟩) (c2 := .int .i64 m) (c3 := .slice ao ks.length c)
  have r0 : (rest == 0) = false := beq_false_of_ne hr
  have d1 : decide (ks.length < xs.length) = false := decide_eq_false (by omega)
  subst hm
  subst ht
  have nmT : ∀ W : World, Calls Tryz.prog 50 #[.string ⟨x.toArray⟩] W fun e w' => e = .returned (.bool true) ∧ Below W.heap.size W w' := fun W => by have h := nmR_any ⟨x.toArray⟩ hxm W; rw [show nameP (⟨x.toArray⟩ : ByteArray).data.toList = true from hx] at h; exact h
  clear hr
  go_enter Tryz.func28, Tryz.ntmps28
  go_wp2_with (first
    | (go_at_call 48; refine (cSh _ hX0.out).mono ?_; rintro e w1 ⟨sl1, rfl, hs1, hb1⟩
       have hX1 := hX0.next hb1
       have hx1 := hX1.cells
       obtain ⟨ao1, c1, rfl, hc1⟩ := hs1
       obtain ⟨x0, x1, x2, x3⟩ := hx1)
    | (go_at_call 49; refine (numK_any k _).mono ?_; rintro e w2 ⟨rfl, rfl⟩)
    | (go_at_call 50; refine (nmT _).mono ?_; rintro e w3 ⟨rfl, hb3⟩
       have hX3 := hX1.next hb3
       clear x0 x1 x2 x3
       obtain ⟨x0, x1, x2, x3⟩ := hX3.cells))
  go_loopw [9, 10] (fun v9 v10 wr => ∃ j : Nat, j ≤ ks.length ∧ v9 = .int .i64 j ∧ Below w3.heap.size w3 wr ∧ Hid (∀ (i : Nat) a, i < j → ks[i]? = some a → isP n a ((xs[i]?).getD rest) = true)) (fun v9 _ _ => ks.length - (intOf v9).toNat)
  case atStart => exact ⟨0, Nat.zero_le _, rfl, Below.refl _ _, Lib.hid fun i a h => absurd h (Nat.not_lt_zero _)⟩
  case round =>
    obtain ⟨j, hj, rfl, hbr, HP⟩ := hrel
    have hX := hX3.next hbr
    clear x0 x1 x2 x3
    obtain ⟨x0, x1, x2, x3⟩ := hX.cells
    by_cases hlt : j < ks.length
    · obtain ⟨a, ha⟩ : ∃ t, ks[j]? = some t := ⟨_, List.getElem?_eq_getElem hlt⟩
      obtain ⟨g, o, a0, n0, q0, hao, y0, y1, y2, y3, hg, hka⟩ := hL.kid ha hS
      subst hao
      have z0 := (hX.out.cell (p := ⟨g, o + j * 4, none⟩) hg).trans y0
      have z1 := (hX.out.cell (p := ⟨g, o + j * 4 + 1, none⟩) hg).trans y1
      have z2 := (hX.out.cell (p := ⟨g, o + j * 4 + 2, none⟩) hg).trans y2
      have z3 := (hX.out.cell (p := ⟨g, o + j * 4 + 3, none⟩) hg).trans y3
      have hFa := hF3 a (List.mem_of_getElem? ha)
      have HA := Lib.hid ha
      have hka' : KT wr S a (.slice a0 n0 q0) := hka.fr (fun b hb => hX.out.block b (hS b hb)) (fun _ h => h)
      obtain ⟨ak, av, am, aks⟩ := a
      obtain ⟨_, _, e⟩ := (Lst.of hka').slice
      injection e with e4 e5 e7
      clear e4 e7
      subst e5
      have cI := fun s' => HI.out ak av am aks a0 q0 s' S wr hFa (fun b hb => Nat.lt_of_lt_of_le (hS b hb) hX.out.size) hka'
      simp only [Tr.kind, Tr.text, Tr.num] at z0 z1 z2
      clear ha hka hka' hFa y0 y1 y2 y3
      by_cases hjx : j < xs.length
      · obtain ⟨u, hu⟩ : ∃ u, xs[j]? = some u := ⟨_, List.getElem?_eq_getElem hjx⟩
        obtain ⟨g1, o1, hao1, _, hcu⟩ := hc1 j u hu
        have hd : decide ((j : Int) < xs.length) = true := decide_eq_true (by omega)
        have zu : wr.cell? ⟨g1, o1 + j, none⟩ = some (.int .i64 u) := ((hbr.cell (p := ⟨g1, o1 + j, none⟩) (lt_of_cell ((hb3.cell (p := ⟨g1, o1 + j, none⟩) (lt_of_cell hcu)).trans hcu))).trans ((hb3.cell (p := ⟨g1, o1 + j, none⟩) (lt_of_cell hcu)).trans hcu))
        have HW : Hid ((xs[j]?).getD rest = u) := Lib.hid (by rw [hu]; rfl)
        clear hu hcu
        subst hao1
        cases hp : isP n (.mk ak av am aks) u with
        | false =>
          have HX : Hid (isP (n + 1) (.mk k x 0 ks) s = false) := HR.out.trans (kidsP_false _ _ _ _ j _ HA.out (by rw [HW.out]; exact hp))
          have cI' := cI u
          rw [hp] at cI'
          clear hp cI
          go_wp2_with (go_at_call 28; refine cI'.mono ?_; rintro e w4 ⟨rfl, hb4⟩)
          go_ret
          exact ⟨congrArg (fun b => Ending.returned (Value.bool b)) HX.out.symm, (hX.next hb4).out⟩
        | true =>
          have HP2 : Hid (∀ (i : Nat) a, i < j + 1 → ks[i]? = some a → isP n a ((xs[i]?).getD rest) = true) := Lib.hid (fun i a hi hia => by
            rcases Nat.lt_succ_iff_lt_or_eq.1 hi with h | h
            · exact HP.out i a h hia
            · subst h
              rw [HA.out] at hia
              injection hia with e
              subst e
              rw [HW.out]; exact hp)
          have cI' := cI u
          rw [hp] at cI'
          clear hp cI HP HA HW
          go_wp2_with (go_at_call 28; refine cI'.mono ?_; rintro e w4 ⟨rfl, hb4⟩)
          go_roundw
          case rel => exact ⟨j + 1, by omega, by go_num, hbr.trans (hb4.mono hbr.size), HP2⟩
          case measure => simp [intOf]; omega
      · have hd : decide ((j : Int) < xs.length) = false := decide_eq_false (by omega)
        have HW : Hid ((xs[j]?).getD rest = rest) := Lib.hid (by rw [List.getElem?_eq_none (by omega)]; rfl)
        cases hp : isP n (.mk ak av am aks) rest with
        | false =>
          have HX : Hid (isP (n + 1) (.mk k x 0 ks) s = false) := HR.out.trans (kidsP_false _ _ _ _ j _ HA.out (by rw [HW.out]; exact hp))
          have cI' := cI rest
          rw [hp] at cI'
          clear hp cI
          go_wp2_with (go_at_call 28; refine cI'.mono ?_; rintro e w4 ⟨rfl, hb4⟩)
          go_ret
          exact ⟨congrArg (fun b => Ending.returned (Value.bool b)) HX.out.symm, (hX.next hb4).out⟩
        | true =>
          have HP2 : Hid (∀ (i : Nat) a, i < j + 1 → ks[i]? = some a → isP n a ((xs[i]?).getD rest) = true) := Lib.hid (fun i a hi hia => by
            rcases Nat.lt_succ_iff_lt_or_eq.1 hi with h | h
            · exact HP.out i a h hia
            · subst h
              rw [HA.out] at hia
              injection hia with e
              subst e
              rw [HW.out]; exact hp)
          have cI' := cI rest
          rw [hp] at cI'
          clear hp cI HP HA HW
          go_wp2_with (go_at_call 28; refine cI'.mono ?_; rintro e w4 ⟨rfl, hb4⟩)
          go_roundw
          case rel => exact ⟨j + 1, by omega, by go_num, hbr.trans (hb4.mono hbr.size), HP2⟩
          case measure => simp [intOf]; omega
    · have HX : Hid (isP (n + 1) (.mk k x 0 ks) s = true) := HR.out.trans (kidsP_true _ _ _ _ fun i a ha => HP.out i a (by
        have := (List.getElem?_eq_some_iff.1 ha).1; omega) ha)
      go_wp2
      go_ret
      exact ⟨congrArg (fun b => Ending.returned (Value.bool b)) HX.out.symm, hX.out⟩
set_option maxRecDepth 20000 in
set_option maxHeartbeats 8000000 in
theorem is_102 (n : Nat) (HI : Hid (∀ (k : Int) (x : List UInt8) (m : Int) (ks : List Tr) (ao : Option Addr) (c : Nat) (s : Int) (S : Nat → Prop) (w : World), Fit n (.mk k x m ks) → (∀ b, S b → b < w.heap.size) → KT w S (.mk k x m ks) (.slice ao ks.length c) →
    Calls Tryz.prog 28 #[.agg #[.int .i64 k, .string ⟨x.toArray⟩, .int .i64 m, .slice ao ks.length c], .int .i64 s] w fun e w' => e = .returned (.bool (isP n (.mk k x m ks) s)) ∧ Below w.heap.size w w'))
    (k : Int) (x : List UInt8) (m : Int) (ks : List Tr) (ao : Option Addr) (c : Nat) (s : Int) (S : Nat → Prop) (w : World) (hF1 : ks.length ≤ 20000) (_hxm : (⟨x.toArray⟩ : ByteArray).size ≤ maxLen) (hF3 : ∀ t ∈ ks, Fit n t) (hS : ∀ b, S b → b < w.heap.size) (hL : Lst w S ks (.slice ao ks.length c))
    (xs : List Int) (rest tx : Int) (hr : rest ≠ 0) (h1 : xs.length ≤ ks.length) (hm : m = 0) (t0 : (tx == 0) = false) (t1 : (tx == 1) = false) (HR : Hid (isP (n + 1) (.mk k x m ks) s = kidsP (isP n) xs rest ks))
    (cSh : ∀ W, Below w.heap.size w W → Calls Tryz.prog 48 #[.agg #[.int .i64 k, .string ⟨x.toArray⟩, .int .i64 m, .slice ao ks.length c], .int .i64 s] W (OutH W (xs, rest, tx, true))) :
    Calls Tryz.prog 28 #[.agg #[.int .i64 k, .string ⟨x.toArray⟩, .int .i64 m, .slice ao ks.length c], .int .i64 s] w fun e w' => e = .returned (.bool (isP (n + 1) (.mk k x m ks) s)) ∧ Below w.heap.size w w' := by
  have hX0 := Hx.start (w := w) (c0 := .int .i64 k) (c1 := .string ⟨x.toArray⟩) (c2 := .int .i64 m) (c3 := .slice ao ks.length c)
  have r0 : (rest == 0) = false := beq_false_of_ne hr
  have d1 : decide (ks.length < xs.length) = false := decide_eq_false (by omega)
  subst hm
  clear hr
  go_enter Tryz.func28, Tryz.ntmps28
  go_wp2_with (first
    | (go_at_call 48; refine (cSh _ hX0.out).mono ?_; rintro e w1 ⟨sl1, rfl, hs1, hb1⟩
       have hX1 := hX0.next hb1
       have hx1 := hX1.cells
       obtain ⟨ao1, c1, rfl, hc1⟩ := hs1
       obtain ⟨x0, x1, x2, x3⟩ := hx1)
    | (go_at_call 49; refine (numK_any k _).mono ?_; rintro e w2 ⟨rfl, rfl⟩)
    | (go_at_call 50; refine (nmR_any ⟨x.toArray⟩ _hxm _).mono ?_; rintro e w3 ⟨rfl, hb3⟩
       have hX3 := hX1.next hb3
       clear x0 x1 x2 x3
       obtain ⟨x0, x1, x2, x3⟩ := hX3.cells))
  go_loopw [9, 10] (fun v9 v10 wr => ∃ j : Nat, j ≤ ks.length ∧ v9 = .int .i64 j ∧ Below w1.heap.size w1 wr ∧ Hid (∀ (i : Nat) a, i < j → ks[i]? = some a → isP n a ((xs[i]?).getD rest) = true)) (fun v9 _ _ => ks.length - (intOf v9).toNat)
  case atStart => exact ⟨0, Nat.zero_le _, rfl, Below.refl _ _, Lib.hid fun i a h => absurd h (Nat.not_lt_zero _)⟩
  case round =>
    obtain ⟨j, hj, rfl, hbr, HP⟩ := hrel
    have hX := hX1.next hbr
    clear x0 x1 x2 x3
    obtain ⟨x0, x1, x2, x3⟩ := hX.cells
    by_cases hlt : j < ks.length
    · obtain ⟨a, ha⟩ : ∃ t, ks[j]? = some t := ⟨_, List.getElem?_eq_getElem hlt⟩
      obtain ⟨g, o, a0, n0, q0, hao, y0, y1, y2, y3, hg, hka⟩ := hL.kid ha hS
      subst hao
      have z0 := (hX.out.cell (p := ⟨g, o + j * 4, none⟩) hg).trans y0
      have z1 := (hX.out.cell (p := ⟨g, o + j * 4 + 1, none⟩) hg).trans y1
      have z2 := (hX.out.cell (p := ⟨g, o + j * 4 + 2, none⟩) hg).trans y2
      have z3 := (hX.out.cell (p := ⟨g, o + j * 4 + 3, none⟩) hg).trans y3
      have hFa := hF3 a (List.mem_of_getElem? ha)
      have HA := Lib.hid ha
      have hka' : KT wr S a (.slice a0 n0 q0) := hka.fr (fun b hb => hX.out.block b (hS b hb)) (fun _ h => h)
      obtain ⟨ak, av, am, aks⟩ := a
      obtain ⟨_, _, e⟩ := (Lst.of hka').slice
      injection e with e4 e5 e7
      clear e4 e7
      subst e5
      have cI := fun s' => HI.out ak av am aks a0 q0 s' S wr hFa (fun b hb => Nat.lt_of_lt_of_le (hS b hb) hX.out.size) hka'
      simp only [Tr.kind, Tr.text, Tr.num] at z0 z1 z2
      clear ha hka hka' hFa y0 y1 y2 y3
      by_cases hjx : j < xs.length
      · obtain ⟨u, hu⟩ : ∃ u, xs[j]? = some u := ⟨_, List.getElem?_eq_getElem hjx⟩
        obtain ⟨g1, o1, hao1, _, hcu⟩ := hc1 j u hu
        have hd : decide ((j : Int) < xs.length) = true := decide_eq_true (by omega)
        have zu : wr.cell? ⟨g1, o1 + j, none⟩ = some (.int .i64 u) := ((hbr.cell (p := ⟨g1, o1 + j, none⟩) (lt_of_cell (hcu))).trans (hcu))
        have HW : Hid ((xs[j]?).getD rest = u) := Lib.hid (by rw [hu]; rfl)
        clear hu hcu
        subst hao1
        cases hp : isP n (.mk ak av am aks) u with
        | false =>
          have HX : Hid (isP (n + 1) (.mk k x 0 ks) s = false) := HR.out.trans (kidsP_false _ _ _ _ j _ HA.out (by rw [HW.out]; exact hp))
          have cI' := cI u
          rw [hp] at cI'
          clear hp cI
          go_wp2_with (go_at_call 28; refine cI'.mono ?_; rintro e w4 ⟨rfl, hb4⟩)
          go_ret
          exact ⟨congrArg (fun b => Ending.returned (Value.bool b)) HX.out.symm, (hX.next hb4).out⟩
        | true =>
          have HP2 : Hid (∀ (i : Nat) a, i < j + 1 → ks[i]? = some a → isP n a ((xs[i]?).getD rest) = true) := Lib.hid (fun i a hi hia => by
            rcases Nat.lt_succ_iff_lt_or_eq.1 hi with h | h
            · exact HP.out i a h hia
            · subst h
              rw [HA.out] at hia
              injection hia with e
              subst e
              rw [HW.out]; exact hp)
          have cI' := cI u
          rw [hp] at cI'
          clear hp cI HP HA HW
          go_wp2_with (go_at_call 28; refine cI'.mono ?_; rintro e w4 ⟨rfl, hb4⟩)
          go_roundw
          case rel => exact ⟨j + 1, by omega, by go_num, hbr.trans (hb4.mono hbr.size), HP2⟩
          case measure => simp [intOf]; omega
      · have hd : decide ((j : Int) < xs.length) = false := decide_eq_false (by omega)
        have HW : Hid ((xs[j]?).getD rest = rest) := Lib.hid (by rw [List.getElem?_eq_none (by omega)]; rfl)
        cases hp : isP n (.mk ak av am aks) rest with
        | false =>
          have HX : Hid (isP (n + 1) (.mk k x 0 ks) s = false) := HR.out.trans (kidsP_false _ _ _ _ j _ HA.out (by rw [HW.out]; exact hp))
          have cI' := cI rest
          rw [hp] at cI'
          clear hp cI
          go_wp2_with (go_at_call 28; refine cI'.mono ?_; rintro e w4 ⟨rfl, hb4⟩)
          go_ret
          exact ⟨congrArg (fun b => Ending.returned (Value.bool b)) HX.out.symm, (hX.next hb4).out⟩
        | true =>
          have HP2 : Hid (∀ (i : Nat) a, i < j + 1 → ks[i]? = some a → isP n a ((xs[i]?).getD rest) = true) := Lib.hid (fun i a hi hia => by
            rcases Nat.lt_succ_iff_lt_or_eq.1 hi with h | h
            · exact HP.out i a h hia
            · subst h
              rw [HA.out] at hia
              injection hia with e
              subst e
              rw [HW.out]; exact hp)
          have cI' := cI rest
          rw [hp] at cI'
          clear hp cI HP HA HW
          go_wp2_with (go_at_call 28; refine cI'.mono ?_; rintro e w4 ⟨rfl, hb4⟩)
          go_roundw
          case rel => exact ⟨j + 1, by omega, by go_num, hbr.trans (hb4.mono hbr.size), HP2⟩
          case measure => simp [intOf]; omega
    · have HX : Hid (isP (n + 1) (.mk k x 0 ks) s = true) := HR.out.trans (kidsP_true _ _ _ _ fun i a ha => HP.out i a (by
        have := (List.getElem?_eq_some_iff.1 ha).1; omega) ha)
      go_wp2
      go_ret
      exact ⟨congrArg (fun b => Ending.returned (Value.bool b)) HX.out.symm, hX.out⟩
set_option maxRecDepth 20000 in
set_option maxHeartbeats 8000000 in
theorem is_110 (n : Nat) (HI : Hid (∀ (k : Int) (x : List UInt8) (m : Int) (ks : List Tr) (ao : Option Addr) (c : Nat) (s : Int) (S : Nat → Prop) (w : World), Fit n (.mk k x m ks) → (∀ b, S b → b < w.heap.size) → KT w S (.mk k x m ks) (.slice ao ks.length c) →
    Calls Tryz.prog 28 #[.agg #[.int .i64 k, .string ⟨x.toArray⟩, .int .i64 m, .slice ao ks.length c], .int .i64 s] w fun e w' => e = .returned (.bool (isP n (.mk k x m ks) s)) ∧ Below w.heap.size w w'))
    (k : Int) (x : List UInt8) (m : Int) (ks : List Tr) (ao : Option Addr) (c : Nat) (s : Int) (S : Nat → Prop) (w : World) (hF1 : ks.length ≤ 20000) (_hxm : (⟨x.toArray⟩ : ByteArray).size ≤ maxLen) (hF3 : ∀ t ∈ ks, Fit n t) (hS : ∀ b, S b → b < w.heap.size) (hL : Lst w S ks (.slice ao ks.length c))
    (xs : List Int) (rest tx : Int) (hr : rest ≠ 0) (h1 : xs.length ≤ ks.length) (hm : m ≠ 0) (hk2 : numK k = true) (ht : tx = 0) (hx : x = []) (HR : Hid (isP (n + 1) (.mk k x m ks) s = kidsP (isP n) xs rest ks))
    (cSh : ∀ W, Below w.heap.size w W → Calls Tryz.prog 48 #[.agg #[.int .i64 k, .string ⟨x.toArray⟩, .int .i64 m, .slice ao ks.length c], .int .i64 s] W (OutH W (xs, rest, tx, true))) :
    Calls Tryz.prog 28 #[.agg #[.int .i64 k, .string ⟨x.toArray⟩, .int .i64 m, .slice ao ks.length c], .int .i64 s] w fun e w' => e = .returned (.bool (isP (n + 1) (.mk k x m ks) s)) ∧ Below w.heap.size w w' := by
  have hX0 := Hx.start (w := w) (c0 := .int .i64 k) (c1 := .string ⟨x.toArray⟩) (c2 := .int .i64 m) (c3 := .slice ao ks.length c)
  have r0 : (rest == 0) = false := beq_false_of_ne hr
  have d1 : decide (ks.length < xs.length) = false := decide_eq_false (by omega)
  have m0 : (m != 0) = true := by simp [hm]
  subst ht hx
  have nkT : ∀ W : World, Calls Tryz.prog 49 #[.int .i64 k] W fun e w' => e = .returned (.bool true) ∧ w' = W := fun W => by have h := numK_any k W; rw [hk2] at h; exact h
  clear hr
  go_enter Tryz.func28, Tryz.ntmps28
  go_wp2_with (first
    | (go_at_call 48; refine (cSh _ hX0.out).mono ?_; rintro e w1 ⟨sl1, rfl, hs1, hb1⟩
       have hX1 := hX0.next hb1
       have hx1 := hX1.cells
       obtain ⟨ao1, c1, rfl, hc1⟩ := hs1
       obtain ⟨x0, x1, x2, x3⟩ := hx1)
    | (go_at_call 49; refine (nkT _).mono ?_; rintro e w2 ⟨rfl, hw2⟩; obtain rfl := hw2.symm)
    | (go_at_call 50; refine (nmR_any ⟨([] : List UInt8).toArray⟩ _hxm _).mono ?_; rintro e w3 ⟨rfl, hb3⟩
       have hX3 := hX1.next hb3
       clear x0 x1 x2 x3
       obtain ⟨x0, x1, x2, x3⟩ := hX3.cells))
  go_loopw [9, 10] (fun v9 v10 wr => ∃ j : Nat, j ≤ ks.length ∧ v9 = .int .i64 j ∧ Below w1.heap.size w1 wr ∧ Hid (∀ (i : Nat) a, i < j → ks[i]? = some a → isP n a ((xs[i]?).getD rest) = true)) (fun v9 _ _ => ks.length - (intOf v9).toNat)
  case atStart => exact ⟨0, Nat.zero_le _, rfl, Below.refl _ _, Lib.hid fun i a h => absurd h (Nat.not_lt_zero _)⟩
  case round =>
    obtain ⟨j, hj, rfl, hbr, HP⟩ := hrel
    have hX := hX1.next hbr
    clear x0 x1 x2 x3
    obtain ⟨x0, x1, x2, x3⟩ := hX.cells
    by_cases hlt : j < ks.length
    · obtain ⟨a, ha⟩ : ∃ t, ks[j]? = some t := ⟨_, List.getElem?_eq_getElem hlt⟩
      obtain ⟨g, o, a0, n0, q0, hao, y0, y1, y2, y3, hg, hka⟩ := hL.kid ha hS
      subst hao
      have z0 := (hX.out.cell (p := ⟨g, o + j * 4, none⟩) hg).trans y0
      have z1 := (hX.out.cell (p := ⟨g, o + j * 4 + 1, none⟩) hg).trans y1
      have z2 := (hX.out.cell (p := ⟨g, o + j * 4 + 2, none⟩) hg).trans y2
      have z3 := (hX.out.cell (p := ⟨g, o + j * 4 + 3, none⟩) hg).trans y3
      have hFa := hF3 a (List.mem_of_getElem? ha)
      have HA := Lib.hid ha
      have hka' : KT wr S a (.slice a0 n0 q0) := hka.fr (fun b hb => hX.out.block b (hS b hb)) (fun _ h => h)
      obtain ⟨ak, av, am, aks⟩ := a
      obtain ⟨_, _, e⟩ := (Lst.of hka').slice
      injection e with e4 e5 e7
      clear e4 e7
      subst e5
      have cI := fun s' => HI.out ak av am aks a0 q0 s' S wr hFa (fun b hb => Nat.lt_of_lt_of_le (hS b hb) hX.out.size) hka'
      simp only [Tr.kind, Tr.text, Tr.num] at z0 z1 z2
      clear ha hka hka' hFa y0 y1 y2 y3
      by_cases hjx : j < xs.length
      · obtain ⟨u, hu⟩ : ∃ u, xs[j]? = some u := ⟨_, List.getElem?_eq_getElem hjx⟩
        obtain ⟨g1, o1, hao1, _, hcu⟩ := hc1 j u hu
        have hd : decide ((j : Int) < xs.length) = true := decide_eq_true (by omega)
        have zu : wr.cell? ⟨g1, o1 + j, none⟩ = some (.int .i64 u) := ((hbr.cell (p := ⟨g1, o1 + j, none⟩) (lt_of_cell (hcu))).trans (hcu))
        have HW : Hid ((xs[j]?).getD rest = u) := Lib.hid (by rw [hu]; rfl)
        clear hu hcu
        subst hao1
        cases hp : isP n (.mk ak av am aks) u with
        | false =>
          have HX : Hid (isP (n + 1) (.mk k [] m ks) s = false) := HR.out.trans (kidsP_false _ _ _ _ j _ HA.out (by rw [HW.out]; exact hp))
          have cI' := cI u
          rw [hp] at cI'
          clear hp cI
          go_wp2_with (go_at_call 28; refine cI'.mono ?_; rintro e w4 ⟨rfl, hb4⟩)
          go_ret
          exact ⟨congrArg (fun b => Ending.returned (Value.bool b)) HX.out.symm, (hX.next hb4).out⟩
        | true =>
          have HP2 : Hid (∀ (i : Nat) a, i < j + 1 → ks[i]? = some a → isP n a ((xs[i]?).getD rest) = true) := Lib.hid (fun i a hi hia => by
            rcases Nat.lt_succ_iff_lt_or_eq.1 hi with h | h
            · exact HP.out i a h hia
            · subst h
              rw [HA.out] at hia
              injection hia with e
              subst e
              rw [HW.out]; exact hp)
          have cI' := cI u
          rw [hp] at cI'
          clear hp cI HP HA HW
          go_wp2_with (go_at_call 28; refine cI'.mono ?_; rintro e w4 ⟨rfl, hb4⟩)
          go_roundw
          case rel => exact ⟨j + 1, by omega, by go_num, hbr.trans (hb4.mono hbr.size), HP2⟩
          case measure => simp [intOf]; omega
      · have hd : decide ((j : Int) < xs.length) = false := decide_eq_false (by omega)
        have HW : Hid ((xs[j]?).getD rest = rest) := Lib.hid (by rw [List.getElem?_eq_none (by omega)]; rfl)
        cases hp : isP n (.mk ak av am aks) rest with
        | false =>
          have HX : Hid (isP (n + 1) (.mk k [] m ks) s = false) := HR.out.trans (kidsP_false _ _ _ _ j _ HA.out (by rw [HW.out]; exact hp))
          have cI' := cI rest
          rw [hp] at cI'
          clear hp cI
          go_wp2_with (go_at_call 28; refine cI'.mono ?_; rintro e w4 ⟨rfl, hb4⟩)
          go_ret
          exact ⟨congrArg (fun b => Ending.returned (Value.bool b)) HX.out.symm, (hX.next hb4).out⟩
        | true =>
          have HP2 : Hid (∀ (i : Nat) a, i < j + 1 → ks[i]? = some a → isP n a ((xs[i]?).getD rest) = true) := Lib.hid (fun i a hi hia => by
            rcases Nat.lt_succ_iff_lt_or_eq.1 hi with h | h
            · exact HP.out i a h hia
            · subst h
              rw [HA.out] at hia
              injection hia with e
              subst e
              rw [HW.out]; exact hp)
          have cI' := cI rest
          rw [hp] at cI'
          clear hp cI HP HA HW
          go_wp2_with (go_at_call 28; refine cI'.mono ?_; rintro e w4 ⟨rfl, hb4⟩)
          go_roundw
          case rel => exact ⟨j + 1, by omega, by go_num, hbr.trans (hb4.mono hbr.size), HP2⟩
          case measure => simp [intOf]; omega
    · have HX : Hid (isP (n + 1) (.mk k [] m ks) s = true) := HR.out.trans (kidsP_true _ _ _ _ fun i a ha => HP.out i a (by
        have := (List.getElem?_eq_some_iff.1 ha).1; omega) ha)
      go_wp2
      go_ret
      exact ⟨congrArg (fun b => Ending.returned (Value.bool b)) HX.out.symm, hX.out⟩
set_option maxRecDepth 20000 in
set_option maxHeartbeats 8000000 in
theorem is_111 (n : Nat) (HI : Hid (∀ (k : Int) (x : List UInt8) (m : Int) (ks : List Tr) (ao : Option Addr) (c : Nat) (s : Int) (S : Nat → Prop) (w : World), Fit n (.mk k x m ks) → (∀ b, S b → b < w.heap.size) → KT w S (.mk k x m ks) (.slice ao ks.length c) →
    Calls Tryz.prog 28 #[.agg #[.int .i64 k, .string ⟨x.toArray⟩, .int .i64 m, .slice ao ks.length c], .int .i64 s] w fun e w' => e = .returned (.bool (isP n (.mk k x m ks) s)) ∧ Below w.heap.size w w'))
    (k : Int) (x : List UInt8) (m : Int) (ks : List Tr) (ao : Option Addr) (c : Nat) (s : Int) (S : Nat → Prop) (w : World) (hF1 : ks.length ≤ 20000) (hxm : (⟨x.toArray⟩ : ByteArray).size ≤ maxLen) (hF3 : ∀ t ∈ ks, Fit n t) (hS : ∀ b, S b → b < w.heap.size) (hL : Lst w S ks (.slice ao ks.length c))
    (xs : List Int) (rest tx : Int) (hr : rest ≠ 0) (h1 : xs.length ≤ ks.length) (hm : m ≠ 0) (hk2 : numK k = true) (ht : tx = 1) (hx : nameP x = true) (HR : Hid (isP (n + 1) (.mk k x m ks) s = kidsP (isP n) xs rest ks))
    (cSh : ∀ W, Below w.heap.size w W → Calls Tryz.prog 48 #[.agg #[.int .i64 k, .string ⟨x.toArray⟩, .int .i64 m, .slice ao ks.length c], .int .i64 s] W (OutH W (xs, rest, tx, true))) :
    Calls Tryz.prog 28 #[.agg #[.int .i64 k, .string ⟨x.toArray⟩, .int .i64 m, .slice ao ks.length c], .int .i64 s] w fun e w' => e = .returned (.bool (isP (n + 1) (.mk k x m ks) s)) ∧ Below w.heap.size w w' := by
  have hX0 := Hx.start (w := w) (c0 := .int .i64 k) (c1 := .string ⟨x.toArray⟩) (c2 := .int .i64 m) (c3 := .slice ao ks.length c)
  have r0 : (rest == 0) = false := beq_false_of_ne hr
  have d1 : decide (ks.length < xs.length) = false := decide_eq_false (by omega)
  have m0 : (m != 0) = true := by simp [hm]
  subst ht
  have nkT : ∀ W : World, Calls Tryz.prog 49 #[.int .i64 k] W fun e w' => e = .returned (.bool true) ∧ w' = W := fun W => by have h := numK_any k W; rw [hk2] at h; exact h
  have nmT : ∀ W : World, Calls Tryz.prog 50 #[.string ⟨x.toArray⟩] W fun e w' => e = .returned (.bool true) ∧ Below W.heap.size W w' := fun W => by have h := nmR_any ⟨x.toArray⟩ hxm W; rw [show nameP (⟨x.toArray⟩ : ByteArray).data.toList = true from hx] at h; exact h
  clear hr
  go_enter Tryz.func28, Tryz.ntmps28
  go_wp2_with (first
    | (go_at_call 48; refine (cSh _ hX0.out).mono ?_; rintro e w1 ⟨sl1, rfl, hs1, hb1⟩
       have hX1 := hX0.next hb1
       have hx1 := hX1.cells
       obtain ⟨ao1, c1, rfl, hc1⟩ := hs1
       obtain ⟨x0, x1, x2, x3⟩ := hx1)
    | (go_at_call 49; refine (nkT _).mono ?_; rintro e w2 ⟨rfl, hw2⟩; obtain rfl := hw2.symm)
    | (go_at_call 50; refine (nmT _).mono ?_; rintro e w3 ⟨rfl, hb3⟩
       have hX3 := hX1.next hb3
       clear x0 x1 x2 x3
       obtain ⟨x0, x1, x2, x3⟩ := hX3.cells))
  go_loopw [9, 10] (fun v9 v10 wr => ∃ j : Nat, j ≤ ks.length ∧ v9 = .int .i64 j ∧ Below w3.heap.size w3 wr ∧ Hid (∀ (i : Nat) a, i < j → ks[i]? = some a → isP n a ((xs[i]?).getD rest) = true)) (fun v9 _ _ => ks.length - (intOf v9).toNat)
  case atStart => exact ⟨0, Nat.zero_le _, rfl, Below.refl _ _, Lib.hid fun i a h => absurd h (Nat.not_lt_zero _)⟩
  case round =>
    obtain ⟨j, hj, rfl, hbr, HP⟩ := hrel
    have hX := hX3.next hbr
    clear x0 x1 x2 x3
    obtain ⟨x0, x1, x2, x3⟩ := hX.cells
    by_cases hlt : j < ks.length
    · obtain ⟨a, ha⟩ : ∃ t, ks[j]? = some t := ⟨_, List.getElem?_eq_getElem hlt⟩
      obtain ⟨g, o, a0, n0, q0, hao, y0, y1, y2, y3, hg, hka⟩ := hL.kid ha hS
      subst hao
      have z0 := (hX.out.cell (p := ⟨g, o + j * 4, none⟩) hg).trans y0
      have z1 := (hX.out.cell (p := ⟨g, o + j * 4 + 1, none⟩) hg).trans y1
      have z2 := (hX.out.cell (p := ⟨g, o + j * 4 + 2, none⟩) hg).trans y2
      have z3 := (hX.out.cell (p := ⟨g, o + j * 4 + 3, none⟩) hg).trans y3
      have hFa := hF3 a (List.mem_of_getElem? ha)
      have HA := Lib.hid ha
      have hka' : KT wr S a (.slice a0 n0 q0) := hka.fr (fun b hb => hX.out.block b (hS b hb)) (fun _ h => h)
      obtain ⟨ak, av, am, aks⟩ := a
      obtain ⟨_, _, e⟩ := (Lst.of hka').slice
      injection e with e4 e5 e7
      clear e4 e7
      subst e5
      have cI := fun s' => HI.out ak av am aks a0 q0 s' S wr hFa (fun b hb => Nat.lt_of_lt_of_le (hS b hb) hX.out.size) hka'
      simp only [Tr.kind, Tr.text, Tr.num] at z0 z1 z2
      clear ha hka hka' hFa y0 y1 y2 y3
      by_cases hjx : j < xs.length
      · obtain ⟨u, hu⟩ : ∃ u, xs[j]? = some u := ⟨_, List.getElem?_eq_getElem hjx⟩
        obtain ⟨g1, o1, hao1, _, hcu⟩ := hc1 j u hu
        have hd : decide ((j : Int) < xs.length) = true := decide_eq_true (by omega)
        have zu : wr.cell? ⟨g1, o1 + j, none⟩ = some (.int .i64 u) := ((hbr.cell (p := ⟨g1, o1 + j, none⟩) (lt_of_cell ((hb3.cell (p := ⟨g1, o1 + j, none⟩) (lt_of_cell hcu)).trans hcu))).trans ((hb3.cell (p := ⟨g1, o1 + j, none⟩) (lt_of_cell hcu)).trans hcu))
        have HW : Hid ((xs[j]?).getD rest = u) := Lib.hid (by rw [hu]; rfl)
        clear hu hcu
        subst hao1
        cases hp : isP n (.mk ak av am aks) u with
        | false =>
          have HX : Hid (isP (n + 1) (.mk k x m ks) s = false) := HR.out.trans (kidsP_false _ _ _ _ j _ HA.out (by rw [HW.out]; exact hp))
          have cI' := cI u
          rw [hp] at cI'
          clear hp cI
          go_wp2_with (go_at_call 28; refine cI'.mono ?_; rintro e w4 ⟨rfl, hb4⟩)
          go_ret
          exact ⟨congrArg (fun b => Ending.returned (Value.bool b)) HX.out.symm, (hX.next hb4).out⟩
        | true =>
          have HP2 : Hid (∀ (i : Nat) a, i < j + 1 → ks[i]? = some a → isP n a ((xs[i]?).getD rest) = true) := Lib.hid (fun i a hi hia => by
            rcases Nat.lt_succ_iff_lt_or_eq.1 hi with h | h
            · exact HP.out i a h hia
            · subst h
              rw [HA.out] at hia
              injection hia with e
              subst e
              rw [HW.out]; exact hp)
          have cI' := cI u
          rw [hp] at cI'
          clear hp cI HP HA HW
          go_wp2_with (go_at_call 28; refine cI'.mono ?_; rintro e w4 ⟨rfl, hb4⟩)
          go_roundw
          case rel => exact ⟨j + 1, by omega, by go_num, hbr.trans (hb4.mono hbr.size), HP2⟩
          case measure => simp [intOf]; omega
      · have hd : decide ((j : Int) < xs.length) = false := decide_eq_false (by omega)
        have HW : Hid ((xs[j]?).getD rest = rest) := Lib.hid (by rw [List.getElem?_eq_none (by omega)]; rfl)
        cases hp : isP n (.mk ak av am aks) rest with
        | false =>
          have HX : Hid (isP (n + 1) (.mk k x m ks) s = false) := HR.out.trans (kidsP_false _ _ _ _ j _ HA.out (by rw [HW.out]; exact hp))
          have cI' := cI rest
          rw [hp] at cI'
          clear hp cI
          go_wp2_with (go_at_call 28; refine cI'.mono ?_; rintro e w4 ⟨rfl, hb4⟩)
          go_ret
          exact ⟨congrArg (fun b => Ending.returned (Value.bool b)) HX.out.symm, (hX.next hb4).out⟩
        | true =>
          have HP2 : Hid (∀ (i : Nat) a, i < j + 1 → ks[i]? = some a → isP n a ((xs[i]?).getD rest) = true) := Lib.hid (fun i a hi hia => by
            rcases Nat.lt_succ_iff_lt_or_eq.1 hi with h | h
            · exact HP.out i a h hia
            · subst h
              rw [HA.out] at hia
              injection hia with e
              subst e
              rw [HW.out]; exact hp)
          have cI' := cI rest
          rw [hp] at cI'
          clear hp cI HP HA HW
          go_wp2_with (go_at_call 28; refine cI'.mono ?_; rintro e w4 ⟨rfl, hb4⟩)
          go_roundw
          case rel => exact ⟨j + 1, by omega, by go_num, hbr.trans (hb4.mono hbr.size), HP2⟩
          case measure => simp [intOf]; omega
    · have HX : Hid (isP (n + 1) (.mk k x m ks) s = true) := HR.out.trans (kidsP_true _ _ _ _ fun i a ha => HP.out i a (by
        have := (List.getElem?_eq_some_iff.1 ha).1; omega) ha)
      go_wp2
      go_ret
      exact ⟨congrArg (fun b => Ending.returned (Value.bool b)) HX.out.symm, hX.out⟩
set_option maxRecDepth 20000 in
set_option maxHeartbeats 8000000 in
theorem is_112 (n : Nat) (HI : Hid (∀ (k : Int) (x : List UInt8) (m : Int) (ks : List Tr) (ao : Option Addr) (c : Nat) (s : Int) (S : Nat → Prop) (w : World), Fit n (.mk k x m ks) → (∀ b, S b → b < w.heap.size) → KT w S (.mk k x m ks) (.slice ao ks.length c) →
    Calls Tryz.prog 28 #[.agg #[.int .i64 k, .string ⟨x.toArray⟩, .int .i64 m, .slice ao ks.length c], .int .i64 s] w fun e w' => e = .returned (.bool (isP n (.mk k x m ks) s)) ∧ Below w.heap.size w w'))
    (k : Int) (x : List UInt8) (m : Int) (ks : List Tr) (ao : Option Addr) (c : Nat) (s : Int) (S : Nat → Prop) (w : World) (hF1 : ks.length ≤ 20000) (_hxm : (⟨x.toArray⟩ : ByteArray).size ≤ maxLen) (hF3 : ∀ t ∈ ks, Fit n t) (hS : ∀ b, S b → b < w.heap.size) (hL : Lst w S ks (.slice ao ks.length c))
    (xs : List Int) (rest tx : Int) (hr : rest ≠ 0) (h1 : xs.length ≤ ks.length) (hm : m ≠ 0) (hk2 : numK k = true) (t0 : (tx == 0) = false) (t1 : (tx == 1) = false) (HR : Hid (isP (n + 1) (.mk k x m ks) s = kidsP (isP n) xs rest ks))
    (cSh : ∀ W, Below w.heap.size w W → Calls Tryz.prog 48 #[.agg #[.int .i64 k, .string ⟨x.toArray⟩, .int .i64 m, .slice ao ks.length c], .int .i64 s] W (OutH W (xs, rest, tx, true))) :
    Calls Tryz.prog 28 #[.agg #[.int .i64 k, .string ⟨x.toArray⟩, .int .i64 m, .slice ao ks.length c], .int .i64 s] w fun e w' => e = .returned (.bool (isP (n + 1) (.mk k x m ks) s)) ∧ Below w.heap.size w w' := by
  have hX0 := Hx.start (w := w) (c0 := .int .i64 k) (c1 := .string ⟨x.toArray⟩) (c2 := .int .i64 m) (c3 := .slice ao ks.length c)
  have r0 : (rest == 0) = false := beq_false_of_ne hr
  have d1 : decide (ks.length < xs.length) = false := decide_eq_false (by omega)
  have m0 : (m != 0) = true := by simp [hm]
  have nkT : ∀ W : World, Calls Tryz.prog 49 #[.int .i64 k] W fun e w' => e = .returned (.bool true) ∧ w' = W := fun W => by have h := numK_any k W; rw [hk2] at h; exact h
  clear hr
  go_enter Tryz.func28, Tryz.ntmps28
  go_wp2_with (first
    | (go_at_call 48; refine (cSh _ hX0.out).mono ?_; rintro e w1 ⟨sl1, rfl, hs1, hb1⟩
       have hX1 := hX0.next hb1
       have hx1 := hX1.cells
       obtain ⟨ao1, c1, rfl, hc1⟩ := hs1
       obtain ⟨x0, x1, x2, x3⟩ := hx1)
    | (go_at_call 49; refine (nkT _).mono ?_; rintro e w2 ⟨rfl, hw2⟩; obtain rfl := hw2.symm)
    | (go_at_call 50; refine (nmR_any ⟨x.toArray⟩ _hxm _).mono ?_; rintro e w3 ⟨rfl, hb3⟩
       have hX3 := hX1.next hb3
       clear x0 x1 x2 x3
       obtain ⟨x0, x1, x2, x3⟩ := hX3.cells))
  go_loopw [9, 10] (fun v9 v10 wr => ∃ j : Nat, j ≤ ks.length ∧ v9 = .int .i64 j ∧ Below w1.heap.size w1 wr ∧ Hid (∀ (i : Nat) a, i < j → ks[i]? = some a → isP n a ((xs[i]?).getD rest) = true)) (fun v9 _ _ => ks.length - (intOf v9).toNat)
  case atStart => exact ⟨0, Nat.zero_le _, rfl, Below.refl _ _, Lib.hid fun i a h => absurd h (Nat.not_lt_zero _)⟩
  case round =>
    obtain ⟨j, hj, rfl, hbr, HP⟩ := hrel
    have hX := hX1.next hbr
    clear x0 x1 x2 x3
    obtain ⟨x0, x1, x2, x3⟩ := hX.cells
    by_cases hlt : j < ks.length
    · obtain ⟨a, ha⟩ : ∃ t, ks[j]? = some t := ⟨_, List.getElem?_eq_getElem hlt⟩
      obtain ⟨g, o, a0, n0, q0, hao, y0, y1, y2, y3, hg, hka⟩ := hL.kid ha hS
      subst hao
      have z0 := (hX.out.cell (p := ⟨g, o + j * 4, none⟩) hg).trans y0
      have z1 := (hX.out.cell (p := ⟨g, o + j * 4 + 1, none⟩) hg).trans y1
      have z2 := (hX.out.cell (p := ⟨g, o + j * 4 + 2, none⟩) hg).trans y2
      have z3 := (hX.out.cell (p := ⟨g, o + j * 4 + 3, none⟩) hg).trans y3
      have hFa := hF3 a (List.mem_of_getElem? ha)
      have HA := Lib.hid ha
      have hka' : KT wr S a (.slice a0 n0 q0) := hka.fr (fun b hb => hX.out.block b (hS b hb)) (fun _ h => h)
      obtain ⟨ak, av, am, aks⟩ := a
      obtain ⟨_, _, e⟩ := (Lst.of hka').slice
      injection e with e4 e5 e7
      clear e4 e7
      subst e5
      have cI := fun s' => HI.out ak av am aks a0 q0 s' S wr hFa (fun b hb => Nat.lt_of_lt_of_le (hS b hb) hX.out.size) hka'
      simp only [Tr.kind, Tr.text, Tr.num] at z0 z1 z2
      clear ha hka hka' hFa y0 y1 y2 y3
      by_cases hjx : j < xs.length
      · obtain ⟨u, hu⟩ : ∃ u, xs[j]? = some u := ⟨_, List.getElem?_eq_getElem hjx⟩
        obtain ⟨g1, o1, hao1, _, hcu⟩ := hc1 j u hu
        have hd : decide ((j : Int) < xs.length) = true := decide_eq_true (by omega)
        have zu : wr.cell? ⟨g1, o1 + j, none⟩ = some (.int .i64 u) := ((hbr.cell (p := ⟨g1, o1 + j, none⟩) (lt_of_cell (hcu))).trans (hcu))
        have HW : Hid ((xs[j]?).getD rest = u) := Lib.hid (by rw [hu]; rfl)
        clear hu hcu
        subst hao1
        cases hp : isP n (.mk ak av am aks) u with
        | false =>
          have HX : Hid (isP (n + 1) (.mk k x m ks) s = false) := HR.out.trans (kidsP_false _ _ _ _ j _ HA.out (by rw [HW.out]; exact hp))
          have cI' := cI u
          rw [hp] at cI'
          clear hp cI
          go_wp2_with (go_at_call 28; refine cI'.mono ?_; rintro e w4 ⟨rfl, hb4⟩)
          go_ret
          exact ⟨congrArg (fun b => Ending.returned (Value.bool b)) HX.out.symm, (hX.next hb4).out⟩
        | true =>
          have HP2 : Hid (∀ (i : Nat) a, i < j + 1 → ks[i]? = some a → isP n a ((xs[i]?).getD rest) = true) := Lib.hid (fun i a hi hia => by
            rcases Nat.lt_succ_iff_lt_or_eq.1 hi with h | h
            · exact HP.out i a h hia
            · subst h
              rw [HA.out] at hia
              injection hia with e
              subst e
              rw [HW.out]; exact hp)
          have cI' := cI u
          rw [hp] at cI'
          clear hp cI HP HA HW
          go_wp2_with (go_at_call 28; refine cI'.mono ?_; rintro e w4 ⟨rfl, hb4⟩)
          go_roundw
          case rel => exact ⟨j + 1, by omega, by go_num, hbr.trans (hb4.mono hbr.size), HP2⟩
          case measure => simp [intOf]; omega
      · have hd : decide ((j : Int) < xs.length) = false := decide_eq_false (by omega)
        have HW : Hid ((xs[j]?).getD rest = rest) := Lib.hid (by rw [List.getElem?_eq_none (by omega)]; rfl)
        cases hp : isP n (.mk ak av am aks) rest with
        | false =>
          have HX : Hid (isP (n + 1) (.mk k x m ks) s = false) := HR.out.trans (kidsP_false _ _ _ _ j _ HA.out (by rw [HW.out]; exact hp))
          have cI' := cI rest
          rw [hp] at cI'
          clear hp cI
          go_wp2_with (go_at_call 28; refine cI'.mono ?_; rintro e w4 ⟨rfl, hb4⟩)
          go_ret
          exact ⟨congrArg (fun b => Ending.returned (Value.bool b)) HX.out.symm, (hX.next hb4).out⟩
        | true =>
          have HP2 : Hid (∀ (i : Nat) a, i < j + 1 → ks[i]? = some a → isP n a ((xs[i]?).getD rest) = true) := Lib.hid (fun i a hi hia => by
            rcases Nat.lt_succ_iff_lt_or_eq.1 hi with h | h
            · exact HP.out i a h hia
            · subst h
              rw [HA.out] at hia
              injection hia with e
              subst e
              rw [HW.out]; exact hp)
          have cI' := cI rest
          rw [hp] at cI'
          clear hp cI HP HA HW
          go_wp2_with (go_at_call 28; refine cI'.mono ?_; rintro e w4 ⟨rfl, hb4⟩)
          go_roundw
          case rel => exact ⟨j + 1, by omega, by go_num, hbr.trans (hb4.mono hbr.size), HP2⟩
          case measure => simp [intOf]; omega
    · have HX : Hid (isP (n + 1) (.mk k x m ks) s = true) := HR.out.trans (kidsP_true _ _ _ _ fun i a ha => HP.out i a (by
        have := (List.getElem?_eq_some_iff.1 ha).1; omega) ha)
      go_wp2
      go_ret
      exact ⟨congrArg (fun b => Ending.returned (Value.bool b)) HX.out.symm, hX.out⟩
end Go.Proofs.YtnkphlkjhgngkaaGreatDoor
