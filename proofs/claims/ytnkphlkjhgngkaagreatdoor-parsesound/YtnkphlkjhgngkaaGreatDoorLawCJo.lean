/- The document's Level; the law's three and at. -/
import Derived.Test.YtnkphlkjhgngkaaGreatDoorLawAJo
import Derived.Deep.QuietTactic
import Derived.BigQuiet
namespace Go.Proofs.YtnkphlkjhgngkaaGreatDoor
open Go.RowKit
attribute [local go_sem ↓] Go.wp_at_zero Go.wp_at_succ

set_option maxRecDepth 20000 in
set_option maxHeartbeats 1600000 in
theorem level_any (s : List UInt8) (w : World) : Calls Tryz.prog 16 #[.string ⟨s.toArray⟩] w fun e w' => e = .returned (.int .i64 (rankL s)) ∧ w' = w := by
  by_cases h0 : s = [124, 124]
  · subst h0
    have HP : Hid (rankL [124, 124] = 1) := Lib.hid (by decide)
    go_enter Tryz.func16, Tryz.ntmps16
    go_wp2
    go_ret
    exact ⟨by simp [HP.out], rfl⟩
  have e0 : (s == [124, 124]) = false := by simpa using h0
  clear h0
  by_cases h1 : s = [38, 38]
  · subst h1
    have HP : Hid (rankL [38, 38] = 2) := Lib.hid (by decide)
    go_enter Tryz.func16, Tryz.ntmps16
    go_wp2
    go_ret
    exact ⟨by simp [HP.out], rfl⟩
  have e1 : (s == [38, 38]) = false := by simpa using h1
  clear h1
  by_cases h2 : s = [61, 61]
  · subst h2
    have HP : Hid (rankL [61, 61] = 3) := Lib.hid (by decide)
    go_enter Tryz.func16, Tryz.ntmps16
    go_wp2
    go_ret
    exact ⟨by simp [HP.out], rfl⟩
  have e2 : (s == [61, 61]) = false := by simpa using h2
  clear h2
  by_cases h3 : s = [33, 61]
  · subst h3
    have HP : Hid (rankL [33, 61] = 3) := Lib.hid (by decide)
    go_enter Tryz.func16, Tryz.ntmps16
    go_wp2
    go_ret
    exact ⟨by simp [HP.out], rfl⟩
  have e3 : (s == [33, 61]) = false := by simpa using h3
  clear h3
  by_cases h4 : s = [60]
  · subst h4
    have HP : Hid (rankL [60] = 3) := Lib.hid (by decide)
    go_enter Tryz.func16, Tryz.ntmps16
    go_wp2
    go_ret
    exact ⟨by simp [HP.out], rfl⟩
  have e4 : (s == [60]) = false := by simpa using h4
  clear h4
  by_cases h5 : s = [60, 61]
  · subst h5
    have HP : Hid (rankL [60, 61] = 3) := Lib.hid (by decide)
    go_enter Tryz.func16, Tryz.ntmps16
    go_wp2
    go_ret
    exact ⟨by simp [HP.out], rfl⟩
  have e5 : (s == [60, 61]) = false := by simpa using h5
  clear h5
  by_cases h6 : s = [62]
  · subst h6
    have HP : Hid (rankL [62] = 3) := Lib.hid (by decide)
    go_enter Tryz.func16, Tryz.ntmps16
    go_wp2
    go_ret
    exact ⟨by simp [HP.out], rfl⟩
  have e6 : (s == [62]) = false := by simpa using h6
  clear h6
  by_cases h7 : s = [62, 61]
  · subst h7
    have HP : Hid (rankL [62, 61] = 3) := Lib.hid (by decide)
    go_enter Tryz.func16, Tryz.ntmps16
    go_wp2
    go_ret
    exact ⟨by simp [HP.out], rfl⟩
  have e7 : (s == [62, 61]) = false := by simpa using h7
  clear h7
  by_cases h8 : s = [43]
  · subst h8
    have HP : Hid (rankL [43] = 4) := Lib.hid (by decide)
    go_enter Tryz.func16, Tryz.ntmps16
    go_wp2
    go_ret
    exact ⟨by simp [HP.out], rfl⟩
  have e8 : (s == [43]) = false := by simpa using h8
  clear h8
  by_cases h9 : s = [45]
  · subst h9
    have HP : Hid (rankL [45] = 4) := Lib.hid (by decide)
    go_enter Tryz.func16, Tryz.ntmps16
    go_wp2
    go_ret
    exact ⟨by simp [HP.out], rfl⟩
  have e9 : (s == [45]) = false := by simpa using h9
  clear h9
  by_cases h10 : s = [42]
  · subst h10
    have HP : Hid (rankL [42] = 5) := Lib.hid (by decide)
    go_enter Tryz.func16, Tryz.ntmps16
    go_wp2
    go_ret
    exact ⟨by simp [HP.out], rfl⟩
  have e10 : (s == [42]) = false := by simpa using h10
  clear h10
  by_cases h11 : s = [47]
  · subst h11
    have HP : Hid (rankL [47] = 5) := Lib.hid (by decide)
    go_enter Tryz.func16, Tryz.ntmps16
    go_wp2
    go_ret
    exact ⟨by simp [HP.out], rfl⟩
  have e11 : (s == [47]) = false := by simpa using h11
  clear h11
  by_cases h12 : s = [37]
  · subst h12
    have HP : Hid (rankL [37] = 5) := Lib.hid (by decide)
    go_enter Tryz.func16, Tryz.ntmps16
    go_wp2
    go_ret
    exact ⟨by simp [HP.out], rfl⟩
  have e12 : (s == [37]) = false := by simpa using h12
  clear h12
  have HR : Hid (rankL s = 0) := by simp only [Hid, rankL, e0, e1, e2, e3, e4, e5, e6, e7, e8, e9, e10, e11, e12]; rfl
  go_enter Tryz.func16, Tryz.ntmps16
  go_wp2
  go_ret
  exact ⟨by simp [HR.out], rfl⟩



/-- The node by a way from another. -/
def wayT : Tr → List Nat → Option Tr
  | t, [] => some t
  | t, i :: ws => match t.kids[i]? with
    | some k => wayT k ws
    | none => none
theorem wayT_step {t u : Tr} {ws : List Nat} {j x : Nat} (hx : ws[j]? = some x) (h : wayT t (ws.drop j) = some u) : ∃ a, t.kids[x]? = some a ∧ wayT a (ws.drop (j + 1)) = some u := by
  have hj : j < ws.length := by
    rcases Nat.lt_or_ge j ws.length with h | h
    · exact h
    · rw [List.getElem?_eq_none h] at hx; cases hx
  rw [List.getElem?_eq_getElem hj] at hx
  cases hx
  rw [List.drop_eq_getElem_cons hj, wayT] at h
  cases e : t.kids[ws[j]]? with
  | none => rw [e] at h; cases h
  | some a => rw [e] at h; exact ⟨a, rfl, h⟩
theorem Lst.kid' {w : World} {S : Nat → Prop} {ks : List Tr} {ao : Option Addr} {n c j : Nat} {a : Tr} (hL : Lst w S ks (.slice ao n c)) (ha : ks[j]? = some a) (hS : ∀ b, S b → b < w.heap.size) :
    ∃ g o a0 n0 q0, ao = some ⟨g, o, none⟩ ∧ n = ks.length ∧ j < ks.length ∧ w.cell? ⟨g, o + j * 4, none⟩ = some (.int .i64 a.kind) ∧ w.cell? ⟨g, o + j * 4 + 1, none⟩ = some (.string ⟨a.text.toArray⟩) ∧ w.cell? ⟨g, o + j * 4 + 2, none⟩ = some (.int .i64 a.num) ∧ w.cell? ⟨g, o + j * 4 + 3, none⟩ = some (.slice a0 n0 q0) ∧ g < w.heap.size ∧ KT w S a (.slice a0 n0 q0) := by
  obtain ⟨sls, h1, h2⟩ := hL
  have hl : j < ks.length := by
    rcases Nat.lt_or_ge j ks.length with h | h
    · exact h
    · rw [List.getElem?_eq_none h] at ha; cases ha
  rcases h1 with ⟨h0, ao', cap, e⟩ | ⟨g, o, cap, e, _, hg, hc⟩
  · omega
  · injection e with e1 e2 e3
    obtain ⟨sl, hs⟩ : ∃ sl, sls[j]? = some sl := ⟨_, List.getElem?_eq_getElem (by rw [h2.length]; exact hl)⟩
    have hk := h2.get ha hs
    obtain ⟨a0, n0, q0, rfl⟩ := hk.slice
    obtain ⟨q0', q1, q2, q3⟩ := cellsOf_get ha hs
    exact ⟨g, o, a0, n0, q0, e1, e2, hl, hc _ _ q0', hc _ _ q1, hc _ _ q2, hc _ _ q3, hS g hg, hk⟩
theorem three_any (p q : ByteArray) (hp : p.size ≤ 2) (hq : q.size ≤ 2) (w : World) : Calls Tryz.prog 15 #[.string p, .string q] w fun e w' => e = .returned (.string (⟨#[97, 32]⟩ ++ p ++ ⟨#[32, 98, 32]⟩ ++ q ++ ⟨#[32, 99]⟩)) ∧ w' = w := by
  go_enter Tryz.func15, Tryz.ntmps15
  go_wp2
  go_ret
  exact ⟨rfl, rfl⟩

/-- at's loop: the node that it has come to lies in its box. -/
structure AtI (S : Nat → Prop) (w W : World) (x : Tr) (ao : Option Addr) (n c : Nat) : Prop where
  bel : Below w.heap.size w W
  size : w.heap.size + 2 ≤ W.heap.size
  box : Box W w.heap.size
  res : Box W (w.heap.size + 1)
  c0 : W.cell? ⟨w.heap.size, 0, none⟩ = some (.int .i64 x.kind)
  c1 : W.cell? ⟨w.heap.size, 1, none⟩ = some (.string ⟨x.text.toArray⟩)
  c2 : W.cell? ⟨w.heap.size, 2, none⟩ = some (.int .i64 x.num)
  c3 : W.cell? ⟨w.heap.size, 3, none⟩ = some (.slice ao n c)
  kt : KT W S x (.slice ao n c)
theorem Below.drewN' {B : Nat} {w W : World} (h : Below B w W) (q : Nat) : Below B w (W.drewN q) := ⟨h.os, h.tape, h.output, h.size, h.block⟩
theorem AtI.drewN {S : Nat → Prop} {w W : World} {x : Tr} {ao : Option Addr} {n c : Nat} (h : AtI S w W x ao n c) (q : Nat) : AtI S w (W.drewN q) x ao n c :=
  ⟨Below.drewN' h.bel q, h.size, h.box.of_block rfl, h.res.of_block rfl, h.c0, h.c1, h.c2, h.c3, h.kt.fr (fun _ _ => rfl) (fun _ h => h)⟩
set_option maxRecDepth 20000 in
set_option maxHeartbeats 4000000 in
theorem atW_any (ws : List Nat) (hws : ws.length ≤ 1000) (t u : Tr) (sl : Value) (S : Nat → Prop) (w : World) (hS : ∀ b, S b → b < w.heap.size) (hk : KT w S t sl) (fb fc : Nat) (hf : ∀ (i x : Nat), ws[i]? = some x → w.cell? ⟨fb, i, none⟩ = some (.int .i64 x) ∧ x ≤ 1000000) (hu : wayT t ws = some u) :
    Calls Tryz.prog 17 #[tv t sl, .slice (some ⟨fb, 0, none⟩) ws.length fc] w fun e w' => ∃ sl', e = .returned (tv u sl') ∧ Below w.heap.size w w' := by
  obtain ⟨ao, nn, c, rfl⟩ := hk.slice
  have HF := Lib.hid hf
  have HU := Lib.hid hu
  have hI0 : AtI S w ((w.alloc (.cells #[.int .i64 t.kind, .string ⟨t.text.toArray⟩, .int .i64 t.num, .slice ao nn c] 24)).alloc (.cells #[.int .i64 0, .string ⟨#[]⟩, .int .i64 0, .slice none 0 0] 24)) t ao nn c := by
    have hb1 := (Below.refl w.heap.size w).alloc (Nat.le_refl _) (.cells #[.int .i64 t.kind, .string ⟨t.text.toArray⟩, .int .i64 t.num, .slice ao nn c] 24)
    have hb2 := hb1.alloc hb1.size (.cells #[.int .i64 0, .string ⟨#[]⟩, .int .i64 0, .slice none 0 0] 24)
    have hn : ∀ o, ((w.alloc (.cells #[.int .i64 t.kind, .string ⟨t.text.toArray⟩, .int .i64 t.num, .slice ao nn c] 24)).alloc (.cells #[.int .i64 0, .string ⟨#[]⟩, .int .i64 0, .slice none 0 0] 24)).cell? ⟨w.heap.size, o, none⟩ = (w.alloc (.cells #[.int .i64 t.kind, .string ⟨t.text.toArray⟩, .int .i64 t.num, .slice ao nn c] 24)).cell? ⟨w.heap.size, o, none⟩ := fun o => World.cell?_of_block (Below.heap_alloc _ _ _ (by simp))
    refine ⟨hb2, by simp, (Box.new w _ _ _ _).of_block (Below.heap_alloc _ _ _ (by simp)), ?_, ?_, ?_, ?_, ?_, hk.fr (fun b hb => hb2.block b (hS b hb)) (fun _ h => h)⟩
    · have := Box.new (w.alloc (.cells #[.int .i64 t.kind, .string ⟨t.text.toArray⟩, .int .i64 t.num, .slice ao nn c] 24)) (.int .i64 0) (.string ⟨#[]⟩) (.int .i64 0) (.slice none 0 0)
      rwa [World.size_alloc] at this
    · rw [hn, World.cell?_alloc_new]; rfl
    · rw [hn, World.cell?_alloc_new]; rfl
    · rw [hn, World.cell?_alloc_new]; rfl
    · rw [hn, World.cell?_alloc_new]; rfl
  clear hf hu hk
  go_enter Tryz.func17, Tryz.ntmps17
  go_wp2_with fail
  go_loopw [5] (fun v wr => ∃ (j : Nat) (x : Tr) (ao : Option Addr) (n c : Nat), j ≤ ws.length ∧ v = .int .i64 j ∧ AtI S w wr x ao n c ∧ Hid (wayT x (ws.drop j) = some u)) (fun v _ => ws.length - (intOf v).toNat)
  case atStart => exact ⟨0, t, ao, nn, c, Nat.zero_le _, rfl, hI0, HU⟩
  case round =>
    clear hI0
    obtain ⟨j, x, ao, n, c, hj, rfl, hI, HX⟩ := hrel
    by_cases hlt : j < ws.length
    · obtain ⟨i, hi⟩ : ∃ i, ws[j]? = some i := ⟨_, List.getElem?_eq_getElem hlt⟩
      obtain ⟨hfc, hib⟩ := HF.out j i hi
      obtain ⟨a, ha, hau⟩ := wayT_step hi HX.out
      have hfl := lt_of_cell hfc
      have hff := (hI.bel.cell (p := ⟨fb, j, none⟩) hfl).trans hfc
      obtain ⟨g, o, a0, n0, q0, rfl, hne, hil, y0, y1, y2, y3, hg, hka⟩ := (Lst.kids hI.kt).kid' ha (fun b hb => Nat.lt_of_lt_of_le (hS b hb) hI.bel.size)
      have hin : i < n := by omega
      have b3 := hI.c3
      have hge : decide ((i : Int) ≥ (n : Int)) = false := by simp; omega
      clear hi hfc hne hil
      go_wp2_with fail
      go_quiet (fail)
      have hI2 := hI.drewN nq
      have z0 : (wr.drewN nq).cell? ⟨g, o + i * 4, none⟩ = some (.int .i64 a.kind) := y0
      have z1 : (wr.drewN nq).cell? ⟨g, o + i * 4 + 1, none⟩ = some (.string ⟨a.text.toArray⟩) := y1
      have z2 : (wr.drewN nq).cell? ⟨g, o + i * 4 + 2, none⟩ = some (.int .i64 a.num) := y2
      have z3 : (wr.drewN nq).cell? ⟨g, o + i * 4 + 3, none⟩ = some (.slice a0 n0 q0) := y3
      have zf : (wr.drewN nq).cell? ⟨fb, j, none⟩ = some (.int .i64 i) := hff
      have hg2 : g < (wr.drewN nq).heap.size := hg
      have hka2 : KT (wr.drewN nq) S a (.slice a0 n0 q0) := hka.fr (fun _ _ => rfl) (fun _ h => h)
      clear y0 y1 y2 y3 hff hg hka b3 hI
      generalize wr.drewN nq = w2 at *
      have hI3 := hI2.drewN 1
      have b3 := hI2.c3
      obtain ⟨u0, u1, u2, u3, b0', b1', b2', b3', bf⟩ := hI2.box.open
      have bf0 := bf 0
      have bf1 := bf 1
      have bf2 := bf 2
      have bf3 := bf 3
      clear bf
      go_wp2_with fail
      go_region
      obtain ⟨Wf, hWf, hput, hbx, e0, e1, e2, e3⟩ := putN4 hI2.box (.int .i64 a.kind) (.string ⟨a.text.toArray⟩) (.int .i64 a.num) (.slice a0 n0 q0)
      rw [hWf]
      have hIn : AtI S w Wf a a0 n0 q0 := ⟨below_put hI2.bel hput (Nat.le_refl _), by rw [hput.size]; exact hI2.size, hbx, hI2.res.of_block (hput.block _ (by omega)), e0, e1, e2, e3, hka2.fr (fun b hb => hput.block b (by have := hS b hb; omega)) (fun _ h => h)⟩
      have hIn1 := hIn.drewN 1
      have HY := Lib.hid hau
      clear hIn hbx e0 e1 e2 e3 hput hWf hI2 hI3 hau ha
      have hd : AtI S w Wf.drew a a0 n0 q0 := hIn1
      clear hIn1
      generalize Wf.drew = w3 at *
      go_wp2
      go_roundw
      case rel => exact ⟨j + 1, a, a0, n0, q0, by omega, by go_num, hd, HY⟩
      case measure => simp [intOf]; omega
    · obtain ⟨d0, d1, d2, d3⟩ := And.intro hI.c0 (And.intro hI.c1 (And.intro hI.c2 hI.c3))
      have hxu : x = u := by
        have := HX.out
        rw [List.drop_eq_nil_of_le (by omega)] at this
        simpa [wayT] using this
      subst hxu
      obtain ⟨u0, u1, u2, u3, b0, b1, b2, b3, bf⟩ := hI.res.open
      have bf0 := bf 0
      have bf1 := bf 1
      have bf2 := bf 2
      have bf3 := bf 3
      clear bf
      go_wp2
      obtain ⟨Wf, hWf, hput, _, e0, e1, e2, e3⟩ := putN4 hI.res (.int .i64 x.kind) (.string ⟨x.text.toArray⟩) (.int .i64 x.num) (.slice ao n c)
      rw [hWf]
      exact bodyPost_ret (v := .agg #[.int .i64 x.kind, .string ⟨x.text.toArray⟩, .int .i64 x.num, .slice ao n c]) (by simp [results, Tryz.results17, go_sem, e0, e1, e2, e3]) rfl ⟨_, rfl, below_put hI.bel hput (by omega)⟩
end Go.Proofs.YtnkphlkjhgngkaaGreatDoor
