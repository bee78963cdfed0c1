/- ParseLevels. -/
import Derived.Test.YtnkphlkjhgngkaaGreatDoorLawAJo
import Derived.Test.YtnkphlkjhgngkaaGreatDoorLawCJo
import Derived.Test.YtnkphlkjhgngkaaGreatDoorLevMJo
namespace Go.Proofs.YtnkphlkjhgngkaaGreatDoor
open Go.RowKit
attribute [local go_sem ↓] Go.wp_at_zero Go.wp_at_succ

theorem field_node0 (a b c d : Value) (w : World) : (Instr.field 24 (.agg #[a, b, c, d]) 0).run Tryz.prog w = .ok a w := by kernel_rfl
theorem toL_append (a b : ByteArray) : (a ++ b).data.toList = a.data.toList ++ b.data.toList := by simp
theorem size_toL {s : ByteArray} {l : List UInt8} {n : Nat} (h : s.data.toList = l) (hl : l.length ≤ n) (hn : n ≤ maxLen) : s.size ≤ maxLen := by
  have e : s.size = l.length := by rw [← h]; simp
  rw [e]; exact Nat.le_trans hl hn
theorem textN_len {p q : List UInt8} (hp : p.length ≤ 2) (hq : q.length ≤ 2) : (textN p q).length ≤ 100 := by simp [textN]; omega
theorem textM_len {p q : List UInt8} (hp : p.length ≤ 2) (hq : q.length ≤ 2) : (textM p q).length ≤ 100 := by simp [textM]; omega
theorem textR_len {p q : List UInt8} (hp : p.length ≤ 2) (hq : q.length ≤ 2) : (textR p q).length ≤ 100 := by simp [textR]; omega
/-- A node's box with a tree. -/
structure Bt (W : World) (b : Nat) (t : Tr) (ao : Option Addr) (n c : Nat) : Prop where
  blk : W.heap[b]? = some (.cells #[.int .i64 t.kind, .string ⟨t.text.toArray⟩, .int .i64 t.num, .slice ao n c] 24 (0, 0))
theorem Bt.lt {W : World} {b : Nat} {t : Tr} {ao : Option Addr} {n c : Nat} (h : Bt W b t ao n c) : b < W.heap.size := lt_of_block h.blk
theorem Bt.cells {W : World} {b : Nat} {t : Tr} {ao : Option Addr} {n c : Nat} (h : Bt W b t ao n c) : W.cell? ⟨b, 0, none⟩ = some (.int .i64 t.kind) ∧ W.cell? ⟨b, 1, none⟩ = some (.string ⟨t.text.toArray⟩) ∧ W.cell? ⟨b, 2, none⟩ = some (.int .i64 t.num) ∧ W.cell? ⟨b, 3, none⟩ = some (.slice ao n c) ∧ ∀ o, W.frozen? ⟨b, o, none⟩ = false := by
  have e := h.blk
  exact ⟨by simp [World.cell?, e], by simp [World.cell?, e], by simp [World.cell?, e], by simp [World.cell?, e], fun o => by simp [World.frozen?, e]⟩
theorem Bt.of_block {W W' : World} {b : Nat} {t : Tr} {ao : Option Addr} {n c : Nat} (h : Bt W b t ao n c) (hb : W'.heap[b]? = W.heap[b]?) : Bt W' b t ao n c := ⟨hb.trans h.blk⟩
theorem Bt.below {B : Nat} {W W' : World} {b : Nat} {t : Tr} {ao : Option Addr} {n c : Nat} (h : Bt W b t ao n c) (hb : Below B W W') (h1 : W.heap.size ≤ B) : Bt W' b t ao n c := h.of_block (hb.block b (by have := h.lt; omega))
theorem Bt.new (W : World) (t : Tr) (ao : Option Addr) (n c : Nat) : Bt (W.alloc (.cells #[.int .i64 t.kind, .string ⟨t.text.toArray⟩, .int .i64 t.num, .slice ao n c] 24)) W.heap.size t ao n c := ⟨heap_alloc_new W _⟩
theorem Bt.put {W : World} {b : Nat} {t : Tr} {ao : Option Addr} {n c : Nat} (h : Bt W b t ao n c) (u : Tr) (ao' : Option Addr) (n' c' : Nat) :
    ∃ Wf, ((((W.setCell ⟨b, 0, none⟩ (.int .i64 u.kind)).setCell ⟨b, 1, none⟩ (.string ⟨u.text.toArray⟩)).setCell ⟨b, 2, none⟩ (.int .i64 u.num)).setCell ⟨b, 3, none⟩ (.slice ao' n' c')) = Wf ∧ Put b W Wf ∧ Bt Wf b u ao' n' c' := by
  refine ⟨_, rfl, ((((Put.refl b W).setCell 0 _).setCell 1 _).setCell 2 _).setCell 3 _, ⟨?_⟩⟩
  rw [heap_setCell_same _ b 3 _ (heap_setCell_same _ b 2 _ (heap_setCell_same _ b 1 _ (heap_setCell_same _ b 0 _ h.blk)))]; rfl
theorem KT.below {S : Nat → Prop} {W W' : World} {t : Tr} {sl : Value} (h : KT W S t sl) (hS : ∀ b, S b → b < W.heap.size) (hb : Below W.heap.size W W') : KT W' S t sl := h.fr (fun b hb' => hb.block b (hS b hb')) (fun _ h => h)
def treeN (p q : List UInt8) : Tr := if rankL p < rankL q then treeR' p q else treeL p q
theorem treeN_lim (p q : List UInt8) : Lim 10 (treeN p q) := by
  unfold treeN; split <;> simp [Lim, treeR', treeL, progE, binE, nameE, Tr.kids]
theorem treeN_way (p q : List UInt8) : ∃ u, wayT (treeN p q) [0, 1, 0, 0] = some u ∧ u.kind = 53 := by
  unfold treeN; split
  · exact ⟨_, rfl, rfl⟩
  · exact ⟨_, rfl, rfl⟩
set_option maxRecDepth 20000 in
set_option maxHeartbeats 8000000 in
theorem levels_any (x y : Nat) (w : World) (hG : Gl w) : Calls Tryz.prog 7 #[.int .u8 x, .int .u8 y] w fun e w' => e = .returned (.bool true) ∧ Below w.heap.size w w' := by
  obtain ⟨w1, hw1⟩ : ∃ W, w.alloc (.cells #[.string ⟨#[124, 124]⟩, .string ⟨#[38, 38]⟩, .string ⟨#[61, 61]⟩, .string ⟨#[33, 61]⟩, .string ⟨#[60]⟩, .string ⟨#[60, 61]⟩, .string ⟨#[62]⟩, .string ⟨#[62, 61]⟩, .string ⟨#[43]⟩, .string ⟨#[45]⟩, .string ⟨#[42]⟩, .string ⟨#[47]⟩, .string ⟨#[37]⟩] 9) = W := ⟨_, rfl⟩
  have hb1 : Below w.heap.size w w1 := hw1 ▸ (Below.refl _ _).alloc (Nat.le_refl _) _
  have hc : ∀ a : Nat, a < 13 → ∃ p, opsL[a]? = some p ∧ w1.cell? ⟨w.heap.size, a, none⟩ = some (.string ⟨p.toArray⟩) := by
    intro a ha
    rw [← hw1]
    match a, ha with
    | 0, _ => exact ⟨_, rfl, by rw [World.cell?_alloc_new]; rfl⟩
    | 1, _ => exact ⟨_, rfl, by rw [World.cell?_alloc_new]; rfl⟩
    | 2, _ => exact ⟨_, rfl, by rw [World.cell?_alloc_new]; rfl⟩
    | 3, _ => exact ⟨_, rfl, by rw [World.cell?_alloc_new]; rfl⟩
    | 4, _ => exact ⟨_, rfl, by rw [World.cell?_alloc_new]; rfl⟩
    | 5, _ => exact ⟨_, rfl, by rw [World.cell?_alloc_new]; rfl⟩
    | 6, _ => exact ⟨_, rfl, by rw [World.cell?_alloc_new]; rfl⟩
    | 7, _ => exact ⟨_, rfl, by rw [World.cell?_alloc_new]; rfl⟩
    | 8, _ => exact ⟨_, rfl, by rw [World.cell?_alloc_new]; rfl⟩
    | 9, _ => exact ⟨_, rfl, by rw [World.cell?_alloc_new]; rfl⟩
    | 10, _ => exact ⟨_, rfl, by rw [World.cell?_alloc_new]; rfl⟩
    | 11, _ => exact ⟨_, rfl, by rw [World.cell?_alloc_new]; rfl⟩
    | 12, _ => exact ⟨_, rfl, by rw [World.cell?_alloc_new]; rfl⟩
  obtain ⟨p, hp, cp⟩ := hc (x % 13) (Nat.mod_lt _ (by decide))
  obtain ⟨q, hq, cq⟩ := hc (y % 13) (Nat.mod_lt _ (by decide))
  have hpm := List.mem_of_getElem? hp
  have hqm := List.mem_of_getElem? hq
  have hlev := levs
  rw [List.all_eq_true] at hlev
  have hlev2 := hlev p hpm
  rw [List.all_eq_true] at hlev2
  have HL := Lib.hid (hlev2 q hqm)
  have xm : (x : Int).tmod 13 = ((x % 13 : Nat) : Int) := by simp [Int.tmod]
  have ym : (y : Int).tmod 13 = ((y % 13 : Nat) : Int) := by simp [Int.tmod]
  have x13 : x % 13 < 13 := Nat.mod_lt _ (by decide)
  have y13 : y % 13 < 13 := Nat.mod_lt _ (by decide)
  have sp : p.length ≤ 2 := by
    have : ∀ p ∈ opsL, p.length ≤ 2 := by decide
    exact this p hpm
  have sq : q.length ≤ 2 := by
    have : ∀ p ∈ opsL, p.length ≤ 2 := by decide
    exact this q hqm
  clear hlev hlev2 hpm hqm hp hq hc
  go_enter Tryz.func7, Tryz.ntmps7
  go_wp2_with fail
  go_quiet (fail)
  have hb2 : Below w.heap.size w (w1.drewN nq) := ⟨hb1.os, hb1.tape, hb1.output, hb1.size, hb1.block⟩
  have hG2 := hG.later hb2
  generalize w1.drewN nq = w2 at *
  obtain ⟨P, hP⟩ : ∃ P : ByteArray, ⟨p.toArray⟩ = P := ⟨_, rfl⟩
  obtain ⟨R, hR⟩ : ∃ R : ByteArray, ⟨q.toArray⟩ = R := ⟨_, rfl⟩
  have pl : P.data.toList = p := by rw [← hP]
  have rl : R.data.toList = q := by rw [← hR]
  have ps : P.size ≤ 2 := by rw [← hP]; simpa [ByteArray.size] using sp
  have rs : R.size ≤ 2 := by rw [← hR]; simpa [ByteArray.size] using sq
  rw [hP, hR]
  have c3 := three_any P R ps rs w2
  clear hw1 cp cq xm ym x13 y13 hb1
  go_wp2_with fail
  refine c3.mono ?_
  rintro e w3 ⟨rfl, rfl⟩
  clear c3
  go_wp2_with fail
  have lN : (⟨#[102, 117, 110, 99, 32, 102, 40, 41, 32, 123, 32, 114, 101, 116, 117, 114, 110, 32]⟩ ++ (⟨#[97, 32]⟩ ++ P ++ ⟨#[32, 98, 32]⟩ ++ R ++ ⟨#[32, 99]⟩) ++ ⟨#[59, 32, 125]⟩ : ByteArray).data.toList = textN p q := by simp only [toL_append, pl, rl]; rfl
  have lM : (⟨#[102, 117, 110, 99, 32, 102, 40, 41, 32, 123, 32, 114, 101, 116, 117, 114, 110, 32, 40, 97, 32]⟩ ++ P ++ ⟨#[32, 98, 41, 32]⟩ ++ R ++ ⟨#[32, 99, 59, 32, 125]⟩ : ByteArray).data.toList = textM p q := by simp only [toL_append, pl, rl]; rfl
  have lR : (⟨#[102, 117, 110, 99, 32, 102, 40, 41, 32, 123, 32, 114, 101, 116, 117, 114, 110, 32, 97, 32]⟩ ++ P ++ ⟨#[32, 40, 98, 32]⟩ ++ R ++ ⟨#[32, 99, 41, 59, 32, 125]⟩ : ByteArray).data.toList = textR p q := by simp only [toL_append, pl, rl]; rfl
  have hl := HL.out
  simp only [lev, Bool.and_eq_true] at hl
  have eM := isP_eq hl.1
  have eN : parseP (textN p q) = (some (treeN p q), 0, 0) := by
    unfold treeN; have h2 := hl.2
    split at h2
    · rename_i h; rw [if_pos h]; simp only [Bool.and_eq_true] at h2; exact isP_eq h2.1
    · rename_i h; rw [if_neg h]; exact isP_eq h2
  have c4 := parse_any (⟨#[102, 117, 110, 99, 32, 102, 40, 41, 32, 123, 32, 114, 101, 116, 117, 114, 110, 32]⟩ ++ (⟨#[97, 32]⟩ ++ P ++ ⟨#[32, 98, 32]⟩ ++ R ++ ⟨#[32, 99]⟩) ++ ⟨#[59, 32, 125]⟩) (size_toL lN (textN_len sp sq) (by decide)) w3 hG2
  rw [lN, eN] at c4
  have HH := Lib.hid hl
  have HN := Lib.hid eN
  have HM := Lib.hid eM
  have HLM := Lib.hid lM
  have HLR := Lib.hid lR
  clear hl eN eM lN lM lR
  refine c4.mono ?_
  rintro e w4 ⟨hb4, sl4, rfl, kN4⟩
  clear c4
  obtain ⟨an, cn, rfl⟩ := (Lst.kids kN4).slice
  have hz4 := hb4.size
  have bn5 := Bt.new w4 (treeN p q) an (treeN p q).kids.length cn
  have hb5 := (Below.refl w4.heap.size w4).alloc (Nat.le_refl _) (.cells #[.int .i64 (treeN p q).kind, .string ⟨(treeN p q).text.toArray⟩, .int .i64 (treeN p q).num, .slice an (treeN p q).kids.length cn] 24)
  have kN5 := kN4.below (fun b hb => hb.2) hb5
  have hB5 := hb2.trans ((hb4.mono hb2.size).trans (hb5.mono (Nat.le_trans hb2.size hz4)))
  have hG5 := hG.later hB5
  have c5 := parse_any (⟨#[102, 117, 110, 99, 32, 102, 40, 41, 32, 123, 32, 114, 101, 116, 117, 114, 110, 32, 40, 97, 32]⟩ ++ P ++ ⟨#[32, 98, 41, 32]⟩ ++ R ++ ⟨#[32, 99, 59, 32, 125]⟩) (size_toL HLM.out (textM_len sp sq) (by decide)) _ hG5
  rw [HLM.out, HM.out] at c5
  go_wp2_with fail
  refine c5.mono ?_
  rintro e w6 ⟨hb6, sl6, rfl, kM6⟩
  clear c5
  obtain ⟨am, cm, rfl⟩ := (Lst.kids kM6).slice
  have hz5 := hb5.size
  have hz6 := hb6.size
  have bn6 := bn5.below hb6 (Nat.le_refl _)
  have kN6 := kN5.below (fun b hb => Nat.lt_of_lt_of_le hb.2 hz5) hb6
  have hB6 := hB5.trans (hb6.mono hB5.size)
  have bm7 := Bt.new w6 (treeL p q) am (treeL p q).kids.length cm
  have hb7 := (Below.refl w6.heap.size w6).alloc (Nat.le_refl _) (.cells #[.int .i64 (treeL p q).kind, .string ⟨(treeL p q).text.toArray⟩, .int .i64 (treeL p q).num, .slice am (treeL p q).kids.length cm] 24)
  have hz7 := hb7.size
  have bn7 := bn6.below hb7 (Nat.le_refl _)
  have kN7 := kN6.below (fun b hb => Nat.lt_of_lt_of_le hb.2 (Nat.le_trans hz5 hz6)) hb7
  have kM7 := kM6.below (fun b hb => hb.2) hb7
  have hB7 := hB6.trans (hb7.mono hB6.size)
  have lq := level_any q (w6.alloc (.cells #[.int .i64 (treeL p q).kind, .string ⟨(treeL p q).text.toArray⟩, .int .i64 (treeL p q).num, .slice am (treeL p q).kids.length cm] 24))
  have lp := level_any p (w6.alloc (.cells #[.int .i64 (treeL p q).kind, .string ⟨(treeL p q).text.toArray⟩, .int .i64 (treeL p q).num, .slice am (treeL p q).kids.length cm] 24))
  rw [hR] at lq
  rw [hP] at lp
  go_wp2_with fail
  refine lq.mono ?_
  rintro e w7 ⟨rfl, rfl⟩
  go_wp2_with fail
  refine lp.mono ?_
  rintro e w7 ⟨rfl, hw7⟩
  subst hw7
  clear lp lq
  have hSN7 : ∀ b, Rg w3.heap.size w4.heap.size b → b < (w6.alloc (.cells #[.int .i64 (treeL p q).kind, .string ⟨(treeL p q).text.toArray⟩, .int .i64 (treeL p q).num, .slice am (treeL p q).kids.length cm] 24)).heap.size := fun b hb => Nat.lt_of_lt_of_le hb.2 (Nat.le_trans hz5 (Nat.le_trans hz6 hz7))
  have hSM7 : ∀ lo b : Nat, lo ≤ b ∧ b < w6.heap.size → b < (w6.alloc (.cells #[.int .i64 (treeL p q).kind, .string ⟨(treeL p q).text.toArray⟩, .int .i64 (treeL p q).num, .slice am (treeL p q).kids.length cm] 24)).heap.size := fun _ b hb => Nat.lt_of_lt_of_le hb.2 hz7
  generalize hW7 : w6.alloc (.cells #[.int .i64 (treeL p q).kind, .string ⟨(treeL p q).text.toArray⟩, .int .i64 (treeL p q).num, .slice am (treeL p q).kids.length cm] 24) = w7 at *
  have hne : w4.heap.size ≠ w6.heap.size := by have := bn6.lt; omega
  have hl46 : w4.heap.size ≤ w6.heap.size := Nat.le_trans hz5 hz6
  have hbs := hB6.size
  clear hW7 hb7 hb6 hb5 hb4
  by_cases hr : rankL p < rankL q
  · have hr' : decide (rankL q > rankL p) = true := by simpa using hr
    have eR : parseP (textR p q) = (some (treeN p q), 0, 0) := by
      have h2 := HH.out.2
      unfold treeN
      rw [if_pos hr] at h2 ⊢
      simp only [Bool.and_eq_true] at h2
      exact isP_eq h2.2
    have c8 := parse_any (⟨#[102, 117, 110, 99, 32, 102, 40, 41, 32, 123, 32, 114, 101, 116, 117, 114, 110, 32, 97, 32]⟩ ++ P ++ ⟨#[32, 40, 98, 32]⟩ ++ R ++ ⟨#[32, 99, 41, 59, 32, 125]⟩) (size_toL HLR.out (textR_len sp sq) (by decide)) w7 (hG.later hB7)
    rw [HLR.out, eR] at c8
    clear eR
    go_wp2_with fail
    refine c8.mono ?_
    rintro e w8' ⟨hb8', sl8, rfl, kM8'⟩
    clear c8
    obtain ⟨am', cm', rfl⟩ := (Lst.kids kM8').slice
    have bm8' := bm7.below hb8' (Nat.le_refl _)
    have bn8' := bn7.below hb8' (Nat.le_refl _)
    have kN8' := kN7.below hSN7 hb8'
    have hz8' := hb8'.size
    have hB8' := hB7.trans (hb8'.mono hB7.size)
    obtain ⟨v0, v1, v2, v3, vf⟩ := bm8'.cells
    have vf0 := vf 0
    have vf1 := vf 1
    have vf2 := vf 2
    have vf3 := vf 3
    clear vf
    obtain ⟨WW, hWW, hput, bmW⟩ := bm8'.put (treeN p q) am' (treeN p q).kids.length cm'
    have bnW := bn8'.of_block (hput.block _ hne)
    have kNW : KT WW (Rg w3.heap.size w4.heap.size) (treeN p q) (.slice an (treeN p q).kids.length cn) := kN8'.fr (fun b hb => hput.block b (by have := hb.2; omega)) (fun _ h => h)
    have hl67 : w6.heap.size < w7.heap.size := bm7.lt
    have kMW : KT WW (Rg w7.heap.size w8'.heap.size) (treeN p q) (.slice am' (treeN p q).kids.length cm') := kM8'.fr (fun b hb => hput.block b (by have := hb.1; omega)) (fun _ h => h)
    have hBW : Below w.heap.size w WW := below_put hB8' hput hbs
    have hGW := hG.later hBW
    have hSNW : ∀ b, Rg w3.heap.size w4.heap.size b → b < WW.heap.size := fun b hb => by rw [hput.size]; exact Nat.lt_of_lt_of_le (hSN7 b hb) hz8'
    have hSMW : ∀ b, Rg w7.heap.size w8'.heap.size b → b < WW.heap.size := fun b hb => by rw [hput.size]; exact hb.2
    go_wp2_with fail
    clear v0 v1 v2 v3 vf0 vf1 vf2 vf3 hWW hput bm8' bn8' kN8' kM8' bm7 bn7 kN7 kM7
    refine (awake_any WW hGW).mono ?_
    rintro e w8 ⟨rfl, hb8⟩
    have hz8 := hb8.size
    have bn8 := bnW.below hb8 (Nat.le_refl _)
    have bm8 := bmW.below hb8 (Nat.le_refl _)
    have kN8 := kNW.below hSNW hb8
    have kM8 := kMW.below hSMW hb8
    have hB8 := hBW.trans (hb8.mono hBW.size)
    have cS := same_any 10 (treeN p q).kind (treeN p q).text (treeN p q).num (treeN p q).kids (treeN p q).kind (treeN p q).text (treeN p q).num (treeN p q).kids an cn am' cm' _ _ w8 (by have := treeN_lim p q; cases hh : treeN p q; rw [hh] at this; exact this) (fun b hb => Nat.lt_of_lt_of_le (hSNW b hb) hz8) (fun b hb => Nat.lt_of_lt_of_le (hSMW b hb) hz8) (by cases hh : treeN p q; rw [hh] at kN8; exact kN8) (by cases hh : treeN p q; rw [hh] at kM8; exact kM8)
    obtain ⟨n0, n1, n2, n3, _⟩ := bn8.cells
    obtain ⟨m0, m1, m2, m3, _⟩ := bm8.cells
    go_wp2_with fail
    refine cS.mono ?_
    rintro e w9 ⟨he9, hb9⟩
    rw [show sameT (.mk (treeN p q).kind (treeN p q).text (treeN p q).num (treeN p q).kids) (.mk (treeN p q).kind (treeN p q).text (treeN p q).num (treeN p q).kids) = true from sameT_refl _] at he9
    subst he9
    clear cS n0 n1 n2 n3 m0 m1 m2 m3
    have hz9 := hb9.size
    have bn9 := bn8.below hb9 (Nat.le_refl _)
    have kN9 := kN8.below (fun b hb => Nat.lt_of_lt_of_le (hSNW b hb) hz8) hb9
    have hB9 := hB8.trans (hb9.mono hB8.size)
    obtain ⟨n0, n1, n2, n3, _⟩ := bn9.cells
    obtain ⟨u, hu, huk⟩ := treeN_way p q
    have hbA := (Below.refl w9.heap.size w9).alloc (Nat.le_refl _) (.cells #[.int .i64 0, .int .i64 1, .int .i64 0, .int .i64 0] 3)
    have cT := atW_any [0, 1, 0, 0] (by simp) (treeN p q) u (.slice an (treeN p q).kids.length cn) _ _ (fun b hb => Nat.lt_of_lt_of_le (hSNW b hb) (Nat.le_trans hz8 (Nat.le_trans hz9 hbA.size))) (kN9.below (fun b hb => Nat.lt_of_lt_of_le (hSNW b hb) (Nat.le_trans hz8 hz9)) hbA) w9.heap.size 4 (by
      intro i x hx
      match i, hx with
      | 0, h => cases h; exact ⟨by rw [World.cell?_alloc_new]; rfl, by decide⟩
      | 1, h => cases h; exact ⟨by rw [World.cell?_alloc_new]; rfl, by decide⟩
      | 2, h => cases h; exact ⟨by rw [World.cell?_alloc_new]; rfl, by decide⟩
      | 3, h => cases h; exact ⟨by rw [World.cell?_alloc_new]; rfl, by decide⟩) hu
    have hfd := field_node0
    go_wp2_with fail
    refine cT.mono ?_
    rintro e w10 ⟨sl10, rfl, hb10⟩
    clear cT
    have hku : (u.kind == 53) = true := by rw [huk]; rfl
    go_wp2
    go_ret
    exact ⟨rfl, hB9.trans ((hbA.mono hB9.size).trans (hb10.mono (Nat.le_trans hB9.size hbA.size)))⟩
  · have hr' : decide (rankL q > rankL p) = false := by simpa using hr
    have eT : treeL p q = treeN p q := by unfold treeN; rw [if_neg hr]
    have bmW := bm7
    have bnW := bn7
    have kNW := kN7
    have kMW := kM7
    have hBW := hB7
    have hGW := hG.later hB7
    have hSNW := hSN7
    have hSMW := hSM7 (w4.alloc (.cells #[.int .i64 (treeN p q).kind, .string ⟨(treeN p q).text.toArray⟩, .int .i64 (treeN p q).num, .slice an (treeN p q).kids.length cn] 24)).heap.size
    clear bm7 bn7 kN7 kM7
    rw [eT] at bmW kMW
    rw [eT]
    generalize hWW : w7 = WW at *
    clear hWW
    go_wp2_with fail
    refine (awake_any WW hGW).mono ?_
    rintro e w8 ⟨rfl, hb8⟩
    have hz8 := hb8.size
    have bn8 := bnW.below hb8 (Nat.le_refl _)
    have bm8 := bmW.below hb8 (Nat.le_refl _)
    have kN8 := kNW.below hSNW hb8
    have kM8 := kMW.below hSMW hb8
    have hB8 := hBW.trans (hb8.mono hBW.size)
    have cS := same_any 10 (treeN p q).kind (treeN p q).text (treeN p q).num (treeN p q).kids (treeN p q).kind (treeN p q).text (treeN p q).num (treeN p q).kids an cn am cm _ _ w8 (by have := treeN_lim p q; cases hh : treeN p q; rw [hh] at this; exact this) (fun b hb => Nat.lt_of_lt_of_le (hSNW b hb) hz8) (fun b hb => Nat.lt_of_lt_of_le (hSMW b hb) hz8) (by cases hh : treeN p q; rw [hh] at kN8; exact kN8) (by cases hh : treeN p q; rw [hh] at kM8; exact kM8)
    obtain ⟨n0, n1, n2, n3, _⟩ := bn8.cells
    obtain ⟨m0, m1, m2, m3, _⟩ := bm8.cells
    go_wp2_with fail
    refine cS.mono ?_
    rintro e w9 ⟨he9, hb9⟩
    rw [show sameT (.mk (treeN p q).kind (treeN p q).text (treeN p q).num (treeN p q).kids) (.mk (treeN p q).kind (treeN p q).text (treeN p q).num (treeN p q).kids) = true from sameT_refl _] at he9
    subst he9
    clear cS n0 n1 n2 n3 m0 m1 m2 m3
    have hz9 := hb9.size
    have bn9 := bn8.below hb9 (Nat.le_refl _)
    have kN9 := kN8.below (fun b hb => Nat.lt_of_lt_of_le (hSNW b hb) hz8) hb9
    have hB9 := hB8.trans (hb9.mono hB8.size)
    obtain ⟨n0, n1, n2, n3, _⟩ := bn9.cells
    obtain ⟨u, hu, huk⟩ := treeN_way p q
    have hbA := (Below.refl w9.heap.size w9).alloc (Nat.le_refl _) (.cells #[.int .i64 0, .int .i64 1, .int .i64 0, .int .i64 0] 3)
    have cT := atW_any [0, 1, 0, 0] (by simp) (treeN p q) u (.slice an (treeN p q).kids.length cn) _ _ (fun b hb => Nat.lt_of_lt_of_le (hSNW b hb) (Nat.le_trans hz8 (Nat.le_trans hz9 hbA.size))) (kN9.below (fun b hb => Nat.lt_of_lt_of_le (hSNW b hb) (Nat.le_trans hz8 hz9)) hbA) w9.heap.size 4 (by
      intro i x hx
      match i, hx with
      | 0, h => cases h; exact ⟨by rw [World.cell?_alloc_new]; rfl, by decide⟩
      | 1, h => cases h; exact ⟨by rw [World.cell?_alloc_new]; rfl, by decide⟩
      | 2, h => cases h; exact ⟨by rw [World.cell?_alloc_new]; rfl, by decide⟩
      | 3, h => cases h; exact ⟨by rw [World.cell?_alloc_new]; rfl, by decide⟩) hu
    have hfd := field_node0
    go_wp2_with fail
    refine cT.mono ?_
    rintro e w10 ⟨sl10, rfl, hb10⟩
    clear cT
    have hku : (u.kind == 53) = true := by rw [huk]; rfl
    go_wp2
    go_ret
    exact ⟨rfl, hB9.trans ((hbA.mono hB9.size).trans (hb10.mono (Nat.le_trans hB9.size hbA.size)))⟩
end Go.Proofs.YtnkphlkjhgngkaaGreatDoor
