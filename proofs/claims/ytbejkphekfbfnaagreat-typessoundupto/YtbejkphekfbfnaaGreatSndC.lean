/- Tests of types, signatures, blocks and ifs. -/
import Derived.Test.YtbejkphekfbfnaaGreatSndB
namespace Go.Proofs.YtbejkphekfbfnaaGreat
open Go.RowKit
attribute [local go_sem ↓] Go.wp_at_zero Go.wp_at_succ

/-- A test's world later on: the node lies in its box. -/
def Hx (w : World) (c0 c1 c2 c3 : Value) (W : World) : Prop := Below (w.heap.size + 1) (w.alloc (.cells #[c0, c1, c2, c3] 24)) W
section
variable {w W W' : World} {c0 c1 c2 c3 : Value}
theorem Hx.start : Hx w c0 c1 c2 c3 (w.alloc (.cells #[c0, c1, c2, c3] 24)) := Below.refl _ _
theorem Hx.size (h : Hx w c0 c1 c2 c3 W) : w.heap.size + 1 ≤ W.heap.size := by have := Below.size h; simpa using this
theorem Hx.next (h : Hx w c0 c1 c2 c3 W) (hb : Below W.heap.size W W') : Hx w c0 c1 c2 c3 W' := Below.trans h (hb.mono h.size)
theorem Hx.out (h : Hx w c0 c1 c2 c3 W) : Below w.heap.size w W := ((Below.refl w.heap.size w).alloc (Nat.le_refl _) _).trans (Below.mono h (by omega))
theorem Hx.cells (h : Hx w c0 c1 c2 c3 W) : W.cell? ⟨w.heap.size, 0, none⟩ = some c0 ∧ W.cell? ⟨w.heap.size, 1, none⟩ = some c1 ∧ W.cell? ⟨w.heap.size, 2, none⟩ = some c2 ∧ W.cell? ⟨w.heap.size, 3, none⟩ = some c3 := by
  have r : ∀ o, W.cell? ⟨w.heap.size, o, none⟩ = (w.alloc (.cells #[c0, c1, c2, c3] 24)).cell? ⟨w.heap.size, o, none⟩ := fun o => Below.cell (p := ⟨w.heap.size, o, none⟩) h (by simp)
  refine ⟨?_, ?_, ?_, ?_⟩ <;> · rw [r, World.cell?_alloc_new]; rfl
end
section
variable {g g1 g2 g3 n : Nat} {p p1 p2 p3 : Tr → Bool} {ts : List Tr} {t : Tr} {sl : Value} {S : Nat → Prop} {w W : World}
theorem Tst.at (T : Tst g n p) (hG : Gl w) (hS : ∀ b, S b → b < w.heap.size) (hF : Fit n t) (hk : KT w S t sl) (hB : Below w.heap.size w W) :
    Calls Tryz.prog g #[tv t sl] W fun e w' => e = .returned (.bool (p t)) ∧ Below W.heap.size W w' :=
  T t sl S W (hG.later hB) (fun b hb => Nat.lt_of_lt_of_le (hS b hb) hB.size) hF (hk.fr (fun b hb => hB.block b (hS b hb)) (fun _ h => h))
theorem everyW (he : Enters Tryz.prog g) (T : Tst g n p) (hG : Gl w) (hS : ∀ b, S b → b < w.heap.size) (hF : ∀ t ∈ ts, Fit n t) (hn : ts.length ≤ 20000) (hL : Lst w S ts sl) (hB : Below w.heap.size w W) :
    Calls Tryz.prog 103 #[sl, .func (.func g) #[] #[]] W fun e w' => e = .returned (.bool (ts.all p)) ∧ Below W.heap.size W w' :=
  everyL he T (hG.later hB) (fun b hb => Nat.lt_of_lt_of_le (hS b hb) hB.size) hF hn (hL.fr (fun b hb => hB.block b (hS b hb)) (fun _ h => h))
theorem partedW (he1 : Enters Tryz.prog g1) (he2 : Enters Tryz.prog g2) (T1 : Tst g1 n p1) (T2 : Tst g2 n p2) (hG : Gl w) (hS : ∀ b, S b → b < w.heap.size) (hF : ∀ t ∈ ts, Fit n t) (hn : ts.length ≤ 20000) (hL : Lst w S ts sl) (hB : Below w.heap.size w W) (count : Int) :
    Calls Tryz.prog 139 #[sl, .int .i64 count, .func (.func g1) #[] #[], .func (.func g2) #[] #[]] W fun e w' => e = .returned (.bool (partedB ts count p1 p2)) ∧ Below W.heap.size W w' :=
  partedL he1 he2 T1 T2 (hG.later hB) (fun b hb => Nat.lt_of_lt_of_le (hS b hb) hB.size) hF hn (hL.fr (fun b hb => hB.block b (hS b hb)) (fun _ h => h)) count
theorem rowW0 (hL : Lst w S ts sl) (_hB : Below w.heap.size w W) :
    Calls Tryz.prog 123 #[sl, .slice none 0 0] W fun e w' => e = .returned (.bool (rowB [] ts)) ∧ Below W.heap.size W w' := by
  obtain ⟨ao, cap, rfl⟩ := hL.slice
  cases ts with
  | nil => exact (row_nil ao none cap 0 W).mono fun e w' ⟨h1, h2⟩ => ⟨h1, h2 ▸ Below.refl _ _⟩
  | cons a b => exact (row_ne ao none _ 0 cap 0 (by simp) W).mono fun e w' ⟨h1, h2⟩ => ⟨h1, h2 ▸ Below.refl _ _⟩
theorem rowWN (gs : List (Nat × (Tr → Bool))) {a : Array Value} (ha : a = (gs.map fun q => Value.func (.func q.1) #[] #[]).toArray) (hgn : 0 < gs.length ∧ gs.length ≤ 1000) (hg : ∀ q ∈ gs, Enters Tryz.prog q.1 ∧ Tst q.1 n q.2)
    (hG : Gl w) (hS : ∀ b, S b → b < w.heap.size) (hF : ∀ t ∈ ts, Fit n t) (hL : Lst w S ts sl) (hB : Below w.heap.size w W) :
    Calls Tryz.prog 123 #[sl, .slice (some ⟨W.heap.size, 0, none⟩) gs.length gs.length] (W.alloc (.cells a 112)) fun e w' => e = .returned (.bool (rowB (gs.map (·.2)) ts)) ∧ Below W.heap.size W w' := by
  have hB' := hB.alloc hB.size (.cells a 112)
  have hz : w.heap.size ≤ (W.alloc (.cells a 112)).heap.size := hB'.size
  have hc := rowL gs (W.heap.size) gs.length (hG.later hB') (fun b hb => Nat.lt_of_lt_of_le (hS b hb) hz) hF hgn (hL.fr (fun b hb => hB'.block b (hS b hb)) (fun _ h => h)) (fun i g p h => by
    have hm := List.mem_of_getElem? h
    refine ⟨(hg _ hm).1, ?_, (hg _ hm).2⟩
    rw [World.cell?_alloc_new, ha]
    simp [h])
  exact hc.mono fun e w' ⟨h1, h2⟩ => ⟨h1, ((Below.refl W.heap.size W).alloc (Nat.le_refl _) _).trans (h2.mono (by simp))⟩
theorem rowW1 (e1 : Enters Tryz.prog g1) (T1 : Tst g1 n p1) (hG : Gl w) (hS : ∀ b, S b → b < w.heap.size) (hF : ∀ t ∈ ts, Fit n t) (hL : Lst w S ts sl) (hB : Below w.heap.size w W) :
    Calls Tryz.prog 123 #[sl, .slice (some ⟨W.heap.size, 0, none⟩) 1 1] (W.alloc (.cells #[.func (.func g1) #[] #[]] 112)) fun e w' => e = .returned (.bool (rowB [p1] ts)) ∧ Below W.heap.size W w' :=
  rowWN [(g1, p1)] rfl (by simp) (by simp; exact ⟨e1, T1⟩) hG hS hF hL hB
theorem rowW2 (e1 : Enters Tryz.prog g1) (e2 : Enters Tryz.prog g2) (T1 : Tst g1 n p1) (T2 : Tst g2 n p2) (hG : Gl w) (hS : ∀ b, S b → b < w.heap.size) (hF : ∀ t ∈ ts, Fit n t) (hL : Lst w S ts sl) (hB : Below w.heap.size w W) :
    Calls Tryz.prog 123 #[sl, .slice (some ⟨W.heap.size, 0, none⟩) 2 2] (W.alloc (.cells #[.func (.func g1) #[] #[], .func (.func g2) #[] #[]] 112)) fun e w' => e = .returned (.bool (rowB [p1, p2] ts)) ∧ Below W.heap.size W w' :=
  rowWN [(g1, p1), (g2, p2)] rfl (by simp) (by simp; exact ⟨⟨e1, T1⟩, e2, T2⟩) hG hS hF hL hB
theorem rowW3 (e1 : Enters Tryz.prog g1) (e2 : Enters Tryz.prog g2) (e3 : Enters Tryz.prog g3) (T1 : Tst g1 n p1) (T2 : Tst g2 n p2) (T3 : Tst g3 n p3) (hG : Gl w) (hS : ∀ b, S b → b < w.heap.size) (hF : ∀ t ∈ ts, Fit n t) (hL : Lst w S ts sl) (hB : Below w.heap.size w W) :
    Calls Tryz.prog 123 #[sl, .slice (some ⟨W.heap.size, 0, none⟩) 3 3] (W.alloc (.cells #[.func (.func g1) #[] #[], .func (.func g2) #[] #[], .func (.func g3) #[] #[]] 112)) fun e w' => e = .returned (.bool (rowB [p1, p2, p3] ts)) ∧ Below W.heap.size W w' :=
  rowWN [(g1, p1), (g2, p2), (g3, p3)] rfl (by simp) (by simp; exact ⟨⟨e1, T1⟩, ⟨e2, T2⟩, e3, T3⟩) hG hS hF hL hB
end
theorem tst_isCall {n : Nat} : Tst 154 n isCallT := fun t sl S w _ _ _ hk => by
  obtain ⟨ao, nn, c, rfl⟩ := hk.slice
  exact isCall_any t ao nn c w
theorem tst_isName {n : Nat} : Tst 152 n isNameT := fun t sl S w _ _ _ hk => by
  obtain ⟨ao, nn, c, rfl⟩ := hk.slice
  exact isNameN_any t ao nn c w
theorem tst_isPlace {n : Nat} : Tst 153 n isPlaceT := fun t sl S w _ _ _ hk => by
  obtain ⟨ao, nn, c, rfl⟩ := hk.slice
  exact isPlace_any t ao nn c w
theorem bareW {w W : World} (_hB : Below w.heap.size w W) (t : Tr) (ao : Option Addr) (n c : Nat) : Calls Tryz.prog 102 #[tv t (.slice ao n c)] W fun e w' => e = .returned (.bool (bareT t)) ∧ Below W.heap.size W w' := bareS_any t ao n c W
theorem numberedW {w W : World} (_hB : Below w.heap.size w W) (t : Tr) (ao : Option Addr) (n c : Nat) : Calls Tryz.prog 138 #[tv t (.slice ao n c)] W fun e w' => e = .returned (.bool (numberedT t)) ∧ Below W.heap.size W w' := numberedS_any t ao n c W
theorem prefixW {w W : World} (s : List UInt8) (_hB : Below w.heap.size w W) : Calls Tryz.prog 169 #[.string ⟨s.toArray⟩] W fun e w' => e = .returned (.bool (prefixL s)) ∧ Below W.heap.size W w' := (isPrefix_any s W).mono fun _ _ ⟨h1, h2⟩ => ⟨h1, h2 ▸ Below.refl _ _⟩
theorem rankW {w W : World} (s : List UInt8) (_hB : Below w.heap.size w W) : Calls Tryz.prog 170 #[.string ⟨s.toArray⟩] W fun e w' => e = .returned (.int .i64 (rankL s)) ∧ Below W.heap.size W w' := (rank_any s W).mono fun _ _ ⟨h1, h2⟩ => ⟨h1, h2 ▸ Below.refl _ _⟩
theorem ent_typ : Enters Tryz.prog 137 := enters_of Tryz.func137 (by kernel_rfl) rfl
theorem ent_par : Enters Tryz.prog 140 := enters_of Tryz.func140 (by kernel_rfl) rfl
theorem ent_sig : Enters Tryz.prog 124 := enters_of Tryz.func124 (by kernel_rfl) rfl
theorem ent_blk : Enters Tryz.prog 125 := enters_of Tryz.func125 (by kernel_rfl) rfl
theorem ent_els : Enters Tryz.prog 166 := enters_of Tryz.func166 (by kernel_rfl) rfl
theorem ent_stm : Enters Tryz.prog 141 := enters_of Tryz.func141 (by kernel_rfl) rfl
theorem ent_exp : Enters Tryz.prog 150 := enters_of Tryz.func150 (by kernel_rfl) rfl
theorem ent_fld : Enters Tryz.prog 121 := enters_of Tryz.func121 (by kernel_rfl) rfl
theorem ent_met : Enters Tryz.prog 122 := enters_of Tryz.func122 (by kernel_rfl) rfl
theorem ent_dec : Enters Tryz.prog 104 := enters_of Tryz.func104 (by kernel_rfl) rfl
theorem ent_rec : Enters Tryz.prog 126 := enters_of Tryz.func126 (by kernel_rfl) rfl
theorem ent_isCall : Enters Tryz.prog 154 := enters_of Tryz.func154 (by kernel_rfl) rfl
theorem ent_isName : Enters Tryz.prog 152 := enters_of Tryz.func152 (by kernel_rfl) rfl
theorem ent_isPlace : Enters Tryz.prog 153 := enters_of Tryz.func153 (by kernel_rfl) rfl

set_option maxRecDepth 20000 in
set_option maxHeartbeats 4000000 in
theorem par_step {n : Nat} {r : Q → Tr → Bool} (hTyp : Tst 137 n (r .typ)) : Tst 140 (n + 1) (parB r) := by
  intro t sl S w hG hS hF hk
  obtain ⟨k, s, m, ks⟩ := t
  obtain ⟨ao, c, rfl⟩ := (Lst.of hk).slice
  have hF0 := hF
  obtain ⟨hF1, hF2, hF3⟩ := hF0
  change ∀ t ∈ ks, Fit _ t at hF3
  change ks.length ≤ 20000 at hF1
  change s.length ≤ maxLen at hF2
  have hL := Lst.of hk
  have hkn : ks.length ≤ 20000 := hF1
  by_cases hk8 : k = 8
  · subst hk8
    have HR : Hid (parB r (.mk 8 s m ks) = (namedT (.mk 8 s m ks) && rowB [r .typ] ks)) := rfl
    have hX0 := Hx.start (w := w) (c0 := .int .i64 8) (c1 := .string ⟨s.toArray⟩) (c2 := .int .i64 m) (c3 := .slice ao ks.length c)
    have c1 := namedS_any (.mk 8 s m ks) ao ks.length c _ (hG.later hX0.out) hF2
    change Calls Tryz.prog 140 #[.agg #[.int .i64 8, .string ⟨s.toArray⟩, .int .i64 m, .slice ao ks.length c]] w _
    go_enter Tryz.func140, Tryz.ntmps140
    go_wp2_with fail
    refine c1.mono ?_
    rintro e w1 ⟨rfl, hb1⟩
    have hX1 := hX0.next hb1
    clear c1
    obtain ⟨x0, x1, x2, x3⟩ := hX1.cells
    cases h1 : namedT (.mk 8 s m ks) with
    | false =>
      have HX : Hid (parB r (.mk 8 s m ks) = false) := HR.out.trans (by rw [h1]; try rfl)
      clear h1
      go_wp2
      go_ret
      exact ⟨congrArg (fun b => Ending.returned (Value.bool b)) HX.out.symm, hX1.out⟩
    | true =>
      have HR1 : Hid (parB r (.mk 8 s m ks) = rowB [r .typ] ks) := HR.out.trans (by rw [h1]; try rfl)
      clear h1
      have c2 := rowW1 ent_typ hTyp hG hS hF3 hL hX1.out
      go_wp2_with fail
      refine c2.mono ?_
      rintro e w2 ⟨rfl, hb2⟩
      have hX2 := hX1.next hb2
      clear c2
      clear x0 x1 x2 x3
      obtain ⟨x0, x1, x2, x3⟩ := hX2.cells
      have HX := HR1
      go_wp2
      go_ret
      exact ⟨congrArg (fun b => Ending.returned (Value.bool b)) HX.out.symm, hX2.out⟩
  have HX : Hid (parB r (.mk k s m ks) = false) := by simp [Hid, parB, Tr.kind, hk8]
  have hX0 := Hx.start (w := w) (c0 := .int .i64 k) (c1 := .string ⟨s.toArray⟩) (c2 := .int .i64 m) (c3 := .slice ao ks.length c)
  have e8 : (k == 8) = false := by simpa using hk8
  clear hk8
  change Calls Tryz.prog 140 #[.agg #[.int .i64 k, .string ⟨s.toArray⟩, .int .i64 m, .slice ao ks.length c]] w _
  go_enter Tryz.func140, Tryz.ntmps140
  go_wp2
  go_ret
  exact ⟨congrArg (fun b => Ending.returned (Value.bool b)) HX.out.symm, hX0.out⟩

set_option maxRecDepth 20000 in
set_option maxHeartbeats 4000000 in
theorem sig_step {n : Nat} {r : Q → Tr → Bool} (hPar : Tst 140 n (r .par)) (hTyp : Tst 137 n (r .typ)) : Tst 124 (n + 1) (sigB r) := by
  intro t sl S w hG hS hF hk
  obtain ⟨k, s, m, ks⟩ := t
  obtain ⟨ao, c, rfl⟩ := (Lst.of hk).slice
  have hF0 := hF
  obtain ⟨hF1, hF2, hF3⟩ := hF0
  change ∀ t ∈ ks, Fit _ t at hF3
  change ks.length ≤ 20000 at hF1
  change s.length ≤ maxLen at hF2
  have hL := Lst.of hk
  have hkn : ks.length ≤ 20000 := hF1
  by_cases hk7 : k = 7
  · subst hk7
    have HR : Hid (sigB r (.mk 7 s m ks) = (numberedT (.mk 7 s m ks) && partedB ks m (r .par) (r .typ))) := rfl
    have hX0 := Hx.start (w := w) (c0 := .int .i64 7) (c1 := .string ⟨s.toArray⟩) (c2 := .int .i64 m) (c3 := .slice ao ks.length c)
    have c1 := numberedW hX0.out (.mk 7 s m ks) ao ks.length c
    change Calls Tryz.prog 124 #[.agg #[.int .i64 7, .string ⟨s.toArray⟩, .int .i64 m, .slice ao ks.length c]] w _
    go_enter Tryz.func124, Tryz.ntmps124
    go_wp2_with fail
    refine c1.mono ?_
    rintro e w1 ⟨rfl, hb1⟩
    have hX1 := hX0.next hb1
    clear c1
    obtain ⟨x0, x1, x2, x3⟩ := hX1.cells
    cases h1 : numberedT (.mk 7 s m ks) with
    | false =>
      have HX : Hid (sigB r (.mk 7 s m ks) = false) := HR.out.trans (by rw [h1]; try rfl)
      clear h1
      go_wp2
      go_ret
      exact ⟨congrArg (fun b => Ending.returned (Value.bool b)) HX.out.symm, hX1.out⟩
    | true =>
      have HR1 : Hid (sigB r (.mk 7 s m ks) = partedB ks m (r .par) (r .typ)) := HR.out.trans (by rw [h1]; try rfl)
      clear h1
      have c2 := partedW ent_par ent_typ hPar hTyp hG hS hF3 hF1 hL hX1.out m
      go_wp2_with fail
      refine c2.mono ?_
      rintro e w2 ⟨rfl, hb2⟩
      have hX2 := hX1.next hb2
      clear c2
      clear x0 x1 x2 x3
      obtain ⟨x0, x1, x2, x3⟩ := hX2.cells
      have HX := HR1
      go_wp2
      go_ret
      exact ⟨congrArg (fun b => Ending.returned (Value.bool b)) HX.out.symm, hX2.out⟩
  have HX : Hid (sigB r (.mk k s m ks) = false) := by simp [Hid, sigB, Tr.kind, hk7]
  have hX0 := Hx.start (w := w) (c0 := .int .i64 k) (c1 := .string ⟨s.toArray⟩) (c2 := .int .i64 m) (c3 := .slice ao ks.length c)
  have e7 : (k == 7) = false := by simpa using hk7
  clear hk7
  change Calls Tryz.prog 124 #[.agg #[.int .i64 k, .string ⟨s.toArray⟩, .int .i64 m, .slice ao ks.length c]] w _
  go_enter Tryz.func124, Tryz.ntmps124
  go_wp2
  go_ret
  exact ⟨congrArg (fun b => Ending.returned (Value.bool b)) HX.out.symm, hX0.out⟩

set_option maxRecDepth 20000 in
set_option maxHeartbeats 4000000 in
theorem typ_step {n : Nat} {r : Q → Tr → Bool} (hTyp : Tst 137 n (r .typ)) : Tst 137 (n + 1) (typB r) := by
  intro t sl S w hG hS hF hk
  obtain ⟨k, s, m, ks⟩ := t
  obtain ⟨ao, c, rfl⟩ := (Lst.of hk).slice
  have hF0 := hF
  obtain ⟨hF1, hF2, hF3⟩ := hF0
  change ∀ t ∈ ks, Fit _ t at hF3
  change ks.length ≤ 20000 at hF1
  change s.length ≤ maxLen at hF2
  have hL := Lst.of hk
  have hkn : ks.length ≤ 20000 := hF1
  by_cases hk10 : k = 10
  · subst hk10
    have HR : Hid (typB r (.mk 10 s m ks) = (namedT (.mk 10 s m ks) && rowB [] ks)) := rfl
    have hX0 := Hx.start (w := w) (c0 := .int .i64 10) (c1 := .string ⟨s.toArray⟩) (c2 := .int .i64 m) (c3 := .slice ao ks.length c)
    have c1 := namedS_any (.mk 10 s m ks) ao ks.length c _ (hG.later hX0.out) hF2
    change Calls Tryz.prog 137 #[.agg #[.int .i64 10, .string ⟨s.toArray⟩, .int .i64 m, .slice ao ks.length c]] w _
    go_enter Tryz.func137, Tryz.ntmps137
    go_wp2_with fail
    refine c1.mono ?_
    rintro e w1 ⟨rfl, hb1⟩
    have hX1 := hX0.next hb1
    clear c1
    obtain ⟨x0, x1, x2, x3⟩ := hX1.cells
    cases h1 : namedT (.mk 10 s m ks) with
    | false =>
      have HX : Hid (typB r (.mk 10 s m ks) = false) := HR.out.trans (by rw [h1]; try rfl)
      clear h1
      go_wp2
      go_ret
      exact ⟨congrArg (fun b => Ending.returned (Value.bool b)) HX.out.symm, hX1.out⟩
    | true =>
      have HR1 : Hid (typB r (.mk 10 s m ks) = rowB [] ks) := HR.out.trans (by rw [h1]; try rfl)
      clear h1
      have c2 := rowW0 hL hX1.out
      go_wp2_with fail
      refine c2.mono ?_
      rintro e w2 ⟨rfl, hb2⟩
      have hX2 := hX1.next hb2
      clear c2
      clear x0 x1 x2 x3
      obtain ⟨x0, x1, x2, x3⟩ := hX2.cells
      have HX := HR1
      go_wp2
      go_ret
      exact ⟨congrArg (fun b => Ending.returned (Value.bool b)) HX.out.symm, hX2.out⟩
  by_cases hk11 : k = 11
  · subst hk11
    have HR : Hid (typB r (.mk 11 s m ks) = (bareT (.mk 11 s m ks) && rowB [r .typ] ks)) := rfl
    have hX0 := Hx.start (w := w) (c0 := .int .i64 11) (c1 := .string ⟨s.toArray⟩) (c2 := .int .i64 m) (c3 := .slice ao ks.length c)
    have c1 := bareW hX0.out (.mk 11 s m ks) ao ks.length c
    change Calls Tryz.prog 137 #[.agg #[.int .i64 11, .string ⟨s.toArray⟩, .int .i64 m, .slice ao ks.length c]] w _
    go_enter Tryz.func137, Tryz.ntmps137
    go_wp2_with fail
    refine c1.mono ?_
    rintro e w1 ⟨rfl, hb1⟩
    have hX1 := hX0.next hb1
    clear c1
    obtain ⟨x0, x1, x2, x3⟩ := hX1.cells
    cases h1 : bareT (.mk 11 s m ks) with
    | false =>
      have HX : Hid (typB r (.mk 11 s m ks) = false) := HR.out.trans (by rw [h1]; try rfl)
      clear h1
      go_wp2
      go_ret
      exact ⟨congrArg (fun b => Ending.returned (Value.bool b)) HX.out.symm, hX1.out⟩
    | true =>
      have HR1 : Hid (typB r (.mk 11 s m ks) = rowB [r .typ] ks) := HR.out.trans (by rw [h1]; try rfl)
      clear h1
      have c2 := rowW1 ent_typ hTyp hG hS hF3 hL hX1.out
      go_wp2_with fail
      refine c2.mono ?_
      rintro e w2 ⟨rfl, hb2⟩
      have hX2 := hX1.next hb2
      clear c2
      clear x0 x1 x2 x3
      obtain ⟨x0, x1, x2, x3⟩ := hX2.cells
      have HX := HR1
      go_wp2
      go_ret
      exact ⟨congrArg (fun b => Ending.returned (Value.bool b)) HX.out.symm, hX2.out⟩
  by_cases hk12 : k = 12
  · subst hk12
    have HR : Hid (typB r (.mk 12 s m ks) = (bareT (.mk 12 s m ks) && rowB [r .typ] ks)) := rfl
    have hX0 := Hx.start (w := w) (c0 := .int .i64 12) (c1 := .string ⟨s.toArray⟩) (c2 := .int .i64 m) (c3 := .slice ao ks.length c)
    have c1 := bareW hX0.out (.mk 12 s m ks) ao ks.length c
    change Calls Tryz.prog 137 #[.agg #[.int .i64 12, .string ⟨s.toArray⟩, .int .i64 m, .slice ao ks.length c]] w _
    go_enter Tryz.func137, Tryz.ntmps137
    go_wp2_with fail
    refine c1.mono ?_
    rintro e w1 ⟨rfl, hb1⟩
    have hX1 := hX0.next hb1
    clear c1
    obtain ⟨x0, x1, x2, x3⟩ := hX1.cells
    cases h1 : bareT (.mk 12 s m ks) with
    | false =>
      have HX : Hid (typB r (.mk 12 s m ks) = false) := HR.out.trans (by rw [h1]; try rfl)
      clear h1
      go_wp2
      go_ret
      exact ⟨congrArg (fun b => Ending.returned (Value.bool b)) HX.out.symm, hX1.out⟩
    | true =>
      have HR1 : Hid (typB r (.mk 12 s m ks) = rowB [r .typ] ks) := HR.out.trans (by rw [h1]; try rfl)
      clear h1
      have c2 := rowW1 ent_typ hTyp hG hS hF3 hL hX1.out
      go_wp2_with fail
      refine c2.mono ?_
      rintro e w2 ⟨rfl, hb2⟩
      have hX2 := hX1.next hb2
      clear c2
      clear x0 x1 x2 x3
      obtain ⟨x0, x1, x2, x3⟩ := hX2.cells
      have HX := HR1
      go_wp2
      go_ret
      exact ⟨congrArg (fun b => Ending.returned (Value.bool b)) HX.out.symm, hX2.out⟩
  by_cases hk13 : k = 13
  · subst hk13
    have HR : Hid (typB r (.mk 13 s m ks) = (numberedT (.mk 13 s m ks) && partedB ks m (r .typ) (r .typ))) := rfl
    have hX0 := Hx.start (w := w) (c0 := .int .i64 13) (c1 := .string ⟨s.toArray⟩) (c2 := .int .i64 m) (c3 := .slice ao ks.length c)
    have c1 := numberedW hX0.out (.mk 13 s m ks) ao ks.length c
    change Calls Tryz.prog 137 #[.agg #[.int .i64 13, .string ⟨s.toArray⟩, .int .i64 m, .slice ao ks.length c]] w _
    go_enter Tryz.func137, Tryz.ntmps137
    go_wp2_with fail
    refine c1.mono ?_
    rintro e w1 ⟨rfl, hb1⟩
    have hX1 := hX0.next hb1
    clear c1
    obtain ⟨x0, x1, x2, x3⟩ := hX1.cells
    cases h1 : numberedT (.mk 13 s m ks) with
    | false =>
      have HX : Hid (typB r (.mk 13 s m ks) = false) := HR.out.trans (by rw [h1]; try rfl)
      clear h1
      go_wp2
      go_ret
      exact ⟨congrArg (fun b => Ending.returned (Value.bool b)) HX.out.symm, hX1.out⟩
    | true =>
      have HR1 : Hid (typB r (.mk 13 s m ks) = partedB ks m (r .typ) (r .typ)) := HR.out.trans (by rw [h1]; try rfl)
      clear h1
      have c2 := partedW ent_typ ent_typ hTyp hTyp hG hS hF3 hF1 hL hX1.out m
      go_wp2_with fail
      refine c2.mono ?_
      rintro e w2 ⟨rfl, hb2⟩
      have hX2 := hX1.next hb2
      clear c2
      clear x0 x1 x2 x3
      obtain ⟨x0, x1, x2, x3⟩ := hX2.cells
      have HX := HR1
      go_wp2
      go_ret
      exact ⟨congrArg (fun b => Ending.returned (Value.bool b)) HX.out.symm, hX2.out⟩
  have HX : Hid (typB r (.mk k s m ks) = false) := by simp [Hid, typB, Tr.kind, hk10, hk11, hk12, hk13]
  have hX0 := Hx.start (w := w) (c0 := .int .i64 k) (c1 := .string ⟨s.toArray⟩) (c2 := .int .i64 m) (c3 := .slice ao ks.length c)
  have e10 : (k == 10) = false := by simpa using hk10
  clear hk10
  have e11 : (k == 11) = false := by simpa using hk11
  clear hk11
  have e12 : (k == 12) = false := by simpa using hk12
  clear hk12
  have e13 : (k == 13) = false := by simpa using hk13
  clear hk13
  change Calls Tryz.prog 137 #[.agg #[.int .i64 k, .string ⟨s.toArray⟩, .int .i64 m, .slice ao ks.length c]] w _
  go_enter Tryz.func137, Tryz.ntmps137
  go_wp2
  go_ret
  exact ⟨congrArg (fun b => Ending.returned (Value.bool b)) HX.out.symm, hX0.out⟩

set_option maxRecDepth 20000 in
set_option maxHeartbeats 4000000 in
theorem blk_step {n : Nat} {r : Q → Tr → Bool} (hStm : Tst 141 n (r .stm)) : Tst 125 (n + 1) (blkB r) := by
  intro t sl S w hG hS hF hk
  obtain ⟨k, s, m, ks⟩ := t
  obtain ⟨ao, c, rfl⟩ := (Lst.of hk).slice
  have hF0 := hF
  obtain ⟨hF1, hF2, hF3⟩ := hF0
  change ∀ t ∈ ks, Fit _ t at hF3
  change ks.length ≤ 20000 at hF1
  change s.length ≤ maxLen at hF2
  have hL := Lst.of hk
  have hkn : ks.length ≤ 20000 := hF1
  by_cases hk20 : k = 20
  · subst hk20
    have HR : Hid (blkB r (.mk 20 s m ks) = (bareT (.mk 20 s m ks) && ks.all (r .stm))) := rfl
    have hX0 := Hx.start (w := w) (c0 := .int .i64 20) (c1 := .string ⟨s.toArray⟩) (c2 := .int .i64 m) (c3 := .slice ao ks.length c)
    have c1 := bareW hX0.out (.mk 20 s m ks) ao ks.length c
    change Calls Tryz.prog 125 #[.agg #[.int .i64 20, .string ⟨s.toArray⟩, .int .i64 m, .slice ao ks.length c]] w _
    go_enter Tryz.func125, Tryz.ntmps125
    go_wp2_with fail
    refine c1.mono ?_
    rintro e w1 ⟨rfl, hb1⟩
    have hX1 := hX0.next hb1
    clear c1
    obtain ⟨x0, x1, x2, x3⟩ := hX1.cells
    cases h1 : bareT (.mk 20 s m ks) with
    | false =>
      have HX : Hid (blkB r (.mk 20 s m ks) = false) := HR.out.trans (by rw [h1]; try rfl)
      clear h1
      go_wp2
      go_ret
      exact ⟨congrArg (fun b => Ending.returned (Value.bool b)) HX.out.symm, hX1.out⟩
    | true =>
      have HR1 : Hid (blkB r (.mk 20 s m ks) = ks.all (r .stm)) := HR.out.trans (by rw [h1]; try rfl)
      clear h1
      have c2 := everyW ent_stm hStm hG hS hF3 hF1 hL hX1.out
      go_wp2_with fail
      refine c2.mono ?_
      rintro e w2 ⟨rfl, hb2⟩
      have hX2 := hX1.next hb2
      clear c2
      clear x0 x1 x2 x3
      obtain ⟨x0, x1, x2, x3⟩ := hX2.cells
      have HX := HR1
      go_wp2
      go_ret
      exact ⟨congrArg (fun b => Ending.returned (Value.bool b)) HX.out.symm, hX2.out⟩
  have HX : Hid (blkB r (.mk k s m ks) = false) := by simp [Hid, blkB, Tr.kind, hk20]
  have hX0 := Hx.start (w := w) (c0 := .int .i64 k) (c1 := .string ⟨s.toArray⟩) (c2 := .int .i64 m) (c3 := .slice ao ks.length c)
  have e20 : (k == 20) = false := by simpa using hk20
  clear hk20
  change Calls Tryz.prog 125 #[.agg #[.int .i64 k, .string ⟨s.toArray⟩, .int .i64 m, .slice ao ks.length c]] w _
  go_enter Tryz.func125, Tryz.ntmps125
  go_wp2
  go_ret
  exact ⟨congrArg (fun b => Ending.returned (Value.bool b)) HX.out.symm, hX0.out⟩

set_option maxRecDepth 20000 in
set_option maxHeartbeats 4000000 in
theorem if_step {n : Nat} {r : Q → Tr → Bool} (hExp : Tst 150 n (r .exp)) (hBlk : Tst 125 n (r .blk)) (hEls : Tst 166 n (r .els)) : Tst 149 (n + 1) (ifB r) := by
  intro t sl S w hG hS hF hk
  obtain ⟨k, s, m, ks⟩ := t
  obtain ⟨ao, c, rfl⟩ := (Lst.of hk).slice
  have hF0 := hF
  obtain ⟨hF1, hF2, hF3⟩ := hF0
  change ∀ t ∈ ks, Fit _ t at hF3
  change ks.length ≤ 20000 at hF1
  change s.length ≤ maxLen at hF2
  have hL := Lst.of hk
  have hkn : ks.length ≤ 20000 := hF1
  by_cases hk25 : k = 25
  · subst hk25
    have HR : Hid (ifB r (.mk 25 s m ks) = (bareT (.mk 25 s m ks) && (rowB [r .exp, r .blk] ks || rowB [r .exp, r .blk, r .els] ks))) := rfl
    have hX0 := Hx.start (w := w) (c0 := .int .i64 25) (c1 := .string ⟨s.toArray⟩) (c2 := .int .i64 m) (c3 := .slice ao ks.length c)
    have c1 := bareW hX0.out (.mk 25 s m ks) ao ks.length c
    change Calls Tryz.prog 149 #[.agg #[.int .i64 25, .string ⟨s.toArray⟩, .int .i64 m, .slice ao ks.length c]] w _
    go_enter Tryz.func149, Tryz.ntmps149
    go_wp2_with fail
    refine c1.mono ?_
    rintro e w1 ⟨rfl, hb1⟩
    have hX1 := hX0.next hb1
    clear c1
    obtain ⟨x0, x1, x2, x3⟩ := hX1.cells
    cases h1 : bareT (.mk 25 s m ks) with
    | false =>
      have HX : Hid (ifB r (.mk 25 s m ks) = false) := HR.out.trans (by rw [h1]; try rfl)
      clear h1
      go_wp2
      go_ret
      exact ⟨congrArg (fun b => Ending.returned (Value.bool b)) HX.out.symm, hX1.out⟩
    | true =>
      have HR1 : Hid (ifB r (.mk 25 s m ks) = (rowB [r .exp, r .blk] ks || rowB [r .exp, r .blk, r .els] ks)) := HR.out.trans (by rw [h1]; try rfl)
      clear h1
      have c2 := rowW2 ent_exp ent_blk hExp hBlk hG hS hF3 hL hX1.out
      go_wp2_with fail
      refine c2.mono ?_
      rintro e w2 ⟨rfl, hb2⟩
      have hX2 := hX1.next hb2
      clear c2
      clear x0 x1 x2 x3
      obtain ⟨x0, x1, x2, x3⟩ := hX2.cells
      cases h2 : rowB [r .exp, r .blk] ks with
      | true =>
        have HX : Hid (ifB r (.mk 25 s m ks) = true) := HR1.out.trans (by rw [h2]; try rfl)
        clear h2
        go_wp2
        go_ret
        exact ⟨congrArg (fun b => Ending.returned (Value.bool b)) HX.out.symm, hX2.out⟩
      | false =>
        have HR2 : Hid (ifB r (.mk 25 s m ks) = rowB [r .exp, r .blk, r .els] ks) := HR1.out.trans (by rw [h2]; try rfl)
        clear h2
        have c3 := rowW3 ent_exp ent_blk ent_els hExp hBlk hEls hG hS hF3 hL hX2.out
        go_wp2_with fail
        refine c3.mono ?_
        rintro e w3 ⟨rfl, hb3⟩
        have hX3 := hX2.next hb3
        clear c3
        clear x0 x1 x2 x3
        obtain ⟨x0, x1, x2, x3⟩ := hX3.cells
        have HX := HR2
        go_wp2
        go_ret
        exact ⟨congrArg (fun b => Ending.returned (Value.bool b)) HX.out.symm, hX3.out⟩
  have HX : Hid (ifB r (.mk k s m ks) = false) := by simp [Hid, ifB, Tr.kind, hk25]
  have hX0 := Hx.start (w := w) (c0 := .int .i64 k) (c1 := .string ⟨s.toArray⟩) (c2 := .int .i64 m) (c3 := .slice ao ks.length c)
  have e25 : (k == 25) = false := by simpa using hk25
  clear hk25
  change Calls Tryz.prog 149 #[.agg #[.int .i64 k, .string ⟨s.toArray⟩, .int .i64 m, .slice ao ks.length c]] w _
  go_enter Tryz.func149, Tryz.ntmps149
  go_wp2
  go_ret
  exact ⟨congrArg (fun b => Ending.returned (Value.bool b)) HX.out.symm, hX0.out⟩

set_option maxRecDepth 20000 in
set_option maxHeartbeats 4000000 in
theorem els_step {n : Nat} {r : Q → Tr → Bool} (hBlkS : Tst 125 (n + 1) (blkB r)) (hIfS : Tst 149 (n + 1) (ifB r)) : Tst 166 (n + 1) (elsB r) := by
  intro t sl S w hG hS hF hk
  obtain ⟨k, s, m, ks⟩ := t
  obtain ⟨ao, c, rfl⟩ := (Lst.of hk).slice
  have hF0 := hF
  obtain ⟨hF1, hF2, hF3⟩ := hF0
  change ∀ t ∈ ks, Fit _ t at hF3
  change ks.length ≤ 20000 at hF1
  change s.length ≤ maxLen at hF2
  have hL := Lst.of hk
  have hkn : ks.length ≤ 20000 := hF1
  have HR : Hid (elsB r (.mk k s m ks) = (blkB r (.mk k s m ks) || ifB r (.mk k s m ks))) := rfl
  have hX0 := Hx.start (w := w) (c0 := .int .i64 k) (c1 := .string ⟨s.toArray⟩) (c2 := .int .i64 m) (c3 := .slice ao ks.length c)
  have c1 := hBlkS.at hG hS hF hk hX0.out
  change Calls Tryz.prog 166 #[.agg #[.int .i64 k, .string ⟨s.toArray⟩, .int .i64 m, .slice ao ks.length c]] w _
  go_enter Tryz.func166, Tryz.ntmps166
  go_wp2_with fail
  refine c1.mono ?_
  rintro e w1 ⟨rfl, hb1⟩
  have hX1 := hX0.next hb1
  clear c1
  obtain ⟨x0, x1, x2, x3⟩ := hX1.cells
  cases h1 : blkB r (.mk k s m ks) with
  | true =>
    have HX : Hid (elsB r (.mk k s m ks) = true) := HR.out.trans (by rw [h1]; try rfl)
    clear h1
    go_wp2
    go_ret
    exact ⟨congrArg (fun b => Ending.returned (Value.bool b)) HX.out.symm, hX1.out⟩
  | false =>
    have HR1 : Hid (elsB r (.mk k s m ks) = ifB r (.mk k s m ks)) := HR.out.trans (by rw [h1]; try rfl)
    clear h1
    have c2 := hIfS.at hG hS hF hk hX1.out
    go_wp2_with fail
    refine c2.mono ?_
    rintro e w2 ⟨rfl, hb2⟩
    have hX2 := hX1.next hb2
    clear c2
    clear x0 x1 x2 x3
    obtain ⟨x0, x1, x2, x3⟩ := hX2.cells
    have HX := HR1
    go_wp2
    go_ret
    exact ⟨congrArg (fun b => Ending.returned (Value.bool b)) HX.out.symm, hX2.out⟩
end Go.Proofs.YtbejkphekfbfnaaGreat
