/- What kinds must be: the closures as they are made, and what they owe. -/
import Derived.Test.YtkdojpnihinpbaaDoorVfHd
namespace Go.Proofs.YtkdojpnihinpbaaDoor
open Go.RowKit
section
variable {w w' : World} {n : Nat}
theorem IsAt.on {X : Nat → Prop} {W0 W : World} {v : Value} {ks : List Int} (R : IsAt X W0 v ks) (h : ∀ j, j < W0.heap.size → W.heap[j]? = W0.heap[j]?) : IsAt X W v ks := by
  obtain ⟨ao, cap, h1, h2, h3, h4⟩ := R
  refine ⟨ao, cap, h1, h2, h3, fun j k hk => ?_⟩
  obtain ⟨g, o, e1, e2, e3, e4⟩ := h4 j k hk
  have e5 : W.cell? ⟨g, o + j, none⟩ = some (.int .i64 k) := by rw [World.cell?_of_block (a := ⟨g, o + j, none⟩) (h g e2)]; exact e4
  exact ⟨g, o, e1, World.block_lt_of_cell? W ⟨g, o + j, none⟩ e5, e3, e5⟩
/-- What is owed of the closure that takes answers. -/
def FCl (n : Nat) (mu : Must) (f : Nat) (caps : Array Value) (D : Nat) (W : World) : Prop := ∀ (m : Nat) (ks : List Int), ks.length = mu.n → (∀ k ∈ ks, isKB n k = true) → ∃ (Z : Nat → Prop) (U : Nat → World → Prop), (∀ j, Z j → D ≤ j ∧ j < W.heap.size) ∧ FiC m W.heap.size Z f caps mu ks U ∧ U 0 W
def TksO (n : Nat) (mu : Must) (w : World) (e : Ending) (W : World) : Prop := ∃ f caps, e = .returned (.tuple #[.int .i64 (mu.n : Int), .func (.func f) #[] caps]) ∧ FCl n mu f caps w.heap.size W ∧ Below w.heap.size w W
theorem TksO.drew {mu : Must} {w W : World} {e : Ending} (h : TksO n mu w e W) {a : World} (hb : Below a.heap.size a w) : TksO n mu a e W := by
  obtain ⟨f, caps, h1, h2, h3⟩ := h
  refine ⟨f, caps, h1, fun m ks hl hk => ?_, bel_tr hb h3⟩
  obtain ⟨Z, U, z1, z2, z3⟩ := h2 m ks hl hk
  exact ⟨Z, U, fun j hj => ⟨Nat.le_trans hb.size (z1 j hj).1, (z1 j hj).2⟩, z2, z3⟩
/-- Kinds that fit: those that lie. -/
theorem fcl_fit {os : List Int} {a : Option Addr} {cap c D : Nat} {W : World} (hn : n ≤ 1024) (ho : ∀ o ∈ os, isKB n o = true) (hl : os.length ≤ 4000000000000) (hc : W.cell? ⟨c, 0, none⟩ = some (.slice a os.length cap)) (K : IsAt (fun _ => False) W (.slice a os.length cap) os) : FCl n (.fit os) 98 #[.pointer (some ⟨c, 0, none⟩)] D W := by
  intro m ks hks _
  refine ⟨fun _ => False, fun _ W' => ∀ j, j < W.heap.size → W'.heap[j]? = W.heap[j]?, fun _ h => h.elim, ⟨FX_fn (by decide), enters_of Tryd.func98 (by kernel_rfl) rfl, hks.symm, fun _ h => h.elim, fun k W1 W2 h1 h2 j hj => (h2 j hj).trans (h1 j hj), fun k W1 hU hk x hx => ?_⟩, fun _ _ => rfl⟩
  have hi : ks.length - 1 - k < os.length := by
    have : ks.length = os.length := hks
    omega
  obtain ⟨o, ho1⟩ : ∃ o, os[ks.length - 1 - k]? = some o := ⟨os[ks.length - 1 - k], by simp [hi]⟩
  have hc1 : W1.cell? ⟨c, 0, none⟩ = some (.slice a os.length cap) := by rw [World.cell?_of_block (a := ⟨c, 0, none⟩) (hU c (World.block_lt_of_cell? W _ hc))]; exact hc
  refine CallsIn.mono (fitting1_in (w := W1) (X := fun _ => False) hn hc1 (K.on hU) ho1 (ho o (List.mem_of_getElem? ho1)) hl) ?_
  rintro e W2 ⟨rfl, rfl⟩
  refine ⟨?_, hU, Kp.refl _ _⟩
  show _ = Ending.returned (.bool (fitB x ((os[ks.length - 1 - k]?).getD 0)))
  rw [ho1]
  rfl
/-- A closure that asks a kind by itself. -/
def EaC (n : Nat) (W0 : World) (v : Value) (q : Int → Bool) : Prop := ∃ (f : Nat) (caps : Array Value), v = .func (.func f) #[] caps ∧ FX.fn f ∧ (∀ args w, (callFunc f args).run Tryd.prog w = .ok (.enter f args) w) ∧ ∀ (m : Nat) (W : World) (x : Int), (∀ j, j < W0.heap.size → W.heap[j]? = W0.heap[j]?) → isKB n x = true → CallsIn FX m Tryd.prog f (#[.int .i64 x] ++ caps) W fun e w' => e = .returned (.bool (q x)) ∧ Below W.heap.size W w'
theorem EaC.keep {W0 W : World} {v : Value} {q : Int → Bool} (h : EaC n W0 v q) (hb : Below W0.heap.size W0 W) : EaC n W v q := by
  obtain ⟨f, caps, h1, h2, h3, h4⟩ := h
  exact ⟨f, caps, h1, h2, h3, fun m W' x hW hx => h4 m W' x (fun j hj => (hW j (Nat.lt_of_lt_of_le hj hb.size)).trans (hb.block j hj)) hx⟩
theorem eac_any (W : World) : EaC n W (.func (.func 90) #[] #[]) anyB := ⟨_, _, rfl, FX_fn (by decide), enters_of Tryd.func90 (by kernel_rfl) rfl, fun m W' x _ _ => CallsIn.mono (anything_in x) (by rintro e w' ⟨rfl, rfl⟩; exact ⟨rfl, Below.refl _ _⟩)⟩
theorem eac_of {W : World} {c : Nat} {f : Int} (hn : n ≤ 1024) (hf : f = 2 ∨ f = 3) (hc : W.cell? ⟨c, 0, none⟩ = some (.int .i64 f)) : EaC n W (.func (.func 102) #[] #[.pointer (some ⟨c, 0, none⟩)]) (ofB f) := ⟨_, _, rfl, FX_fn (by decide), enters_of Tryd.func102 (by kernel_rfl) rfl, fun m W' x hW hx => CallsIn.mono (of1_in (w := W') hn hx (by rw [World.cell?_of_block (a := ⟨c, 0, none⟩) (hW c (World.block_lt_of_cell? W _ hc))]; exact hc) hf) (by rintro e w' ⟨rfl, h⟩; exact ⟨rfl, h⟩)⟩
theorem eac_ex {W : World} {c : Nat} {k : Int} (hc : W.cell? ⟨c, 0, none⟩ = some (.int .i64 k)) : EaC n W (.func (.func 104) #[] #[.pointer (some ⟨c, 0, none⟩)]) (exB k) := ⟨_, _, rfl, FX_fn (by decide), enters_of Tryd.func104 (by kernel_rfl) rfl, fun m W' x hW hx => CallsIn.mono (exactly1_in (w := W') x k (by rw [World.cell?_of_block (a := ⟨c, 0, none⟩) (hW c (World.block_lt_of_cell? W _ hc))]; exact hc)) (by rintro e w' ⟨rfl, rfl⟩; exact ⟨rfl, Below.refl _ _⟩)⟩
theorem eac_box (W : World) (hn : n ≤ 1024) : EaC n W (.func (.func 94) #[] #[]) boxB := ⟨_, _, rfl, FX_fn (by decide), enters_of Tryd.func94 (by kernel_rfl) rfl, fun m W' x _ hx => CallsIn.mono (boxable_in (w := W') hn hx) (by rintro e w' ⟨rfl, h⟩; exact ⟨rfl, h⟩)⟩
theorem ofB_ptr : ofB 2 = ptrB := by funext k; unfold ofB ptrB; rfl
theorem ofB_arr : ofB 3 = arrB := by funext k; unfold ofB arrB; rfl
/-- Each of its own. -/
theorem fcl_each {ps : List (Int → Bool)} {g c cap D : Nat} {W : World} (hl : ps.length ≤ 2) (hc : W.cell? ⟨c, 0, none⟩ = some (.slice (some ⟨g, 0, none⟩) ps.length cap)) (hx : ∀ i q, ps[i]? = some q → ∃ v, W.cell? ⟨g, 0 + i, none⟩ = some v ∧ EaC n W v q) : FCl n (.each ps) 100 #[.pointer (some ⟨c, 0, none⟩)] D W := by
  intro m ks hks hkk
  refine ⟨fun _ => False, fun _ W' => ∀ j, j < W.heap.size → W'.heap[j]? = W.heap[j]?, fun _ h => h.elim, ⟨FX_fn (by decide), enters_of Tryd.func100 (by kernel_rfl) rfl, hks.symm, fun _ h => h.elim, fun k W1 W2 h1 h2 j hj => (h2 j hj).trans (h1 j hj), fun k W1 hU hk x hxk => ?_⟩, fun _ _ => rfl⟩
  have hi : ks.length - 1 - k < ps.length := by
    have : ks.length = ps.length := hks
    omega
  obtain ⟨q, hq⟩ : ∃ q, ps[ks.length - 1 - k]? = some q := ⟨ps[ks.length - 1 - k], by simp [hi]⟩
  obtain ⟨v, hv, f, caps, rfl, h2, h3, h4⟩ := hx _ q hq
  have hon : ∀ {b o : Nat} {u : Value}, W.cell? ⟨b, o, none⟩ = some u → W1.cell? ⟨b, o, none⟩ = some u := fun {b o u} h => by rw [World.cell?_of_block (a := ⟨b, o, none⟩) (hU b (World.block_lt_of_cell? W _ h))]; exact h
  refine CallsIn.mono (these1_in (w := W1) h2 (hon hc) hi hl (hon hv) h3 (h4 _ W1 x hU (hkk x (List.mem_of_getElem? hxk)))) ?_
  rintro e W2 ⟨rfl, hb⟩
  refine ⟨?_, fun j hj => ?_, Kp.of_below hb⟩
  · show _ = Ending.returned (.bool (((ps[ks.length - 1 - k]?).getD anyB) x))
    rw [hq]
    rfl
  · have hlt : j < W1.heap.size := by
      have h1 := hU j hj
      rw [Array.getElem?_eq_getElem hj] at h1
      rcases Nat.lt_or_ge j W1.heap.size with h | h
      · exact h
      · rw [Array.getElem?_eq_none h] at h1; cases h1
    exact (hb.block j hlt).trans (hU j hj)
/-- Nothing is taken. -/
theorem fcl_none {c D : Nat} {W : World} : FCl n (.each []) 100 #[.pointer (some ⟨c, 0, none⟩)] D W := by
  intro m ks hks _
  refine ⟨fun _ => False, fun _ _ => True, fun _ h => h.elim, ⟨FX_fn (by decide), enters_of Tryd.func100 (by kernel_rfl) rfl, hks.symm, fun _ h => h.elim, fun _ _ _ _ _ => trivial, fun k W1 hU hk x hxk => ?_⟩, trivial⟩
  have : ks.length = 0 := hks
  omega
/-- Two that are alike. -/
theorem fcl_alike {u D : Nat} {W : World} (hn : n ≤ 1024) (hu : W.heap[u]? = some (.cells #[.int .i64 0] 3 (0, 0))) (hD : D ≤ u) : FCl n .alike 101 #[.pointer (some ⟨u, 0, none⟩)] D W := by
  intro m ks hks hkk
  have hl : ks.length = 2 := hks
  obtain ⟨y, x, rfl⟩ : ∃ y x, ks = [y, x] := by
    match ks, hl with
    | [y, x], _ => exact ⟨y, x, rfl⟩
  have hy := hkk y (by simp)
  have hx := hkk x (by simp)
  refine ⟨fun j => j = u, fun k W' => W'.heap[u]? = some (.cells #[.int .i64 (if k = 0 then 0 else x)] 3 (0, 0)), fun j hj => by subst hj; exact ⟨hD, lt_of_block hu⟩, ⟨FX_fn (by decide), enters_of Tryd.func101 (by kernel_rfl) rfl, rfl, fun j hj => by subst hj; exact lt_of_block hu, fun k W1 W2 h1 h2 => (h2 u (lt_of_block hu)).trans h1, fun k W1 hU hk z hz => ?_⟩, hu⟩
  have hk2 : k < 2 := hk
  rcases Nat.lt_or_ge k 1 with h0 | h0
  · obtain rfl : k = 0 := by omega
    obtain rfl : x = z := by simpa using hz
    refine CallsIn.mono (alike1_up (w := W1) (n := n) (x := 0) hn hx hU) ?_
    rintro e W2 ⟨rfl, rfl⟩
    refine ⟨rfl, heap_setCell_same _ _ 0 _ hU, ⟨rfl, rfl, rfl, by simp, fun j _ hj => Below.heap_setCell _ _ _ j hj⟩⟩
  · obtain rfl : k = 1 := by omega
    obtain rfl : y = z := by simpa using hz
    refine CallsIn.mono (alike1_low (w := W1) (n := n) (x := x) hn hy hx (cell_of hU rfl)) ?_
    rintro e W2 ⟨rfl, rfl⟩
    exact ⟨rfl, hU, Kp.refl _ _⟩
/-- As they are made. -/
theorem fitting_any (w : World) (a : Option Addr) (l c : Nat) : Calls Tryd.prog 88 #[.slice a l c] w fun e w' => e = .returned (.tuple #[.int .i64 l, .func (.func 98) #[] #[.pointer (some ⟨w.heap.size, 0, none⟩)]]) ∧ w' = w.alloc (.cells #[.slice a l c] 37) := by
  go_enter Tryd.func88, Tryd.ntmps88
  go_wp2
  go_ret2
  exact ⟨rfl, rfl⟩
theorem these_any (w : World) (a : Option Addr) (l c : Nat) : Calls Tryd.prog 89 #[.slice a l c] w fun e w' => e = .returned (.tuple #[.int .i64 l, .func (.func 100) #[] #[.pointer (some ⟨w.heap.size, 0, none⟩)]]) ∧ w' = w.alloc (.cells #[.slice a l c] 148) := by
  go_enter Tryd.func89, Tryd.ntmps89
  go_wp2
  go_ret2
  exact ⟨rfl, rfl⟩
theorem alike_any (w : World) : Calls Tryd.prog 91 #[] w fun e w' => e = .returned (.tuple #[.int .i64 2, .func (.func 101) #[] #[.pointer (some ⟨w.heap.size, 0, none⟩)]]) ∧ w' = w.alloc (.cells #[.int .i64 0] 3) := by
  go_enter Tryd.func91, Tryd.ntmps91
  go_wp2
  go_ret2
  exact ⟨rfl, rfl⟩
theorem exactly_any (w : World) (k : Int) : Calls Tryd.prog 93 #[.int .i64 k] w fun e w' => e = .returned (.func (.func 104) #[] #[.pointer (some ⟨w.heap.size, 0, none⟩)]) ∧ w' = w.alloc (.cells #[.int .i64 k] 3) := by
  go_enter Tryd.func93, Tryd.ntmps93
  go_wp2
  go_ret
  exact ⟨rfl, rfl⟩
theorem of_any (w : World) (k : Int) : Calls Tryd.prog 92 #[.int .i64 k] w fun e w' => e = .returned (.func (.func 102) #[] #[.pointer (some ⟨w.heap.size, 0, none⟩)]) ∧ w' = w.alloc (.cells #[.int .i64 k] 3) := by
  go_enter Tryd.func92, Tryd.ntmps92
  go_wp2
  go_ret
  exact ⟨rfl, rfl⟩
end
end Go.Proofs.YtkdojpnihinpbaaDoor
