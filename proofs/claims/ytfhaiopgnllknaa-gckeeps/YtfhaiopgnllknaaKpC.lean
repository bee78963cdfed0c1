/- The heap as GcKeeps uses it: beside it lie blocks of the law's own. -/
import Derived.Test.YtfhaiopgnllknaaKpB
import Derived.Test.YtfhaiopgnllknaaQu
namespace Go.Proofs.Ytfhaiopgnllknaa
open Go.RowKit Go.Maps

/-- A heap of one's own at block H, made since w0; the blocks bs are not its. -/
structure Hq (w0 w : World) (H : Nat) (h : Hs) (k : Nat) (bs : List Nat) : Prop where
  ex : ∃ Y, Y.H = H ∧ Y.X.B = w0.heap.size ∧ HLies Y w h k ∧ ∀ g ∈ bs, w0.heap.size ≤ g ∧ g < w.heap.size ∧ ¬ Y.own g
  inv : HInv h
  bel : Below w0.heap.size w0 w
/-- These blocks are as they were. -/
def Same (bs : List Nat) (w w' : World) : Prop := ∀ g ∈ bs, w'.heap[g]? = w.heap[g]?
section
variable {w0 w w' : World} {H : Nat} {h h' : Hs} {k k' : Nat} {bs : List Nat}
theorem Hp.q (P : Hp w0 w H h k) : Hq w0 w H h k [] := by
  obtain ⟨Y, e1, e2, L⟩ := P.ex
  exact ⟨⟨Y, e1, e2, L, fun g hg => by cases hg⟩, P.inv, P.bel⟩
theorem Hq.lt (P : Hq w0 w H h k bs) {g : Nat} (hg : g ∈ bs) : w0.heap.size ≤ g ∧ g < w.heap.size := by
  obtain ⟨Y, _, _, _, hb⟩ := P.ex
  exact ⟨(hb g hg).1, (hb g hg).2.1⟩
theorem Hq.step {Y Y' : Hh} (P : Hq w0 w H h k bs) (e1 : Y.H = H) (e2 : Y.X.B = w0.heap.size) (L : HLies Y w h k) (hb : ∀ g ∈ bs, w0.heap.size ≤ g ∧ g < w.heap.size ∧ ¬ Y.own g) (L' : HLies Y' w' h' k') (S : HStep Y Y' w w') (I : HInv h') : Hq w0 w' H h' k' bs ∧ Same bs w w' := by
  refine ⟨⟨⟨Y', S.H.trans e1, S.B.trans e2, L', fun g hg => ?_⟩, I, S.below L (by omega) P.bel⟩, fun g hg => S.block g (hb g hg).2.1 (hb g hg).2.2⟩
  obtain ⟨h1, h2, h3⟩ := hb g hg
  refine ⟨h1, Nat.lt_of_lt_of_le h2 S.size, fun ho => ?_⟩
  rcases S.own g ho with h4 | h4
  · exact h3 h4
  · omega
theorem Hq.under (P : Hq w0 w H h k bs) (hb : Below w.heap.size w w') : Hq w0 w' H h k bs ∧ Same bs w w' := by
  obtain ⟨Y, e1, e2, L, hbs⟩ := P.ex
  exact P.step e1 e2 L hbs (L.below hb) (HStep.of_below hb) P.inv
/-- A new block of the law's own. -/
theorem Hq.alloc (P : Hq w0 w H h k bs) (o : Obj) : Hq w0 (w.alloc o) H h k (w.heap.size :: bs) := by
  obtain ⟨Y, e1, e2, L, hb⟩ := P.ex
  refine ⟨⟨Y, e1, e2, L.alloc o, fun g hg => ?_⟩, P.inv, P.bel.alloc P.bel.size o⟩
  rcases List.mem_cons.1 hg with rfl | hg
  · exact ⟨P.bel.size, by simp, fun ho => by have := (L.own_lt ho).2; omega⟩
  · obtain ⟨h1, h2, h3⟩ := hb g hg
    exact ⟨h1, by simp; omega, h3⟩
/-- Blocks of the law's own are changed. -/
theorem Hq.grow (P : Hq w0 w H h k bs) (os : w'.os = w.os) (tape : w'.tape = w.tape) (output : w'.output = w.output) (size : w.heap.size ≤ w'.heap.size) (hc : ∀ g, g < w.heap.size → g ∉ bs → w'.heap[g]? = w.heap[g]?) : Hq w0 w' H h k bs := by
  obtain ⟨Y, e1, e2, L, hb⟩ := P.ex
  refine ⟨⟨Y, e1, e2, L.keep (fun j hj => hc j (L.own_lt hj).2 (fun hm => (hb j hm).2.2 hj)) size, fun g hg => ?_⟩, P.inv, P.bel.trans ⟨os, tape, output, size, fun g hg => hc g (Nat.lt_of_lt_of_le hg P.bel.size) (fun hm => by have := (hb g hm).1; omega)⟩⟩
  obtain ⟨h1, h2, h3⟩ := hb g hg
  exact ⟨h1, by omega, h3⟩
theorem Hq.sub {bs' : List Nat} (P : Hq w0 w H h k bs) (hs : ∀ g ∈ bs', g ∈ bs) : Hq w0 w H h k bs' := by
  obtain ⟨Y, e1, e2, L, hb⟩ := P.ex
  exact ⟨⟨Y, e1, e2, L, fun g hg => hb g (hs g hg)⟩, P.inv, P.bel⟩
/-- Behind a list that was put to: its block may be another. -/
theorem Hq.grown (P : Hq w0 w H h k bs) {row : Option Nat} (hg : w.grownBy w' row) (hr : ∀ g, row = some g → g ∈ bs) {g' : Nat} (hn : row = some g' ∨ w.heap.size ≤ g') (hl : g' < w'.heap.size) : Hq w0 w' H h k (g' :: bs) := by
  obtain ⟨Y, e1, e2, L, hb⟩ := P.ex
  have hc : ∀ g, g < w.heap.size → g ∉ bs → w'.heap[g]? = w.heap[g]? := fun g h1 h2 => hg.block g h1 (fun e => h2 (hr g e.symm))
  refine ⟨⟨Y, e1, e2, L.keep (fun j hj => hc j (L.own_lt hj).2 (fun hm => (hb j hm).2.2 hj)) hg.size, fun g h1 => ?_⟩, P.inv, P.bel.trans ⟨hg.os, hg.tape, hg.output, hg.size, fun g h1 => hc g (Nat.lt_of_lt_of_le h1 P.bel.size) (fun hm => by have := (hb g hm).1; omega)⟩⟩
  have old : ∀ g ∈ bs, w0.heap.size ≤ g ∧ g < w'.heap.size ∧ ¬ Y.own g := fun g hm => by
    obtain ⟨a1, a2, a3⟩ := hb g hm
    exact ⟨a1, Nat.lt_of_lt_of_le a2 hg.size, a3⟩
  rcases List.mem_cons.1 h1 with rfl | h1
  · rcases hn with h2 | h2
    · exact old g (hr g h2)
    · exact ⟨Nat.le_trans P.bel.size h2, hl, fun ho => by have := (L.own_lt ho).2; omega⟩
  · exact old g h1
theorem hq_make (P : Hq w0 w H h k bs) {m n x : Nat} {f : List Bool} {s' : As} (hf : h.ty[m]? = some f) (hn : n ≤ 1024) (hk : k < 900000000) (hw : owords f n ≤ 65536) (ha : allocS h.s (owords f n) = some (x, s')) :
    Calls Try.prog 11 #[hptr H, .int .i64 m, .int .i64 n] w fun e w' => e = two (x, 0) ∧ Hq w0 w' H (makeH h m n x s') (k + 2) bs ∧ Same bs w w' := by
  obtain ⟨Y, e1, e2, L, hb⟩ := P.ex
  have hm := make_ok L P.inv hf hn hk hw ha
  rw [show Y.p = hptr H by unfold Hh.p; rw [e1]] at hm
  refine hm.mono ?_
  rintro e w' ⟨he, Y', L', S⟩
  exact ⟨he, P.step e1 e2 L hb L' S (P.inv.make hf hn hw ha)⟩
theorem hq_set (P : Hq w0 w H h k bs) {x v : Int} {h' : Hs} {c : Int} (hx : x ≤ 9223372036854775807) (hv : v ≤ 9223372036854775807) (hs : setHP h x v = (c, h')) (I' : HInv h') :
    Calls Try.prog 15 #[hptr H, .int .i64 x, .int .i64 v] w fun e w' => e = .returned (.int .i64 c) ∧ Hq w0 w' H h' k bs ∧ Same bs w w' := by
  obtain ⟨Y, e1, e2, L, hb⟩ := P.ex
  have hm := hset_any L P.inv hx hv
  rw [show Y.p = hptr H by unfold Hh.p; rw [e1], hs] at hm
  refine hm.mono ?_
  rintro e w' ⟨he, L', S⟩
  exact ⟨he, P.step e1 e2 L hb L' S I'⟩
theorem hq_collect (P : Hq w0 w H h k bs) {v : Value} {rs : List Int} (R : IntsAt w v rs) (hl : rs.length ≤ 2000000) (hk : k ≤ 900000000) (hn : ∀ x ∈ rs, namesB h x = true) :
    Calls Try.prog 19 #[hptr H, v] w fun e w' => ∃ F, (∀ a, F a = true ↔ Reach h rs a) ∧ e = two ((gone h F).length, 0) ∧ Hq w0 w' H (freeAll h (gone h F)) (k + 65536) bs ∧ Same bs w w' := by
  obtain ⟨Y, e1, e2, L, hb⟩ := P.ex
  have hm := collect_any L P.inv R hl hk
  rw [show Y.p = hptr H by unfold Hh.p; rw [e1]] at hm
  refine hm.mono ?_
  rintro e w' ⟨y, c, he, hc⟩
  rcases hc.out with ⟨⟨x, hx, hb'⟩, _⟩ | ⟨_, rfl, F, Y', hF, rfl, L', S⟩
  · rw [hn x hx] at hb'; cases hb'
  · exact ⟨F, hF, he, P.step e1 e2 L hb L' S (gone_inv P.inv F).1⟩
theorem hq_get (P : Hq w0 w H h k bs) {x : Int} (hx : x ≤ 9223372036854775807) :
    Calls Try.prog 13 #[hptr H, .int .i64 x] w fun e w' => e = two (getHP h x) ∧ Hq w0 w' H h k bs ∧ Same bs w w' := by
  obtain ⟨Y, e1, e2, L, hb⟩ := P.ex
  have hm := hget_any L P.inv hx
  rw [show Y.p = hptr H by unfold Hh.p; rw [e1]] at hm
  refine hm.mono ?_
  rintro e w' ⟨he, b⟩
  exact ⟨he, P.under b⟩
theorem hq_live (P : Hq w0 w H h k bs) (hk : k ≤ 1000000000) :
    Calls Try.prog 22 #[hptr H] w fun e w' => ∃ ao cap, e = .returned (.slice ao (liveL h.s.ps).length cap) ∧ Hq w0 w' H h k bs ∧ Same bs w w' := by
  obtain ⟨Y, e1, e2, L, hb⟩ := P.ex
  have hm := hlive_any L P.inv hk
  rw [show Y.p = hptr H by unfold Hh.p; rw [e1]] at hm
  refine hm.mono ?_
  rintro e w' ⟨v, rfl, hv, b⟩
  obtain ⟨ao, cap, rfl⟩ := row_form hv
  exact ⟨ao, cap, rfl, P.under b⟩
end
/-- The law's memory: the heap, blocks fb of its own, lists T at vs of its own. -/
structure Me (w0 w : World) (H : Nat) (h : Hs) (k : Nat) (fb : List Nat) (vs : Nat → Value) (T : Nat → List Int) : Prop where
  ex : ∃ bs, Hq w0 w H h k bs ∧ (∀ g ∈ fb, g ∈ bs) ∧ ∀ (j g : Nat), (vs j).ownBlock = some g → g ∈ bs
  q : ∀ j, Qs w w0.heap.size (vs j) (T j)
  apart : ∀ i j g, (vs i).ownBlock = some g → (vs j).ownBlock = some g → i = j
  out : ∀ j g, (vs j).ownBlock = some g → g ∉ fb
abbrev nilv : Value := .slice none 0 0
section
variable {w0 w w' : World} {H : Nat} {h h' : Hs} {k k' : Nat} {fb bs : List Nat} {vs : Nat → Value} {T : Nat → List Int}
theorem Me.new (P : Hp w0 w H h k) : Me w0 w H h k [] (fun _ => nilv) (fun _ => []) :=
  ⟨⟨[], P.q, fun _ h => h, fun _ _ h => (by cases h)⟩, fun _ => ⟨.inl ⟨rfl, rfl⟩⟩, fun _ _ _ h => (by cases h), fun _ _ h => (by cases h)⟩
theorem Me.of (M : Me w0 w H h k fb vs T) (hbs : ∀ g ∈ fb, g ∈ bs) (hvs : ∀ (j g : Nat), (vs j).ownBlock = some g → g ∈ bs) (P : Hq w0 w' H h' k' bs ∧ Same bs w w') : Me w0 w' H h' k' fb vs T ∧ Same fb w w' :=
  ⟨⟨⟨bs, P.1, hbs, hvs⟩, fun j => (M.q j).keep fun g hg => P.2 g (hvs j g hg), M.apart, M.out⟩, fun g hg => P.2 g (hbs g hg)⟩
theorem Me.under (M : Me w0 w H h k fb vs T) (hb : Below w.heap.size w w') : Me w0 w' H h k fb vs T ∧ Same fb w w' := by
  obtain ⟨bs, P, h1, h2⟩ := M.ex
  exact M.of h1 h2 (P.under hb)
theorem Me.inv (M : Me w0 w H h k fb vs T) : HInv h := by
  obtain ⟨bs, P, _⟩ := M.ex
  exact P.inv
theorem Me.bel (M : Me w0 w H h k fb vs T) : Below w0.heap.size w0 w := by
  obtain ⟨bs, P, _⟩ := M.ex
  exact P.bel
theorem me_make (M : Me w0 w H h k fb vs T) {m n x : Nat} {f : List Bool} {s' : As} (hf : h.ty[m]? = some f) (hn : n ≤ 1024) (hk : k < 900000000) (hw : owords f n ≤ 65536) (ha : allocS h.s (owords f n) = some (x, s')) :
    Calls Try.prog 11 #[hptr H, .int .i64 m, .int .i64 n] w fun e w' => e = two (x, 0) ∧ Hid (Me w0 w' H (makeH h m n x s') (k + 2) fb vs T ∧ Same fb w w') := by
  obtain ⟨bs, P, h1, h2⟩ := M.ex
  refine (hq_make P hf hn hk hw ha).mono ?_
  rintro e w' ⟨he, hp⟩
  exact ⟨he, M.of h1 h2 hp⟩
theorem me_set (M : Me w0 w H h k fb vs T) {x v : Int} {h' : Hs} {c : Int} (hx : x ≤ 9223372036854775807) (hv : v ≤ 9223372036854775807) (hs : setHP h x v = (c, h')) (I' : HInv h') :
    Calls Try.prog 15 #[hptr H, .int .i64 x, .int .i64 v] w fun e w' => e = .returned (.int .i64 c) ∧ Hid (Me w0 w' H h' k fb vs T ∧ Same fb w w') := by
  obtain ⟨bs, P, h1, h2⟩ := M.ex
  refine (hq_set P hx hv hs I').mono ?_
  rintro e w' ⟨he, hp⟩
  exact ⟨he, M.of h1 h2 hp⟩
theorem me_collect (M : Me w0 w H h k fb vs T) {v : Value} {rs : List Int} (R : IntsAt w v rs) (hl : rs.length ≤ 2000000) (hk : k ≤ 900000000) (hn : ∀ x ∈ rs, namesB h x = true) :
    Calls Try.prog 19 #[hptr H, v] w fun e w' => ∃ F, Hid (∀ a, F a = true ↔ Reach h rs a) ∧ e = two ((gone h F).length, 0) ∧ Hid (Me w0 w' H (freeAll h (gone h F)) (k + 65536) fb vs T ∧ Same fb w w') := by
  obtain ⟨bs, P, h1, h2⟩ := M.ex
  refine (hq_collect P R hl hk hn).mono ?_
  rintro e w' ⟨F, hF, he, hp⟩
  exact ⟨F, hF, he, M.of h1 h2 hp⟩
theorem me_get (M : Me w0 w H h k fb vs T) {x : Int} (hx : x ≤ 9223372036854775807) {r : Int × Int} (hr : getHP h x = r) :
    Calls Try.prog 13 #[hptr H, .int .i64 x] w fun e w' => e = two r ∧ Hid (Me w0 w' H h k fb vs T ∧ Same fb w w') := by
  obtain ⟨bs, P, h1, h2⟩ := M.ex
  subst hr
  refine (hq_get P hx).mono ?_
  rintro e w' ⟨he, hp⟩
  exact ⟨he, M.of h1 h2 hp⟩
theorem me_live (M : Me w0 w H h k fb vs T) (hk : k ≤ 1000000000) :
    Calls Try.prog 22 #[hptr H] w fun e w' => ∃ ao cap, e = .returned (.slice ao (liveL h.s.ps).length cap) ∧ Hid (Me w0 w' H h k fb vs T ∧ Same fb w w') := by
  obtain ⟨bs, P, h1, h2⟩ := M.ex
  refine (hq_live P hk).mono ?_
  rintro e w' ⟨ao, cap, he, hp⟩
  exact ⟨ao, cap, he, M.of h1 h2 hp⟩
/-- A new block of its own. -/
theorem Me.fix (M : Me w0 w H h k fb vs T) (o : Obj) : Me w0 (w.alloc o) H h k (w.heap.size :: fb) vs T ∧ Same fb w (w.alloc o) := by
  obtain ⟨bs, P, h1, h2⟩ := M.ex
  have hs : ∀ g, g < w.heap.size → (w.alloc o).heap[g]? = w.heap[g]? := fun g hg => Below.heap_alloc _ _ _ hg
  refine ⟨⟨⟨_, P.alloc o, fun g hg => ?_, fun j g hg => List.mem_cons_of_mem _ (h2 j g hg)⟩, fun j => (M.q j).keep fun g hg => hs g ((M.q j).lt g hg).2, M.apart, fun j g hg hm => ?_⟩, fun g hg => hs g (P.lt (h1 g hg)).2⟩
  · rcases List.mem_cons.1 hg with rfl | hg
    · simp
    · exact List.mem_cons_of_mem _ (h1 g hg)
  · rcases List.mem_cons.1 hm with rfl | hm
    · have := ((M.q j).lt _ hg).2; omega
    · exact M.out j g hg hm
theorem Me.drop {fb' : List Nat} (M : Me w0 w H h k fb vs T) (hs : ∀ g ∈ fb', g ∈ fb) : Me w0 w H h k fb' vs T := by
  obtain ⟨bs, P, h1, h2⟩ := M.ex
  exact ⟨⟨bs, P, fun g hg => h1 g (hs g hg), h2⟩, M.q, M.apart, fun j g hg hm => M.out j g hg (hs g hm)⟩
theorem Me.fix0 (M : Me w0 w H h k fb vs T) (o : Obj) : Me w0 (w.alloc o) H h k fb vs T ∧ Same fb w (w.alloc o) :=
  ⟨(M.fix o).1.drop fun _ hg => List.mem_cons_of_mem _ hg, (M.fix o).2⟩
theorem Me.lt (M : Me w0 w H h k fb vs T) {g : Nat} (hg : g ∈ fb) : g < w.heap.size := by
  obtain ⟨bs, P, h1, h2⟩ := M.ex
  exact (P.lt (h1 g hg)).2
/-- One of its own blocks is changed. -/
theorem Me.store (M : Me w0 w H h k fb vs T) {g : Nat} (hg : g ∈ fb) (o : Nat) (v : Value) : Me w0 (w.setCell ⟨g, o, none⟩ v) H h k fb vs T ∧ ∀ g', g' ≠ g → (w.setCell ⟨g, o, none⟩ v).heap[g']? = w.heap[g']? := by
  obtain ⟨bs, P, h1, h2⟩ := M.ex
  have hr := heap_clear_rest (b := g) [v] o w
  have hs : ∀ g', g' ≠ g → (w.setCell ⟨g, o, none⟩ v).heap[g']? = w.heap[g']? := fun g' hg' => heap_clear_other hg' [v] o w
  obtain ⟨r1, r2, r3, r4⟩ := hr
  have P' := P.grow (w' := w.setCell ⟨g, o, none⟩ v) r2 r3 r4 (by have : (w.setCell ⟨g, o, none⟩ v).heap.size = w.heap.size := r1; omega) (fun g' _ hn => hs g' (fun e => hn (by rw [e]; exact h1 g hg)))
  exact ⟨⟨⟨bs, P', h1, h2⟩, fun j => (M.q j).keep fun g' hg' => hs g' (fun e => M.out j g' hg' (by rw [e]; exact hg)), M.apart, M.out⟩, hs⟩
theorem upd_own {j : Nat} {v : Value} {i g : Nat} (hg : (upd vs j v i).ownBlock = some g) : (i = j ∧ v.ownBlock = some g) ∨ (i ≠ j ∧ (vs i).ownBlock = some g) := by
  by_cases e : i = j
  · subst e; rw [upd_same] at hg; exact .inl ⟨rfl, hg⟩
  · rw [upd_other _ _ e] at hg; exact .inr ⟨e, hg⟩
/-- A new list. -/
theorem Me.list (M : Me w0 w H h k fb vs T) {j : Nat} {xs : List Int} (hj : vs j = nilv) : Me w0 (w.alloc (.cells (ints xs).toArray 3)) H h k fb (upd vs j (.slice (some ⟨w.heap.size, 0, none⟩) xs.length xs.length)) (upd T j xs) ∧ Same fb w (w.alloc (.cells (ints xs).toArray 3)) := by
  obtain ⟨bs, P, h1, h2⟩ := M.ex
  have hs : ∀ g, g < w.heap.size → (w.alloc (.cells (ints xs).toArray 3)).heap[g]? = w.heap[g]? := fun g hg => Below.heap_alloc _ _ _ hg
  refine ⟨⟨⟨_, P.alloc _, fun g hg => List.mem_cons_of_mem _ (h1 g hg), fun i g hg => ?_⟩, fun i => ?_, fun a b g ha hb => ?_, fun i g hg hm => ?_⟩, fun g hg => hs g (P.lt (h1 g hg)).2⟩
  · rcases upd_own hg with ⟨_, e⟩ | ⟨_, e⟩
    · cases e; simp
    · exact List.mem_cons_of_mem _ (h2 i g e)
  · by_cases e : i = j
    · subst e
      rw [upd_same, upd_same]
      refine ⟨.inr ⟨w.heap.size, 0, xs.length, _, rfl, P.bel.size, heap_new _ _ rfl, by simp [ints], Nat.le_refl _, fun a x hx => ?_⟩⟩
      simp [ints, hx]
    · rw [upd_other _ _ e, upd_other _ _ e]
      exact (M.q i).keep fun g hg => hs g ((M.q i).lt g hg).2
  · rcases upd_own ha with ⟨e1, e⟩ | ⟨_, e⟩ <;> rcases upd_own hb with ⟨e2, f⟩ | ⟨_, f⟩
    · omega
    · cases e; exact absurd ((M.q b).lt _ f).2 (Nat.lt_irrefl _)
    · cases f; exact absurd ((M.q a).lt _ e).2 (Nat.lt_irrefl _)
    · exact M.apart a b g e f
  · rcases upd_own hg with ⟨_, e⟩ | ⟨_, e⟩
    · cases e; exact absurd (P.lt (h1 _ hm)).2 (Nat.lt_irrefl _)
    · exact M.out i g e hm
/-- A list of its own was put to, or taken from. -/
theorem Me.turn (M : Me w0 w H h k fb vs T) {j : Nat} {v : Value} {xs : List Int} (hg : w.grownBy w' (vs j).ownBlock) (hq : Qs w' w0.heap.size v xs) (hv : v.ownBlock = (vs j).ownBlock ∨ ∀ g, v.ownBlock = some g → w.heap.size ≤ g) : Me w0 w' H h k fb (upd vs j v) (upd T j xs) ∧ Same fb w w' := by
  obtain ⟨bs, P, h1, h2⟩ := M.ex
  have hne : ∀ g, g < w.heap.size → (vs j).ownBlock ≠ some g → w'.heap[g]? = w.heap[g]? := fun g h3 h4 => hg.block g h3 (fun e => h4 e.symm)
  have hP : ∃ bs', Hq w0 w' H h k bs' ∧ (∀ g ∈ bs, g ∈ bs') ∧ ∀ g, v.ownBlock = some g → g ∈ bs' := by
    cases hvo : v.ownBlock with
    | none => exact ⟨bs, P.grow hg.os hg.tape hg.output hg.size (fun g h3 h4 => hne g h3 (fun e => h4 (h2 j g e))), fun _ h => h, fun g hg => by cases hg⟩
    | some g' =>
      refine ⟨g' :: bs, P.grown hg (fun g e => h2 j g e) (g' := g') ?_ (hq.lt g' hvo).2, fun g hm => List.mem_cons_of_mem _ hm, fun g e => by cases e; simp⟩
      rcases hv with e | e
      · exact .inl (by rw [← e]; exact hvo)
      · exact .inr (e g' hvo)
  obtain ⟨bs', P', hs1, hs2⟩ := hP
  refine ⟨⟨⟨bs', P', fun g hm => hs1 g (h1 g hm), fun i g hi => ?_⟩, fun i => ?_, fun a b g ha hb => ?_, fun i g hi hm => ?_⟩, fun g hm => hne g (P.lt (h1 g hm)).2 (fun e => M.out j g e hm)⟩
  · rcases upd_own hi with ⟨_, e⟩ | ⟨_, e⟩
    · exact hs2 g e
    · exact hs1 g (h2 i g e)
  · by_cases e : i = j
    · subst e; rw [upd_same, upd_same]; exact hq
    · rw [upd_other _ _ e, upd_other _ _ e]
      exact (M.q i).keep fun g hi => hne g ((M.q i).lt g hi).2 (fun e2 => e (M.apart i j g hi e2))
  · rcases upd_own ha with ⟨e1, e⟩ | ⟨n1, e⟩ <;> rcases upd_own hb with ⟨e2, f⟩ | ⟨n2, f⟩
    · omega
    · rcases hv with e3 | e3
      · rw [e3] at e; exact absurd (M.apart b j g f e) n2
      · have := e3 g e; have := ((M.q b).lt _ f).2; omega
    · rcases hv with e3 | e3
      · rw [e3] at f; exact absurd (M.apart a j g e f) n1
      · have := e3 g f; have := ((M.q a).lt _ e).2; omega
    · exact M.apart a b g e f
  · rcases upd_own hi with ⟨_, e⟩ | ⟨_, e⟩
    · rcases hv with e3 | e3
      · rw [e3] at e; exact M.out j g e hm
      · have := e3 g e; have := (P.lt (h1 g hm)).2; omega
    · exact M.out i g e hm
/-- One is put behind a list. -/
theorem Me.app1 (M : Me w0 w H h k fb vs T) (j : Nat) (y : Int) (hl : (T j).length < 1000000000) :
    ∃ v' w', (Builtin.append_ #[31, 31] 31 #[vs j, .slice (some ⟨w.heap.size, 0, none⟩) 1 1]).run Try.prog (w.alloc (.cells #[.int .i64 y] 3)) = .ok v' w' ∧ Me w0 w' H h k fb (upd vs j v') (upd T j (T j ++ [y])) ∧ Same fb w w' := by
  obtain ⟨M1, S1⟩ := M.fix0 (.cells #[.int .i64 y] 3)
  obtain ⟨v', w', hr, hq, hg, hv⟩ := (M1.q j).app1 M1.bel.size (b := w.heap.size) (y := y) (heap_new _ _ rfl) hl
  obtain ⟨M2, S2⟩ := M1.turn hg hq hv
  exact ⟨v', w', hr, M2, fun g hg => (S2 g hg).trans (S1 g hg)⟩
/-- A list's numbers, where they lie. -/
theorem Me.cell (M : Me w0 w H h k fb vs T) {i j : Nat} {x : Int} (hx : (T i)[j]? = some x) : ∃ g off cap, vs i = .slice (some ⟨g, off, none⟩) (T i).length cap ∧ w.cell? ⟨g, off + j, none⟩ = some (.int .i64 x) := by
  rcases (M.q i).form with ⟨_, e⟩ | ⟨g, off, cap, cur, e1, _, e2, _, _, e3⟩
  · rw [e] at hx; simp at hx
  · exact ⟨g, off, cap, e1, by simp [World.cell?, e2, e3 j x hx]⟩
theorem Qs.ints {B : Nat} {v : Value} {xs : List Int} (Q : Qs w B v xs) (hx : ∀ x ∈ xs, x ≤ 9223372036854775807) : IntsAt w v xs := by
  rcases Q.form with ⟨rfl, rfl⟩ | ⟨g, off, cap, cur, rfl, _, e2, _, _, e3⟩
  · exact ints_nil w
  · exact ⟨_, _, rfl, fun j x hj => ⟨hx x (List.mem_of_getElem? hj), g, off, rfl, lt_of_block e2, by simp [World.cell?, e2, e3 j x hj]⟩⟩
end
end Go.Proofs.Ytfhaiopgnllknaa
