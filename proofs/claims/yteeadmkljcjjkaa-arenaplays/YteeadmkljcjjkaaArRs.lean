/- The program's arena and the document's beside one another. -/
import Derived.Test.YteeadmkljcjjkaaArRi
namespace Go.Proofs.Yteeadmkljcjjkaa
open Go.RowKit Go.Maps

/-- The two arenas lie in w, the document's in a box at b too; nothing below the law's own blocks is other than in w0. -/
structure Two (w0 w : World) (X : Wh) (s : As) (r : Rs) (vp vs : Value) (k b : Nat) : Prop where
  L : Lies X w s k
  R : RL X.B w r vp vs
  ap : ∀ g, vp.ownBlock = some g → ¬ X.own g ∧ g ≠ b
  sp : ∀ g, vs.ownBlock = some g → ¬ X.own g ∧ g ≠ b
  box : w.heap[b]? = some (.cells #[.int .i64 r.wd, .int .i64 r.ln, vp, .int .i64 r.fd, vs] 31 (0, 0))
  nb : ¬ X.own b
  hb : w0.heap.size ≤ b
  base : X.B = w0.heap.size
  below : Below w0.heap.size w0 w
section
variable {w0 w w' : World} {X X' : Wh} {s s' : As} {r r' : Rs} {vp vs vp' vs' : Value} {k k' b : Nat}
theorem Two.prog (T : Two w0 w X s r vp vs k b) (h : Step X X' w w') (L' : Lies X' w' s' k') : Two w0 w' X' s' r vp vs k' b := by
  have hbl := lt_of_block T.box
  have hnew : ∀ g, g < w.heap.size → ¬ X.own g → ¬ X'.own g := fun g h1 h2 h3 => by
    rcases h.own g h3 with h4 | h4
    · exact h2 h4
    · omega
  refine ⟨L', ?_, fun g hg => ?_, fun g hg => ?_, (h.block b hbl T.nb).trans T.box, hnew b hbl T.nb, T.hb, h.B.trans T.base, ?_⟩
  · rw [h.B]
    exact T.R.keep (fun g hg => h.block g (T.R.pcs.lt g hg).2 (T.ap g hg).1) (fun g hg => h.block g (T.R.sto.lt g hg).2 (T.sp g hg).1) h.size
  · exact ⟨hnew g (T.R.pcs.lt g hg).2 (T.ap g hg).1, (T.ap g hg).2⟩
  · exact ⟨hnew g (T.R.sto.lt g hg).2 (T.sp g hg).1, (T.sp g hg).2⟩
  · have := h.below T.L (w0 := w0) (by rw [T.base]; exact T.below)
    rw [T.base] at this; exact this
theorem Two.under (T : Two w0 w X s r vp vs k b) (h : Below w.heap.size w w') : Two w0 w' X s r vp vs k b :=
  T.prog (Step.of_below h) (T.L.below h)
theorem Two.alloc (T : Two w0 w X s r vp vs k b) (o : Obj) : Two w0 (w.alloc o) X s r vp vs k b := T.under ((Below.refl _ _).alloc (Nat.le_refl _) o)
theorem Two.drew (T : Two w0 w X s r vp vs k b) : Two w0 w.drew X s r vp vs k b := T.under (Below.refl _ _).drew
theorem Two.mono (T : Two w0 w X s r vp vs k b) (h : k ≤ k') : Two w0 w X s r vp vs k' b := ⟨T.L.mono h, T.R, T.ap, T.sp, T.box, T.nb, T.hb, T.base, T.below⟩
def Kept (X : Wh) (w w1 : World) : Prop := ∀ q, q < w.heap.size → ¬ X.own q → w1.heap[q]? = w.heap[q]?
/-- The document's arena is stored in its box. -/
def sto (w : World) (b : Nat) (r : Rs) (vp vs : Value) : World :=
  ((((w.setCell ⟨b, 0, none⟩ (.int .i64 r.wd)).setCell ⟨b, 1, none⟩ (.int .i64 r.ln)).setCell ⟨b, 2, none⟩ vp).setCell ⟨b, 3, none⟩ (.int .i64 r.fd)).setCell ⟨b, 4, none⟩ vs
theorem Two.store (T : Two w0 w X s r vp vs k b) (h : ROut X.B w vp vs r' vp' vs' w') : Two w0 (sto w' b r' vp' vs') X s r' vp' vs' k b := by
  have T2 := T.under h.below
  have hbl := lt_of_block T.box
  have fresh : ∀ g, w.heap.size ≤ g → ¬ X.own g ∧ g ≠ b := fun g hg => ⟨fun h1 => by have := (T.L.own_lt h1).2; omega, by omega⟩
  have ap : ∀ g, vp'.ownBlock = some g → ¬ X.own g ∧ g ≠ b := fun g hg => by
    rcases h.fp g hg with h1 | h1
    · exact T.ap g h1
    · exact fresh g h1
  have sp : ∀ g, vs'.ownBlock = some g → ¬ X.own g ∧ g ≠ b := fun g hg => by
    rcases h.fs g hg with h1 | h1
    · exact T.sp g h1
    · exact fresh g h1
  unfold sto
  refine ⟨T2.L.keep (fun j hj => five_cells _ _ _ _ _ _ _ _ (fun e => T.nb (e ▸ hj))) (by simp), h.rl.five (fun g hg => (ap g hg).2) (fun g hg => (sp g hg).2) _ _ _ _ _, ap, sp, box_five T2.box _ _ _ _ _, T.nb, T.hb, T.base, below_five T2.below T.hb _ _ _ _ _⟩
theorem two_new {w2 : World} (L : Lies X w s k) (R : RL w0.heap.size w r vp vs) (hb : Below w0.heap.size w0 w) (hX : X.B = w0.heap.size) (ho : ∀ g, X.own g → g < w2.heap.size) (hz : w2.heap.size ≤ w.heap.size) (f1 : ∀ g, vp.ownBlock = some g → w2.heap.size ≤ g) (f2 : ∀ g, vs.ownBlock = some g → w2.heap.size ≤ g) :
    Two w0 (w.alloc (.cells #[.int .i64 r.wd, .int .i64 r.ln, vp, .int .i64 r.fd, vs] 31)) X s r vp vs k w.heap.size := by
  refine ⟨L.alloc _, by rw [hX]; exact R.alloc _, fun g hg => ⟨fun h => ?_, fun h => ?_⟩, fun g hg => ⟨fun h => ?_, fun h => ?_⟩, heap_new _ _ rfl, fun h => ?_, hb.size, hX, hb.alloc hb.size _⟩
  · have := ho g h; have := f1 g hg; omega
  · have := (R.pcs.lt g hg).2; omega
  · have := ho g h; have := f2 g hg; omega
  · have := (R.sto.lt g hg).2; omega
  · have := ho _ h; omega
theorem ROut.same {B : Nat} (R : RL B w r vp vs) (h : Below w.heap.size w w') : ROut B w vp vs r vp vs w' := ⟨R.below h, h, fun _ h => .inl h, fun _ h => .inl h⟩
theorem find_in (I : Inv s) (S : Sim s r) {x : Int} : ∀ j, FindR r.ps x (some j) → ∃ m : Nat, x = m ∧ m < r.st.length := by
  intro j h
  obtain ⟨m, u, h1, _, h3⟩ := word_of I (find_sim I S h)
  exact ⟨m + 1, h1, by rw [S.st1]; omega⟩
theorem size_pair (T : Two w0 w X s r vp vs k b) (I : Inv s) (S : Sim s r) (x : Int) (hx : x ≤ 9223372036854775807) :
    Calls Try.prog 15 #[X.p, .int .i64 x] w fun e w1 => ∃ y f : Int, e = two (y, f) ∧ Hid (Kept X w w1) ∧ Hid (Two w0 w1 X s r vp vs k b) ∧ Hid (Calls Try.prog 16 #[rv r vp vs, .int .i64 x] w1 fun e2 w2 => e2 = two (y, f) ∧ Hid (Two w0 w2 X s r vp vs k b)) := by
  refine (size_any x w T.L I hx).mono ?_
  rintro e w1 ⟨rfl, hb⟩
  refine ⟨(sizeP s x).1, (sizeP s x).2, rfl, fun q hq _ => hb.block q hq, T.under hb, (rsize_any x (T.under hb).R).mono ?_⟩
  rintro e2 w2 ⟨h, hb2⟩
  refine ⟨?_, (T.under hb).under hb2⟩
  rcases h with ⟨h1, rfl⟩ | ⟨j, p, h1, h2, rfl⟩
  · rw [show sizeP s x = (0, 6) by unfold sizeP; rw [at_sim I S h1]]
  · obtain ⟨q, h3, h4, h5, h6, _⟩ := S.back h2
    obtain ⟨p', g1, g2, g3⟩ := h1
    rw [h2] at g1; cases g1
    rw [show sizeP s x = ((p.n : Int), 0) by unfold sizeP; rw [at_sim I S (o := some j) ⟨p, h2, g2, g3⟩]; simp [h3, h6 g3]]
theorem find_pair (T : Two w0 w X s r vp vs k b) (I : Inv s) (S : Sim s r) (x : Int) (hx : x ≤ 9223372036854775807) :
    Calls Try.prog 21 #[X.p, .int .i64 x] w fun e w1 => ∃ y f : Int, e = two (y, f) ∧ Hid (Kept X w w1) ∧ Hid (Two w0 w1 X s r vp vs k b) ∧ Hid (Calls Try.prog 22 #[rv r vp vs, .int .i64 x] w1 fun e2 w2 => e2 = two (y, f) ∧ Hid (Two w0 w2 X s r vp vs k b)) := by
  refine (find_any x w T.L I hx).mono ?_
  rintro e w1 ⟨rfl, hb⟩
  refine ⟨(findP s x).1, (findP s x).2, rfl, fun q hq _ => hb.block q hq, T.under hb, (rfind_any x (T.under hb).R).mono ?_⟩
  rintro e2 w2 ⟨h, hb2⟩
  refine ⟨?_, (T.under hb).under hb2⟩
  rcases h with ⟨h1, rfl⟩ | ⟨j, p, h1, h2, rfl⟩
  · rw [show findP s x = (0, 6) by unfold findP; rw [find_sim I S h1]]
  · obtain ⟨q, h3, h4, h5, h6, _⟩ := S.back h2
    rw [show findP s x = ((p.a : Int), 0) by unfold findP; rw [find_sim I S h1]; simp [h3, h4]]
theorem get_pair (T : Two w0 w X s r vp vs k b) (I : Inv s) (S : Sim s r) (x : Int) (hx : x ≤ 9223372036854775807) :
    Calls Try.prog 17 #[X.p, .int .i64 x] w fun e w1 => ∃ y f : Int, e = two (y, f) ∧ Hid (Kept X w w1) ∧ Hid (Two w0 w1 X s r vp vs k b) ∧ Hid (Calls Try.prog 18 #[rv r vp vs, .int .i64 x] w1 fun e2 w2 => e2 = two (y, f) ∧ Hid (Two w0 w2 X s r vp vs k b)) := by
  refine (get_any x w T.L I hx).mono ?_
  rintro e w1 ⟨rfl, hb⟩
  refine ⟨(getP s x).1, (getP s x).2, rfl, fun q hq _ => hb.block q hq, T.under hb, (rget_any x (T.under hb).R (find_in I S)).mono ?_⟩
  rintro e2 w2 ⟨h, hb2⟩
  refine ⟨?_, (T.under hb).under hb2⟩
  rcases h with ⟨h1, rfl⟩ | ⟨j, m, v, h1, rfl, h2, rfl⟩
  · rw [show getP s x = (0, 6) by unfold getP; rw [find_sim I S h1]]
  · obtain ⟨m', u, h3, h4, h5⟩ := word_of I (find_sim I S h1)
    obtain rfl : m = m' + 1 := by omega
    have h6 := S.st m' u h4
    rw [h6] at h2; cases h2
    rw [show getP s ((m' + 1 : Nat) : Int) = (v, 0) by unfold getP; rw [find_sim I S h1]; simp [h4]]
theorem set_pair (T : Two w0 w X s r vp vs k b) (I : Inv s) (S : Sim s r) (hf : r.fd ≤ k) (x v : Int) (hx : x ≤ 9223372036854775807) :
    Calls Try.prog 19 #[X.p, .int .i64 x, .int .i64 v] w fun e w1 => ∃ (f : Int) (s' : As), e = .returned (.int .i64 f) ∧ Hid (Kept X w w1) ∧ Hid (Two w0 w1 X s' r vp vs k b) ∧ Hid (Calls Try.prog 20 #[rv r vp vs, .int .i64 x, .int .i64 v] w1 fun e2 w2 => ∃ r' vp' vs', e2 = .returned (.tuple #[.int .i64 f, rv r' vp' vs']) ∧ Hid (w2.heap[b]? = w1.heap[b]?) ∧ Hid (Two w0 (sto w2 b r' vp' vs') X s' r' vp' vs' k b ∧ Inv s' ∧ Sim s' r' ∧ r'.fd ≤ k)) := by
  refine (set_any x v w T.L I hx).mono ?_
  rintro e w1 ⟨rfl, L', St⟩
  have T1 := T.prog St L'
  refine ⟨(setP s x v).1, (setP s x v).2, rfl, St.block, T1, (rset_any x v T1.R (find_in I S)).mono ?_⟩
  rintro e2 w2 h
  rcases h with ⟨h1, rfl, hb⟩ | ⟨j, m, vp', vs', h1, rfl, rfl, ho⟩
  · have e1 : setP s x v = (6, s) := by unfold setP; rw [find_sim I S h1]
    rw [e1] at T1 ⊢
    exact ⟨r, vp, vs, rfl, hb.block b (lt_of_block T1.box), T1.store (ROut.same T1.R hb), I, S, hf⟩
  · obtain ⟨m', u, h3, h4, h5⟩ := word_of I (find_sim I S h1)
    obtain rfl : m = m' + 1 := by omega
    have e1 : setP s ((m' + 1 : Nat) : Int) v = (0, setS s (m' + 1) v) := by unfold setP; rw [find_sim I S h1]; simp
    rw [e1] at T1 ⊢
    exact ⟨_, vp', vs', rfl, ho.below.block b (lt_of_block T1.box), T1.store ho, I.set _ v, sim_set S (by omega) v, hf⟩
theorem free_pair (T : Two w0 w X s r vp vs k b) (I : Inv s) (S : Sim s r) (hf : r.fd ≤ k) (hk : k < 1000) (x : Int) (hx : x ≤ 9223372036854775807) :
    Calls Try.prog 13 #[X.p, .int .i64 x] w fun e w1 => ∃ (f : Int) (X' : Wh) (s' : As), e = .returned (.int .i64 f) ∧ Hid (Kept X w w1) ∧ Hid (Two w0 w1 X' s' r vp vs (k + 1) b) ∧ Hid (X'.p = X.p) ∧ Hid (Calls Try.prog 14 #[rv r vp vs, .int .i64 x] w1 fun e2 w2 => ∃ r' vp' vs', e2 = .returned (.tuple #[.int .i64 f, rv r' vp' vs']) ∧ Hid (w2.heap[b]? = w1.heap[b]?) ∧ Hid (Two w0 (sto w2 b r' vp' vs') X' s' r' vp' vs' (k + 1) b ∧ Inv s' ∧ Sim s' r' ∧ r'.fd ≤ k + 1)) := by
  refine (free_any T.L I x hx (by omega)).mono ?_
  rintro e w1 ⟨X', St, h⟩
  have hp : X'.p = X.p := by unfold Wh.p; rw [St.A]
  rcases h with ⟨h1, rfl, L'⟩ | ⟨i, p, h1, h2, h3, h4, rfl, L'⟩
  · have T1 := T.prog St L'
    refine ⟨6, X', s, rfl, St.block, T1, hp, (rfree_any x T1.R (by omega)).mono ?_⟩
    rintro e2 w2 h
    rcases h with ⟨h2, rfl, hb⟩ | ⟨j, q, vp', vs', h2, h3, rfl, ho⟩
    · exact ⟨r, vp, vs, rfl, hb.block b (lt_of_block T1.box), T1.store (ROut.same T1.R hb), I, S, by omega⟩
    · rw [at_sim I S h2] at h1; cases h1
  · have T1 := T.prog St L'
    refine ⟨0, X', freeS s i p, rfl, St.block, T1, hp, (rfree_any x T1.R (by omega)).mono ?_⟩
    rintro e2 w2 h
    rcases h with ⟨h5, rfl, hb⟩ | ⟨j, q, vp', vs', h5, h6, rfl, ho⟩
    · rw [at_sim I S h5] at h1; cases h1
    · have e1 := at_sim I S h5
      rw [h1] at e1; cases e1
      exact ⟨_, vp', vs', rfl, ho.below.block b (lt_of_block T1.box), T1.store ho, I.free h2 h4, sim_free I S h2 h6 h4, by show r.fd + 1 ≤ _; omega⟩
theorem live_pair (T : Two w0 w X s r vp vs k b) (I : Inv s) (S : Sim s r) :
    Calls Try.prog 24 #[X.p] w fun e w1 => ∃ va, e = .returned va ∧ Hid (Two w0 w1 X s r vp vs k b) ∧ Hid (Calls Try.prog 25 #[rv r vp vs] w1 fun e2 w2 => ∃ vb, e2 = .returned vb ∧ Hid (Two w0 w2 X s r vp vs k b) ∧ Hid (∀ w3, w3 = w2 → Calls Try.prog 23 #[va, vb] w3 fun e3 w4 => e3 = .returned (.bool true) ∧ Hid (Two w0 w4 X s r vp vs k b))) := by
  refine (live_any T.L I).mono ?_
  rintro e w1 ⟨va, rfl, ha, hb⟩
  have T1 := T.under hb
  refine ⟨va, rfl, T1, (rlive_any T1.R).mono ?_⟩
  rintro e2 w2 ⟨vb, rfl, hv, hb2⟩
  have T2 := T1.under hb2
  refine ⟨vb, rfl, T2, ?_⟩
  rintro w3 rfl
  rw [live_sim S] at hv
  have hl : (liveL s.ps).length ≤ 70000 := by
    have h1 := liveL_le s.ps s.ps.length
    rw [List.take_length] at h1
    have := I.pieces; omega
  refine (same_any (ownsRow_keep ha fun g hg => hb2.block g (ha.lt g hg).2) hv hl).mono ?_
  rintro e3 w4 ⟨rfl, hb3⟩
  exact ⟨rfl, T2.under hb3⟩
end
end Go.Proofs.Yteeadmkljcjjkaa
