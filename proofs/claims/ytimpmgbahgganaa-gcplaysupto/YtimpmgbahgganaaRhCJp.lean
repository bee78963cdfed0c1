/- The document's Set of a heap. -/
import Derived.Test.YtimpmgbahgganaaRhMJp
import Derived.Deep.DrawnRows
namespace Go.Proofs.Ytimpmgbahgganaa
open Go.RowKit Go.Maps
attribute [local go_sem ↓] Go.wp_at_zero Go.wp_at_succ

/-- Seven cells that may be written. -/
structure F7 (w : World) (b : Nat) : Prop where
  f0 : w.frozen? ⟨b, 0, none⟩ = false
  f1 : w.frozen? ⟨b, 1, none⟩ = false
  f2 : w.frozen? ⟨b, 2, none⟩ = false
  f3 : w.frozen? ⟨b, 3, none⟩ = false
  f4 : w.frozen? ⟨b, 4, none⟩ = false
  f5 : w.frozen? ⟨b, 5, none⟩ = false
  f6 : w.frozen? ⟨b, 6, none⟩ = false
theorem f7_of {w : World} {b : Nat} {cs : Array Value} {t : TypeId} (h : w.heap[b]? = some (.cells cs t (0, 0))) : F7 w b := by
  constructor <;> simp [World.frozen?, h]
abbrev set7 (w : World) (b : Nat) (v0 v1 v2 v3 v4 v5 v6 : Value) : World :=
  ((((((w.setCell ⟨b, 0, none⟩ v0).setCell ⟨b, 1, none⟩ v1).setCell ⟨b, 2, none⟩ v2).setCell ⟨b, 3, none⟩ v3).setCell ⟨b, 4, none⟩ v4).setCell ⟨b, 5, none⟩ v5).setCell ⟨b, 6, none⟩ v6
abbrev set5 (w : World) (b : Nat) (v1 v2 v3 v4 v5 : Value) : World :=
  ((((w.setCell ⟨b, 1, none⟩ v1).setCell ⟨b, 2, none⟩ v2).setCell ⟨b, 3, none⟩ v3).setCell ⟨b, 4, none⟩ v4).setCell ⟨b, 5, none⟩ v5
theorem set7_other (w : World) (b j : Nat) (v0 v1 v2 v3 v4 v5 v6 : Value) (hj : j ≠ b) : (set7 w b v0 v1 v2 v3 v4 v5 v6).heap[j]? = w.heap[j]? := by
  rw [Below.heap_setCell _ _ _ _ hj, Below.heap_setCell _ _ _ _ hj, Below.heap_setCell _ _ _ _ hj, Below.heap_setCell _ _ _ _ hj, Below.heap_setCell _ _ _ _ hj, Below.heap_setCell _ _ _ _ hj, Below.heap_setCell _ _ _ _ hj]
theorem set5_other (w : World) (b j : Nat) (v1 v2 v3 v4 v5 : Value) (hj : j ≠ b) : (set5 w b v1 v2 v3 v4 v5).heap[j]? = w.heap[j]? := by
  rw [Below.heap_setCell _ _ _ _ hj, Below.heap_setCell _ _ _ _ hj, Below.heap_setCell _ _ _ _ hj, Below.heap_setCell _ _ _ _ hj, Below.heap_setCell _ _ _ _ hj]
theorem set5_same {w : World} {b : Nat} {a0 a1 a2 a3 a4 a5 a6 : Value} {t : TypeId} (h : w.heap[b]? = some (.cells #[a0, a1, a2, a3, a4, a5, a6] t (0, 0))) (v1 v2 v3 v4 v5 : Value) :
    (set5 w b v1 v2 v3 v4 v5).heap[b]? = some (.cells #[a0, v1, v2, v3, v4, v5, a6] t (0, 0)) := by
  have h1 := heap_setCell_same w b 1 v1 h
  have h2 := heap_setCell_same _ b 2 v2 h1
  have h3 := heap_setCell_same _ b 3 v3 h2
  have h4 := heap_setCell_same _ b 4 v4 h3
  have h5 := heap_setCell_same _ b 5 v5 h4
  rw [h5]; rfl
theorem below_set7 {B : Nat} {a w : World} (h : Below B a w) {b : Nat} (hb : B ≤ b) (v0 v1 v2 v3 v4 v5 v6 : Value) : Below B a (set7 w b v0 v1 v2 v3 v4 v5 v6) :=
  ((((((h.setCell hb _).setCell hb _).setCell hb _).setCell hb _).setCell hb _).setCell hb _).setCell hb _
theorem below_set5 {B : Nat} {a w : World} (h : Below B a w) {b : Nat} (hb : B ≤ b) (v1 v2 v3 v4 v5 : Value) : Below B a (set5 w b v1 v2 v3 v4 v5) :=
  ((((h.setCell hb _).setCell hb _).setCell hb _).setCell hb _).setCell hb _
/-- What a call of the document's leaves: a new heap beside the old one. -/
structure HOut (B : Nat) (w : World) (vt vp vs vo : Value) (q' : Rh) (vp' vs' vo' : Value) (w' : World) : Prop where
  rh : RH B w' q' vt vp' vs' vo'
  below : Below w.heap.size w w'
  fp : ∀ g, vp'.ownBlock = some g → vp.ownBlock = some g ∨ w.heap.size ≤ g
  fs : ∀ g, vs'.ownBlock = some g → vs.ownBlock = some g ∨ w.heap.size ≤ g
  fo : ∀ g, vo'.ownBlock = some g → vo.ownBlock = some g ∨ w.heap.size ≤ g
/-- As many were freed, and the objects are the same. -/
def Fd1 (q q' : Rh) : Prop := q'.r.fd = q.r.fd ∧ q'.ob = q.ob
def Zr (w : World) (b : Nat) : Prop := w.heap[b]? = some (.cells #[.slice none 0 0, .int .i64 0, .int .i64 0, .slice none 0 0, .int .i64 0, .slice none 0 0, .slice none 0 0] 36 (0, 0))
section
variable {B : Nat} {w w' : World} {q : Rh} {vt vp vs vo : Value} {h : Hs}
theorem HOut.same (R : RH B w q vt vp vs vo) (hb : Below w.heap.size w w') : HOut B w vt vp vs vo q vp vs vo w' := ⟨R.below hb, hb, fun _ h => .inl h, fun _ h => .inl h, fun _ h => .inl h⟩
/-- The two boxes of such a call. -/
structure Two7 (w w' : World) (q : Rh) (vt vp vs vo : Value) : Prop where
  bel : Below w.heap.size w w'
  bx : Bx w' w.heap.size q vt vp vs vo
  zr : Zr w' (w.heap.size + 1)
theorem Two7.under {w'' : World} (T : Two7 w w' q vt vp vs vo) (hb : Below w'.heap.size w' w'') : Two7 w w'' q vt vp vs vo :=
  ⟨T.bel.trans (hb.mono T.bel.size), (hb.block _ (lt_of_block T.bx)).trans T.bx, (hb.block _ (lt_of_block T.zr)).trans T.zr⟩
theorem two7_new (w : World) (q : Rh) (vt vp vs vo : Value) : Two7 w ((w.alloc (.cells #[vt, .int .i64 q.r.wd, .int .i64 q.r.ln, vp, .int .i64 q.r.fd, vs, vo] 36)).alloc (.cells #[.slice none 0 0, .int .i64 0, .int .i64 0, .slice none 0 0, .int .i64 0, .slice none 0 0, .slice none 0 0] 36)) q vt vp vs vo :=
  ⟨((Below.refl _ w).alloc (Nat.le_refl _) _).alloc (by simp) _, by unfold Bx; rw [Below.heap_alloc _ _ _ (by simp), heap_new _ _ rfl], by unfold Zr; rw [heap_new _ _ (by simp)]⟩
theorem Two7.size (T : Two7 w w' q vt vp vs vo) : w.heap.size + 1 < w'.heap.size := lt_of_block T.zr
theorem find_in (I : HInv h) (S : Sim h.s q.r) {x : Int} : ∀ j, FindR q.r.ps x (some j) → ∃ m : Nat, x = m ∧ m < q.r.st.length := by
  intro j hj
  obtain ⟨m, u, h1, _, h3⟩ := word_of I.inv (find_sim I.inv S hj)
  exact ⟨m + 1, h1, by rw [S.st1]; omega⟩
/-- The end of Set: the arena's Set was called at w', its answer is stored. -/
theorem set_out {w4 : World} {m : Nat} {v : Int} {vp' vs' : Value} (R : RH B w q vt vp vs vo) (T : Two7 w w' q vt vp vs vo) (Z : ROut B w' vp vs (rSet q.r m v) vp' vs' w4) :
    ∃ W5, set5 (w4.alloc (.cells #[.int .i64 (rSet q.r m v).wd, .int .i64 (rSet q.r m v).ln, vp', .int .i64 (rSet q.r m v).fd, vs'] 33)) w.heap.size (.int .i64 (rSet q.r m v).wd) (.int .i64 (rSet q.r m v).ln) vp' (.int .i64 (rSet q.r m v).fd) vs' = W5 ∧
      Bx W5 w.heap.size { q with r := rSet q.r m v } vt vp' vs' vo ∧ Zr W5 (w.heap.size + 1) ∧ ∀ v0 v1 v2 v3 v4 v5 v6, HOut B w vt vp vs vo { q with r := rSet q.r m v } vp' vs' vo (set7 W5 (w.heap.size + 1) v0 v1 v2 v3 v4 v5 v6).drew := by
  have hz := T.size
  have hzb := Z.below.size
  obtain ⟨W4, hW4⟩ : ∃ W4, w4.alloc (.cells #[.int .i64 (rSet q.r m v).wd, .int .i64 (rSet q.r m v).ln, vp', .int .i64 (rSet q.r m v).fd, vs'] 33) = W4 := ⟨_, rfl⟩
  have k4 : ∀ g, g < w4.heap.size → W4.heap[g]? = w4.heap[g]? := fun g hg => by rw [← hW4]; exact Below.heap_alloc _ _ _ hg
  have b4 : Below w4.heap.size w4 W4 := by rw [← hW4]; exact (Below.refl _ w4).alloc (Nat.le_refl _) _
  have T4 := (T.under Z.below).under b4
  rw [hW4]
  obtain ⟨W5, hW5⟩ : ∃ W5, set5 W4 w.heap.size (.int .i64 (rSet q.r m v).wd) (.int .i64 (rSet q.r m v).ln) vp' (.int .i64 (rSet q.r m v).fd) vs' = W5 := ⟨_, rfl⟩
  have k5 : ∀ g, g ≠ w.heap.size → W5.heap[g]? = W4.heap[g]? := fun g hg => by rw [← hW5]; exact set5_other _ _ _ _ _ _ _ _ hg
  have x5 : Bx W5 w.heap.size { q with r := rSet q.r m v } vt vp' vs' vo := by rw [← hW5]; exact set5_same T4.bx _ _ _ _ _
  have b5 : Below w.heap.size w W5 := by rw [← hW5]; exact below_set5 T4.bel (Nat.le_refl _) _ _ _ _ _
  have z5 : Zr W5 (w.heap.size + 1) := (k5 _ (by omega)).trans T4.zr
  have s5 : W4.heap.size = W5.heap.size := by rw [← hW5]; simp
  clear hW4
  refine ⟨W5, hW5, x5, z5, fun v0 v1 v2 v3 v4 v5 v6 => ?_⟩
  obtain ⟨W6, hW6⟩ : ∃ W6, set7 W5 (w.heap.size + 1) v0 v1 v2 v3 v4 v5 v6 = W6 := ⟨_, rfl⟩
  have k6 : ∀ g, g ≠ w.heap.size + 1 → W6.heap[g]? = W5.heap[g]? := fun g hg => by rw [← hW6]; exact set7_other _ _ _ _ _ _ _ _ _ _ hg
  have b6 : Below w.heap.size w W6 := by rw [← hW6]; exact below_set7 b5 (by omega) _ _ _ _ _ _ _
  have s6 : W5.heap.size = W6.heap.size := by rw [← hW6]; simp
  rw [hW6]
  clear hW6 hW5
  have far : ∀ {u u' : Value}, (∀ g, u'.ownBlock = some g → u.ownBlock = some g ∨ w'.heap.size ≤ g) → (∀ g, u.ownBlock = some g → g < w.heap.size) → ∀ g, u'.ownBlock = some g → g ≠ w.heap.size ∧ g ≠ w.heap.size + 1 := fun {u u'} h1 h2 g hg => by
    rcases h1 g hg with h3 | h3
    · have := h2 g h3; omega
    · omega
  have keep : ∀ g, g < w4.heap.size → g ≠ w.heap.size → g ≠ w.heap.size + 1 → W6.drew.heap[g]? = w4.heap[g]? := fun g h1 h2 h3 => ((k6 g h3).trans (k5 g h2)).trans (k4 g h1)
  have fp := far Z.fp (fun g hg => (R.rl.pcs.lt g hg).2)
  have fs := far Z.fs (fun g hg => (R.rl.sto.lt g hg).2)
  have hbel : Below w.heap.size w W6.drew := b6.drew
  have hz6 : w4.heap.size ≤ W6.drew.heap.size := by show _ ≤ W6.heap.size; have := b4.size; omega
  refine ⟨⟨R.lay.below hbel, Z.rl.keep (fun g hg => keep g (Z.rl.pcs.lt g hg).2 (fp g hg).1 (fp g hg).2) (fun g hg => keep g (Z.rl.sto.lt g hg).2 (fs g hg).1 (fs g hg).2) hz6, ownsRow_keep (w := w) R.obs (fun g hg => hbel.block g (R.obs.lt g hg).2), R.bt, R.bf, R.bo, R.ok⟩, hbel, fun g hg => ?_, fun g hg => ?_, fun g hg => .inl hg⟩
  · rcases Z.fp g hg with h1 | h1
    · exact .inl h1
    · exact .inr (by omega)
  · rcases Z.fs g hg with h1 | h1
    · exact .inl h1
    · exact .inr (by omega)
theorem SimH.uniq (S : SimH h q) {j j' : Nat} {o o' : Ro} (h1 : q.ob[j]? = some o) (h2 : q.ob[j']? = some o') (e : o.a = o'.a) : j = j' := by
  have hnd := List.pairwise_iff_getElem.1 S.nd
  obtain ⟨l1, g1⟩ := List.getElem?_eq_some_iff.1 h1
  obtain ⟨l2, g2⟩ := List.getElem?_eq_some_iff.1 h2
  rcases Nat.lt_trichotomy j j' with hlt | heq | hlt
  · exact (hnd j j' (by simpa using l1) (by simpa using l2) hlt (by simp [g1, g2, e])).elim
  · exact heq
  · exact (hnd j' j (by simpa using l2) (by simpa using l1) hlt (by simp [g1, g2, e])).elim
/-- Behind the test the two heaps are set. -/
theorem simh_set (S : SimH h q) {m : Nat} (hm : 1 ≤ m) (v : Int) : SimH (setH h m v) { q with r := rSet q.r m v } := ⟨S.ty, sim_set S.sim hm v, S.ob, S.nd⟩
set_option maxHeartbeats 2000000 in
theorem rset_none (R : RH B w q vt vp vs vo) (S : SimH h q) (I : HInv h) {x v : Int} (hb : baseA h x = none) :
    Calls Try.prog 16 #[rhv q vt vp vs vo, .int .i64 x, .int .i64 v] w fun e w' => e = .returned (.tuple #[.int .i64 6, rhv q vt vp vs vo]) ∧ Below w.heap.size w w' := by
  obtain ⟨aot, cpt, rfl⟩ := R.tform
  obtain ⟨aop, cpp, rfl⟩ := R.rl.pform
  obtain ⟨aos, cps, rfl⟩ := R.rl.sform
  obtain ⟨aoo, cpo, rfl⟩ := R.oform
  have T1 := two7_new w q (.slice aot q.ty.length cpt) (.slice aop q.r.ps.length cpp) (.slice aos q.r.st.length cps) (.slice aoo q.ob.length cpo)
  have hfi := rfind_sim (R.below T1.bel) S I x
  have HT := hide T1
  clear R T1
  go_enter Try.func16, Try.ntmps16
  go_wp2_with fail
  refine hfi.mono ?_
  rintro e w1 ⟨hh, hb1⟩
  rcases hh with ⟨_, rfl⟩ | ⟨j, o, _, hb2, _⟩
  · have T2 := HT.out.under hb1
    obtain ⟨d0, d1, d2, d3, d4, d5, d6⟩ := c7_of T2.bx
    obtain ⟨k0, k1, k2, k3, k4, k5, k6⟩ := c7_of T2.zr
    obtain ⟨f0, f1, f2, f3, f4, f5, f6⟩ := f7_of T2.zr
    have HT2 := hide T2
    have hz := T2.size
    clear hfi hb1 T2
    go_wp2
    go_region
    all_goals go_wp2
    all_goals exact bodyPost_ret (v := .tuple #[.int .i64 6, rhv q (.slice aot q.ty.length cpt) (.slice aop q.r.ps.length cpp) (.slice aos q.r.st.length cps) (.slice aoo q.ob.length cpo)]) (by simp [results, Try.results16, go_sem, k0, k1, k2, k3, k4, k5, k6]) rfl ⟨rfl, (below_set7 HT2.out.bel (Nat.le_succ _) _ _ _ _ _ _ _).drew⟩
  · rw [hb] at hb2; cases hb2
end
end Go.Proofs.Ytimpmgbahgganaa

namespace Go.Proofs.Ytimpmgbahgganaa
open Go.RowKit Go.Maps
attribute [local go_sem ↓] Go.wp_at_zero Go.wp_at_succ

section
variable {B : Nat} {w w' : World} {q : Rh} {vt vp vs vo : Value} {h : Hs}
/-- What stands behind a call within Set. -/
structure St7 (w w' : World) (q : Rh) (vt vp vs vo : Value) (g j : Nat) (o : Ro) : Prop where
  two : Two7 w w' q vt vp vs vo
  o0 : w'.cell? ⟨g, j * 3, none⟩ = some (.int .i64 o.a)
  o1 : w'.cell? ⟨g, j * 3 + 1, none⟩ = some (.int .i64 o.t)
  o2 : w'.cell? ⟨g, j * 3 + 2, none⟩ = some (.int .i64 o.n)
  lt : g < w'.heap.size
theorem St7.under {w'' : World} {g j : Nat} {o : Ro} (T : St7 w w' q vt vp vs vo g j o) (hb : Below w'.heap.size w' w'') : St7 w w'' q vt vp vs vo g j o :=
  ⟨T.two.under hb, by rw [World.cell?_of_block (a := ⟨g, j * 3, none⟩) (hb.block g T.lt)]; exact T.o0, by rw [World.cell?_of_block (a := ⟨g, j * 3 + 1, none⟩) (hb.block g T.lt)]; exact T.o1, by rw [World.cell?_of_block (a := ⟨g, j * 3 + 2, none⟩) (hb.block g T.lt)]; exact T.o2, Nat.lt_of_lt_of_le T.lt hb.size⟩
theorem set5_alloc {w : World} {b : Nat} (o : Obj) (hb : b < w.heap.size) (v1 v2 v3 v4 v5 : Value) : set5 (w.alloc o) b v1 v2 v3 v4 v5 = (set5 w b v1 v2 v3 v4 v5).alloc o := by
  unfold set5
  rw [World.setCell_alloc_past o b 1 v1 hb, World.setCell_alloc_past o b 2 v2 (by simpa using hb), World.setCell_alloc_past o b 3 v3 (by simpa using hb), World.setCell_alloc_past o b 4 v4 (by simpa using hb), World.setCell_alloc_past o b 5 v5 (by simpa using hb)]
theorem rset_call (R : RH B w q vt vp vs vo) (S : SimH h q) (I : HInv h) {x v : Int} {a : Nat} (hb : baseA h x = some a) (T : Two7 w w' q vt vp vs vo) :
    Calls Try.prog 37 #[rv q.r vp vs, .int .i64 x, .int .i64 v] w' fun e w4 => ∃ (m : Nat) (aop cpp aos cps : _), Hid (x = m ∧ 1 ≤ m) ∧ e = .returned (.tuple #[.int .i64 0, rv (rSet q.r m v) (.slice aop q.r.ps.length cpp) (.slice aos q.r.st.length cps)]) ∧ w.heap.size + 1 < w4.heap.size ∧ C7 w4 w.heap.size vt (.int .i64 q.r.wd) (.int .i64 q.r.ln) vp (.int .i64 q.r.fd) vs vo ∧ F7 w4 w.heap.size ∧
      ∃ W5, Hid (set5 (w4.alloc (.cells #[.int .i64 (rSet q.r m v).wd, .int .i64 (rSet q.r m v).ln, (.slice aop q.r.ps.length cpp), .int .i64 (rSet q.r m v).fd, (.slice aos q.r.st.length cps)] 33)) w.heap.size (.int .i64 (rSet q.r m v).wd) (.int .i64 (rSet q.r m v).ln) (.slice aop q.r.ps.length cpp) (.int .i64 (rSet q.r m v).fd) (.slice aos q.r.st.length cps) = W5) ∧
        C7 W5 w.heap.size vt (.int .i64 (rSet q.r m v).wd) (.int .i64 (rSet q.r m v).ln) (.slice aop q.r.ps.length cpp) (.int .i64 (rSet q.r m v).fd) (.slice aos q.r.st.length cps) vo ∧ C7 W5 (w.heap.size + 1) (.slice none 0 0) (.int .i64 0) (.int .i64 0) (.slice none 0 0) (.int .i64 0) (.slice none 0 0) (.slice none 0 0) ∧ F7 W5 (w.heap.size + 1) ∧
        Hid (∀ v0 v1 v2 v3 v4 v5 v6, HOut B w vt vp vs vo { q with r := rSet q.r m v } (.slice aop q.r.ps.length cpp) (.slice aos q.r.st.length cps) vo (set7 W5 (w.heap.size + 1) v0 v1 v2 v3 v4 v5 v6).drew) := by
  refine (rset_any x v (R.below T.bel).rl (find_in I S.sim)).mono ?_
  rintro e w4 hh
  obtain ⟨t, n, f, i, p, O, hho, _⟩ := I.base hb
  rcases hh with ⟨h1, _⟩ | ⟨j, m, vp', vs', h1, rfl, rfl, ho⟩
  · rw [find_sim I.inv S.sim h1] at hho; cases hho
  · obtain ⟨aop, cpp, e1⟩ := ho.rl.pform
    obtain ⟨aos, cps, e2⟩ := ho.rl.sform
    rw [show (rSet q.r m v).st.length = q.r.st.length by simp [rSet]] at e2
    rw [show (rSet q.r m v).ps.length = q.r.ps.length from rfl] at e1
    subst e1 e2
    obtain ⟨W5, hW5, hx5, hz5, hout⟩ := set_out R T ho
    have T4 := T.under ho.below
    refine ⟨m, aop, cpp, aos, cps, ⟨rfl, ?_⟩, rfl, T4.size, c7_of T4.bx, f7_of T4.bx, W5, hW5, c7_of hx5, c7_of hz5, f7_of hz5, hout⟩
    obtain ⟨p', hp', h3, _⟩ := h1
    have := O.a1
    obtain ⟨m', u, h4, _⟩ := word_of I.inv hho
    omega
set_option maxHeartbeats 600000 in
theorem rset_zero (R : RH B w q vt vp vs vo) (S : SimH h q) (I : HInv h) {x v : Int} {j i : Nat} {o : Ro} {f : List Int} (ho : q.ob[j]? = some o) (hb : baseA h x = some o.a) (hf : q.ty[o.t]? = some f) (hxi : x = (o.a : Int) + (i : Int)) (hv : v = 0) :
    Calls Try.prog 16 #[rhv q vt vp vs vo, .int .i64 x, .int .i64 v] w fun e w' => ∃ q' vp' vs', e = .returned (.tuple #[.int .i64 0, rhv q' vt vp' vs' vo]) ∧ Hid (SimH (setH h x.toNat v) q' ∧ Fd1 q q') ∧ Hid (HOut B w vt vp vs vo q' vp' vs' vo w') := by
  obtain ⟨aot, cpt, rfl⟩ := R.tform
  obtain ⟨aop, cpp, rfl⟩ := R.rl.pform
  obtain ⟨aos, cps, rfl⟩ := R.rl.sform
  obtain ⟨aoo, cpo, rfl⟩ := R.oform
  have HR := hide R
  have HB := hide hb
  have HO := hide ho
  have hokk := R.ok j o ho
  have hbo := R.bo
  have T1 := two7_new w q (.slice aot q.ty.length cpt) (.slice aop q.r.ps.length cpp) (.slice aos q.r.st.length cps) (.slice aoo q.ob.length cpo)
  have hfi := rfind_sim (R.below T1.bel) S I x
  have HT := hide T1
  have HN0 := hide (show q.ob.length = q.ob.length from rfl)
  clear T1 HN0
  have hjl := get_lt ho
  obtain ⟨g, cap, hvo, hg, e0, e1, e2⟩ := R.object ho
  obtain rfl : aoo = some ⟨g, 0, none⟩ := (Value.slice.inj hvo).1
  have HOB := hide (And.intro hg (And.intro e0 (And.intro e1 e2)))
  have hvz : (v != 0) = false := by simp [hv]
  have HV := hide hv
  clear hv
  have HXI := hide hxi
  have HFt := hide hf
  clear hvo e0 e1 e2 hg hb ho R hxi hf
  generalize hN : q.ob.length = n at *
  clear hN
  have bj : (j : Int) < (n : Int) := by omega
  go_enter Try.func16, Try.ntmps16
  go_wp2_with fail
  refine hfi.mono ?_
  rintro e w1 ⟨hh, hb1⟩
  rcases hh with ⟨h0, _⟩ | ⟨j', o', ho', hb', hobs, rfl⟩
  · rw [HB.out] at h0; cases h0
  · obtain rfl : j' = j := by
      rw [HB.out] at hb'
      exact S.uniq ho' HO.out (Option.some.inj hb').symm
    have T2 := HT.out.under hb1
    have ST : St7 w w1 q (.slice aot q.ty.length cpt) (.slice aop q.r.ps.length cpp) (.slice aos q.r.st.length cps) (.slice (some ⟨g, 0, none⟩) n cpo) g j' o := by
      have hbw := T2.bel
      obtain ⟨h1, h2, h3, h4⟩ := HOB.out
      exact ⟨T2, by rw [World.cell?_of_block (a := ⟨g, j' * 3, none⟩) (hbw.block g h1)]; exact h2, by rw [World.cell?_of_block (a := ⟨g, j' * 3 + 1, none⟩) (hbw.block g h1)]; exact h3, by rw [World.cell?_of_block (a := ⟨g, j' * 3 + 2, none⟩) (hbw.block g h1)]; exact h4, Nat.lt_of_lt_of_le h1 hbw.size⟩
    obtain ⟨d0, d1, d2, d3, d4, d5, d6⟩ := c7_of T2.bx
    have t0 := ST.o0
    have t1 := ST.o1
    have t2 := ST.o2
    have hz := T2.size
    have HST := hide ST
    have hdj : decide ((j' : Int) < 0) = false := by simp
    clear hfi hb1 T2 ST ho' hb' hobs
    clear o'
    go_wp2
    go_quiet (fail)
    have T3 := (HST.out.under (w'' := w1.drewN nq) (below_drewN (Below.refl _ _) nq)).two
    go_wp2_with fail
    refine (rset_call HR.out S I HB.out T3).mono ?_
    rintro e w4 ⟨m, aop', cpp', aos', cps', hxm, rfl, hz4, ⟨x0, x1, x2, x3, x4, x5, x6⟩, ⟨y0, y1, y2, y3, y4, y5, y6⟩, W5, hW5, ⟨p0, p1, p2, p3, p4, p5, p6⟩, ⟨k0, k1, k2, k3, k4, k5, k6⟩, ⟨f0, f1, f2, f3, f4, f5, f6⟩, hout⟩
    have HS7 : Hid (SimH (setH h x.toNat v) { q with r := rSet q.r m v } ∧ Fd1 q { q with r := rSet q.r m v }) := hide ⟨by rw [hxm.out.1, Int.toNat_natCast]; exact simh_set S hxm.out.2 v, rfl, rfl⟩
    have hz4' : w.heap.size < w4.heap.size := by omega
    have hW6 := hide ((set5_alloc _ hz4' _ _ _ _ _).symm.trans hW5.out)
    go_upto_region 8 with fail
    rw [hW6.out]
    clear hW5 hW6 x0 x1 x2 x3 x4 x5 x6 y0 y1 y2 y3 y4 y5 y6
    go_wp2
    go_region
    all_goals go_wp2
    all_goals exact bodyPost_ret (v := .tuple #[.int .i64 0, rhv { q with r := rSet q.r m v } (.slice aot q.ty.length cpt) (.slice aop' q.r.ps.length cpp') (.slice aos' q.r.st.length cps') (.slice (some ⟨g, 0, none⟩) n cpo)]) (by simp [results, Try.results16, go_sem, k0, k1, k2, k3, k4, k5, k6]) rfl ⟨_, _, _, rfl, HS7, hide (hout.out _ _ _ _ _ _ _)⟩
end
end Go.Proofs.Ytimpmgbahgganaa

namespace Go.Proofs.Ytimpmgbahgganaa
open Go.RowKit Go.Maps
attribute [local go_sem ↓] Go.wp_at_zero Go.wp_at_succ

section
variable {B : Nat} {w w' : World} {q : Rh} {vt vp vs vo : Value} {h : Hs}
set_option maxHeartbeats 600000 in
theorem rset_num (R : RH B w q vt vp vs vo) (S : SimH h q) (I : HInv h) {x v : Int} {j i : Nat} {o : Ro} {f : List Int} (ho : q.ob[j]? = some o) (hb : baseA h x = some o.a) (hf : q.ty[o.t]? = some f) (hxi : x = (o.a : Int) + (i : Int)) (hv : v ≠ 0) (hi : i < ow q o) (hp : ptrB (ptrs f) o.n i = false) :
    Calls Try.prog 16 #[rhv q vt vp vs vo, .int .i64 x, .int .i64 v] w fun e w' => ∃ q' vp' vs', e = .returned (.tuple #[.int .i64 0, rhv q' vt vp' vs' vo]) ∧ Hid (SimH (setH h x.toNat v) q' ∧ Fd1 q q') ∧ Hid (HOut B w vt vp vs vo q' vp' vs' vo w') := by
  obtain ⟨aot, cpt, rfl⟩ := R.tform
  obtain ⟨aop, cpp, rfl⟩ := R.rl.pform
  obtain ⟨aos, cps, rfl⟩ := R.rl.sform
  obtain ⟨aoo, cpo, rfl⟩ := R.oform
  have HR := hide R
  have HB := hide hb
  have HO := hide ho
  have hokk := R.ok j o ho
  have hbo := R.bo
  have T1 := two7_new w q (.slice aot q.ty.length cpt) (.slice aop q.r.ps.length cpp) (.slice aos q.r.st.length cps) (.slice aoo q.ob.length cpo)
  have hfi := rfind_sim (R.below T1.bel) S I x
  have HT := hide T1
  have HN0 := hide (show q.ob.length = q.ob.length from rfl)
  clear T1 HN0
  have hjl := get_lt ho
  obtain ⟨g, cap, hvo, hg, e0, e1, e2⟩ := R.object ho
  obtain rfl : aoo = some ⟨g, 0, none⟩ := (Value.slice.inj hvo).1
  have HOB := hide (And.intro hg (And.intro e0 (And.intro e1 e2)))
  have hvz : (v != 0) = true := by simp [hv]
  have hvz2 : decide (v = 0) = false := by simp [hv]
  have HV := hide hv
  have HP := hide hp
  have HI := hide hi
  have HA : Hid (o.a ≤ 65537) := hide hokk.2.2
  clear hv hp hi
  have HXI := hide hxi
  have HFt := hide hf
  clear hvo e0 e1 e2 hg hb ho R hxi hf
  generalize hN : q.ob.length = n at *
  clear hN
  have bj : (j : Int) < (n : Int) := by omega
  go_enter Try.func16, Try.ntmps16
  go_wp2_with fail
  refine hfi.mono ?_
  rintro e w1 ⟨hh, hb1⟩
  rcases hh with ⟨h0, _⟩ | ⟨j', o', ho', hb', hobs, rfl⟩
  · rw [HB.out] at h0; cases h0
  · obtain rfl : j' = j := by
      rw [HB.out] at hb'
      exact S.uniq ho' HO.out (Option.some.inj hb').symm
    have T2 := HT.out.under hb1
    have ST : St7 w w1 q (.slice aot q.ty.length cpt) (.slice aop q.r.ps.length cpp) (.slice aos q.r.st.length cps) (.slice (some ⟨g, 0, none⟩) n cpo) g j' o := by
      have hbw := T2.bel
      obtain ⟨h1, h2, h3, h4⟩ := HOB.out
      exact ⟨T2, by rw [World.cell?_of_block (a := ⟨g, j' * 3, none⟩) (hbw.block g h1)]; exact h2, by rw [World.cell?_of_block (a := ⟨g, j' * 3 + 1, none⟩) (hbw.block g h1)]; exact h3, by rw [World.cell?_of_block (a := ⟨g, j' * 3 + 2, none⟩) (hbw.block g h1)]; exact h4, Nat.lt_of_lt_of_le h1 hbw.size⟩
    obtain ⟨d0, d1, d2, d3, d4, d5, d6⟩ := c7_of T2.bx
    have t0 := ST.o0
    have t1 := ST.o1
    have t2 := ST.o2
    have hz := T2.size
    have HST := hide ST
    have hdj : decide ((j' : Int) < 0) = false := by simp
    clear hfi hb1 T2 ST ho' hb' hobs
    clear o'
    have hpt : Calls Try.prog 36 #[rhv q (.slice aot q.ty.length cpt) (.slice aop q.r.ps.length cpp) (.slice aos q.r.st.length cps) (.slice (some ⟨g, 0, none⟩) n cpo), rov o, .int .i64 x] w1.drew fun e w2 => e = .returned (.bool false) ∧ C7 w2 w.heap.size (.slice aot q.ty.length cpt) (.int .i64 q.r.wd) (.int .i64 q.r.ln) (.slice aop q.r.ps.length cpp) (.int .i64 q.r.fd) (.slice aos q.r.st.length cps) (.slice (some ⟨g, 0, none⟩) n cpo) ∧ (w2.cell? ⟨g, j' * 3, none⟩ = some (.int .i64 o.a) ∧ w2.cell? ⟨g, j' * 3 + 1, none⟩ = some (.int .i64 o.t) ∧ w2.cell? ⟨g, j' * 3 + 2, none⟩ = some (.int .i64 o.n)) ∧ Hid (St7 w w2 q (.slice aot q.ty.length cpt) (.slice aop q.r.ps.length cpp) (.slice aos q.r.st.length cps) (.slice (some ⟨g, 0, none⟩) n cpo) g j' o) := by
      have ST1 := HST.out.under (w'' := w1.drewN 1) (below_drewN (Below.refl _ _) 1)
      have hq := rpointer_any (HR.out.below ST1.two.bel) HFt.out hokk.2.1 HA.out HI.out
      rw [HP.out, ← HXI.out] at hq
      refine hq.mono ?_
      rintro e w2 ⟨he, hb2⟩
      have ST2 := ST1.under hb2
      exact ⟨he, c7_of ST2.two.bx, ⟨ST2.o0, ST2.o1, ST2.o2⟩, ST2⟩
    go_upto_region 4 with fail
    (first | go_region_with (go_at_call 36; refine hpt.mono ?_; rintro e w3 ⟨rfl, ⟨a0, a1, a2, a3, a4, a5, a6⟩, ⟨b0, b1, b2⟩, HS3⟩) | fail)
    all_goals
      have T3 := HS3.out.two
      go_wp2_with fail
      refine (rset_call HR.out S I HB.out T3).mono ?_
      rintro e w4 ⟨m, aop', cpp', aos', cps', hxm, rfl, hz4, ⟨x0, x1, x2, x3, x4, x5, x6⟩, ⟨y0, y1, y2, y3, y4, y5, y6⟩, W5, hW5, ⟨p0, p1, p2, p3, p4, p5, p6⟩, ⟨k0, k1, k2, k3, k4, k5, k6⟩, ⟨f0, f1, f2, f3, f4, f5, f6⟩, hout⟩
      have HS7 : Hid (SimH (setH h x.toNat v) { q with r := rSet q.r m v } ∧ Fd1 q { q with r := rSet q.r m v }) := hide ⟨by rw [hxm.out.1, Int.toNat_natCast]; exact simh_set S hxm.out.2 v, rfl, rfl⟩
      have hz4' : w.heap.size < w4.heap.size := by omega
      have hW6 := hide ((set5_alloc _ hz4' _ _ _ _ _).symm.trans hW5.out)
      go_upto_region 8 with fail
      rw [hW6.out]
      clear hW5 hW6 x0 x1 x2 x3 x4 x5 x6 y0 y1 y2 y3 y4 y5 y6
      go_wp2
      go_region
      all_goals go_wp2
      all_goals exact bodyPost_ret (v := .tuple #[.int .i64 0, rhv { q with r := rSet q.r m v } (.slice aot q.ty.length cpt) (.slice aop' q.r.ps.length cpp') (.slice aos' q.r.st.length cps') (.slice (some ⟨g, 0, none⟩) n cpo)]) (by simp [results, Try.results16, go_sem, k0, k1, k2, k3, k4, k5, k6]) rfl ⟨_, _, _, rfl, HS7, hide (hout.out _ _ _ _ _ _ _)⟩
end
end Go.Proofs.Ytimpmgbahgganaa

namespace Go.Proofs.Ytimpmgbahgganaa
open Go.RowKit Go.Maps
attribute [local go_sem ↓] Go.wp_at_zero Go.wp_at_succ

section
variable {B : Nat} {w w' : World} {q : Rh} {vt vp vs vo : Value} {h : Hs}
set_option maxHeartbeats 600000 in
theorem rset_ptr (R : RH B w q vt vp vs vo) (S : SimH h q) (I : HInv h) {x v : Int} {j i : Nat} {o : Ro} {f : List Int} (ho : q.ob[j]? = some o) (hb : baseA h x = some o.a) (hf : q.ty[o.t]? = some f) (hxi : x = (o.a : Int) + (i : Int)) (hv : v ≠ 0) (hi : i < ow q o) (hp : ptrB (ptrs f) o.n i = true) (hnv : ∃ a, baseA h v = some a) :
    Calls Try.prog 16 #[rhv q vt vp vs vo, .int .i64 x, .int .i64 v] w fun e w' => ∃ q' vp' vs', e = .returned (.tuple #[.int .i64 0, rhv q' vt vp' vs' vo]) ∧ Hid (SimH (setH h x.toNat v) q' ∧ Fd1 q q') ∧ Hid (HOut B w vt vp vs vo q' vp' vs' vo w') := by
  obtain ⟨aot, cpt, rfl⟩ := R.tform
  obtain ⟨aop, cpp, rfl⟩ := R.rl.pform
  obtain ⟨aos, cps, rfl⟩ := R.rl.sform
  obtain ⟨aoo, cpo, rfl⟩ := R.oform
  have HR := hide R
  have HB := hide hb
  have HO := hide ho
  have hokk := R.ok j o ho
  have hbo := R.bo
  have T1 := two7_new w q (.slice aot q.ty.length cpt) (.slice aop q.r.ps.length cpp) (.slice aos q.r.st.length cps) (.slice aoo q.ob.length cpo)
  have hfi := rfind_sim (R.below T1.bel) S I x
  have HT := hide T1
  have HN0 := hide (show q.ob.length = q.ob.length from rfl)
  clear T1 HN0
  have hjl := get_lt ho
  obtain ⟨g, cap, hvo, hg, e0, e1, e2⟩ := R.object ho
  obtain rfl : aoo = some ⟨g, 0, none⟩ := (Value.slice.inj hvo).1
  have HOB := hide (And.intro hg (And.intro e0 (And.intro e1 e2)))
  have hvz : (v != 0) = true := by simp [hv]
  have hvz2 : decide (v = 0) = false := by simp [hv]
  have HV := hide hv
  have HP := hide hp
  have HI := hide hi
  have HNV := hide hnv
  have HA : Hid (o.a ≤ 65537) := hide hokk.2.2
  clear hv hp hi hnv
  have HXI := hide hxi
  have HFt := hide hf
  clear hvo e0 e1 e2 hg hb ho R hxi hf
  generalize hN : q.ob.length = n at *
  clear hN
  have bj : (j : Int) < (n : Int) := by omega
  go_enter Try.func16, Try.ntmps16
  go_wp2_with fail
  refine hfi.mono ?_
  rintro e w1 ⟨hh, hb1⟩
  rcases hh with ⟨h0, _⟩ | ⟨j', o', ho', hb', hobs, rfl⟩
  · rw [HB.out] at h0; cases h0
  · obtain rfl : j' = j := by
      rw [HB.out] at hb'
      exact S.uniq ho' HO.out (Option.some.inj hb').symm
    have T2 := HT.out.under hb1
    have ST : St7 w w1 q (.slice aot q.ty.length cpt) (.slice aop q.r.ps.length cpp) (.slice aos q.r.st.length cps) (.slice (some ⟨g, 0, none⟩) n cpo) g j' o := by
      have hbw := T2.bel
      obtain ⟨h1, h2, h3, h4⟩ := HOB.out
      exact ⟨T2, by rw [World.cell?_of_block (a := ⟨g, j' * 3, none⟩) (hbw.block g h1)]; exact h2, by rw [World.cell?_of_block (a := ⟨g, j' * 3 + 1, none⟩) (hbw.block g h1)]; exact h3, by rw [World.cell?_of_block (a := ⟨g, j' * 3 + 2, none⟩) (hbw.block g h1)]; exact h4, Nat.lt_of_lt_of_le h1 hbw.size⟩
    obtain ⟨d0, d1, d2, d3, d4, d5, d6⟩ := c7_of T2.bx
    have t0 := ST.o0
    have t1 := ST.o1
    have t2 := ST.o2
    have hz := T2.size
    have HST := hide ST
    have hdj : decide ((j' : Int) < 0) = false := by simp
    clear hfi hb1 T2 ST ho' hb' hobs
    clear o'
    have hpt : Calls Try.prog 36 #[rhv q (.slice aot q.ty.length cpt) (.slice aop q.r.ps.length cpp) (.slice aos q.r.st.length cps) (.slice (some ⟨g, 0, none⟩) n cpo), rov o, .int .i64 x] w1.drew fun e w2 => e = .returned (.bool true) ∧ C7 w2 w.heap.size (.slice aot q.ty.length cpt) (.int .i64 q.r.wd) (.int .i64 q.r.ln) (.slice aop q.r.ps.length cpp) (.int .i64 q.r.fd) (.slice aos q.r.st.length cps) (.slice (some ⟨g, 0, none⟩) n cpo) ∧ (w2.cell? ⟨g, j' * 3, none⟩ = some (.int .i64 o.a) ∧ w2.cell? ⟨g, j' * 3 + 1, none⟩ = some (.int .i64 o.t) ∧ w2.cell? ⟨g, j' * 3 + 2, none⟩ = some (.int .i64 o.n)) ∧ Hid (St7 w w2 q (.slice aot q.ty.length cpt) (.slice aop q.r.ps.length cpp) (.slice aos q.r.st.length cps) (.slice (some ⟨g, 0, none⟩) n cpo) g j' o) := by
      have ST1 := HST.out.under (w'' := w1.drewN 1) (below_drewN (Below.refl _ _) 1)
      have hq := rpointer_any (HR.out.below ST1.two.bel) HFt.out hokk.2.1 HA.out HI.out
      rw [HP.out, ← HXI.out] at hq
      refine hq.mono ?_
      rintro e w2 ⟨he, hb2⟩
      have ST2 := ST1.under hb2
      exact ⟨he, c7_of ST2.two.bx, ⟨ST2.o0, ST2.o1, ST2.o2⟩, ST2⟩
    have hfv : ∀ w3, St7 w w3 q (.slice aot q.ty.length cpt) (.slice aop q.r.ps.length cpp) (.slice aos q.r.st.length cps) (.slice (some ⟨g, 0, none⟩) n cpo) g j' o → Calls Try.prog 32 #[rhv q (.slice aot q.ty.length cpt) (.slice aop q.r.ps.length cpp) (.slice aos q.r.st.length cps) (.slice (some ⟨g, 0, none⟩) n cpo), .int .i64 v] w3 fun e w2 => (∃ k : Nat, e = .returned (.int .i64 k)) ∧ C7 w2 w.heap.size (.slice aot q.ty.length cpt) (.int .i64 q.r.wd) (.int .i64 q.r.ln) (.slice aop q.r.ps.length cpp) (.int .i64 q.r.fd) (.slice aos q.r.st.length cps) (.slice (some ⟨g, 0, none⟩) n cpo) ∧ (w2.cell? ⟨g, j' * 3, none⟩ = some (.int .i64 o.a) ∧ w2.cell? ⟨g, j' * 3 + 1, none⟩ = some (.int .i64 o.t) ∧ w2.cell? ⟨g, j' * 3 + 2, none⟩ = some (.int .i64 o.n)) ∧ Hid (St7 w w2 q (.slice aot q.ty.length cpt) (.slice aop q.r.ps.length cpp) (.slice aos q.r.st.length cps) (.slice (some ⟨g, 0, none⟩) n cpo) g j' o) := by
      intro w3 ST3
      refine (rfind_sim (HR.out.below ST3.two.bel) S I v).mono ?_
      rintro e w2 ⟨hh, hb2⟩
      have ST2 := ST3.under hb2
      refine ⟨?_, c7_of ST2.two.bx, ⟨ST2.o0, ST2.o1, ST2.o2⟩, ST2⟩
      rcases hh with ⟨h0, _⟩ | ⟨k, o2, _, _, _, he⟩
      · obtain ⟨a, ha⟩ := HNV.out
        rw [ha] at h0; cases h0
      · exact ⟨k, he⟩
    go_upto_region 4 with fail
    (first | go_region_held3 (fun w' => w'.cell? ⟨w.heap.size, 0, none⟩ = some (.slice aot q.ty.length cpt) ∧ w'.cell? ⟨w.heap.size, 1, none⟩ = some (.int .i64 q.r.wd) ∧ w'.cell? ⟨w.heap.size, 2, none⟩ = some (.int .i64 q.r.ln) ∧ w'.cell? ⟨w.heap.size, 3, none⟩ = some (.slice aop q.r.ps.length cpp) ∧ w'.cell? ⟨w.heap.size, 4, none⟩ = some (.int .i64 q.r.fd) ∧ w'.cell? ⟨w.heap.size, 5, none⟩ = some (.slice aos q.r.st.length cps) ∧ w'.cell? ⟨w.heap.size, 6, none⟩ = some (.slice (some ⟨g, 0, none⟩) n cpo) ∧ w'.cell? ⟨g, j' * 3, none⟩ = some (.int .i64 o.a) ∧ w'.cell? ⟨g, j' * 3 + 1, none⟩ = some (.int .i64 o.t) ∧ w'.cell? ⟨g, j' * 3 + 2, none⟩ = some (.int .i64 o.n)) (first | go_keep | exact ⟨a0, a1, a2, a3, a4, a5, a6, b0, b1, b2⟩) (first | (go_at_call 36; refine hpt.mono ?_; rintro e w3 ⟨rfl, ⟨a0, a1, a2, a3, a4, a5, a6⟩, ⟨b0, b1, b2⟩, HS3⟩) | (go_at_call 32; refine (hfv _ HS3.out).mono ?_; rintro e w4 ⟨⟨k, rfl⟩, ⟨a0, a1, a2, a3, a4, a5, a6⟩, ⟨b0, b1, b2⟩, HS4⟩)) | fail)
    all_goals
      have T3 := HS4.out.two
      have hdk : decide ((k : Int) < 0) = false := by simp
      go_wp2_with fail
      refine (rset_call HR.out S I HB.out T3).mono ?_
      rintro e w4 ⟨m, aop', cpp', aos', cps', hxm, rfl, hz4, ⟨x0, x1, x2, x3, x4, x5, x6⟩, ⟨y0, y1, y2, y3, y4, y5, y6⟩, W5, hW5, ⟨p0, p1, p2, p3, p4, p5, p6⟩, ⟨k0, k1, k2, k3, k4, k5, k6⟩, ⟨f0, f1, f2, f3, f4, f5, f6⟩, hout⟩
      have HS7 : Hid (SimH (setH h x.toNat v) { q with r := rSet q.r m v } ∧ Fd1 q { q with r := rSet q.r m v }) := hide ⟨by rw [hxm.out.1, Int.toNat_natCast]; exact simh_set S hxm.out.2 v, rfl, rfl⟩
      have hz4' : w.heap.size < w4.heap.size := by omega
      have hW6 := hide ((set5_alloc _ hz4' _ _ _ _ _).symm.trans hW5.out)
      go_upto_region 8 with fail
      rw [hW6.out]
      clear hW5 hW6 x0 x1 x2 x3 x4 x5 x6 y0 y1 y2 y3 y4 y5 y6
      go_wp2
      go_region
      all_goals go_wp2
      all_goals exact bodyPost_ret (v := .tuple #[.int .i64 0, rhv { q with r := rSet q.r m v } (.slice aot q.ty.length cpt) (.slice aop' q.r.ps.length cpp') (.slice aos' q.r.st.length cps') (.slice (some ⟨g, 0, none⟩) n cpo)]) (by simp [results, Try.results16, go_sem, k0, k1, k2, k3, k4, k5, k6]) rfl ⟨_, _, _, rfl, HS7, hide (hout.out _ _ _ _ _ _ _)⟩
end
end Go.Proofs.Ytimpmgbahgganaa

namespace Go.Proofs.Ytimpmgbahgganaa
open Go.RowKit Go.Maps
attribute [local go_sem ↓] Go.wp_at_zero Go.wp_at_succ

section
variable {B : Nat} {w w' : World} {q : Rh} {vt vp vs vo : Value} {h : Hs}
set_option maxHeartbeats 600000 in
theorem rset_bad (R : RH B w q vt vp vs vo) (S : SimH h q) (I : HInv h) {x v : Int} {j i : Nat} {o : Ro} {f : List Int} (ho : q.ob[j]? = some o) (hb : baseA h x = some o.a) (hf : q.ty[o.t]? = some f) (hxi : x = (o.a : Int) + (i : Int)) (hv : v ≠ 0) (hi : i < ow q o) (hp : ptrB (ptrs f) o.n i = true) (hnv : baseA h v = none) :
    Calls Try.prog 16 #[rhv q vt vp vs vo, .int .i64 x, .int .i64 v] w fun e w' => e = .returned (.tuple #[.int .i64 1, rhv q vt vp vs vo]) ∧ Below w.heap.size w w' := by
  obtain ⟨aot, cpt, rfl⟩ := R.tform
  obtain ⟨aop, cpp, rfl⟩ := R.rl.pform
  obtain ⟨aos, cps, rfl⟩ := R.rl.sform
  obtain ⟨aoo, cpo, rfl⟩ := R.oform
  have HR := hide R
  have HB := hide hb
  have HO := hide ho
  have hokk := R.ok j o ho
  have hbo := R.bo
  have T1 := two7_new w q (.slice aot q.ty.length cpt) (.slice aop q.r.ps.length cpp) (.slice aos q.r.st.length cps) (.slice aoo q.ob.length cpo)
  have hfi := rfind_sim (R.below T1.bel) S I x
  have HT := hide T1
  have HN0 := hide (show q.ob.length = q.ob.length from rfl)
  clear T1 HN0
  have hjl := get_lt ho
  obtain ⟨g, cap, hvo, hg, e0, e1, e2⟩ := R.object ho
  obtain rfl : aoo = some ⟨g, 0, none⟩ := (Value.slice.inj hvo).1
  have HOB := hide (And.intro hg (And.intro e0 (And.intro e1 e2)))
  have hvz : (v != 0) = true := by simp [hv]
  have hvz2 : decide (v = 0) = false := by simp [hv]
  have HV := hide hv
  have HP := hide hp
  have HI := hide hi
  have HNV := hide hnv
  have HA : Hid (o.a ≤ 65537) := hide hokk.2.2
  clear hv hp hi hnv
  have HXI := hide hxi
  have HFt := hide hf
  clear hvo e0 e1 e2 hg hb ho R hxi hf
  generalize hN : q.ob.length = n at *
  clear hN
  have bj : (j : Int) < (n : Int) := by omega
  go_enter Try.func16, Try.ntmps16
  go_wp2_with fail
  refine hfi.mono ?_
  rintro e w1 ⟨hh, hb1⟩
  rcases hh with ⟨h0, _⟩ | ⟨j', o', ho', hb', hobs, rfl⟩
  · rw [HB.out] at h0; cases h0
  · obtain rfl : j' = j := by
      rw [HB.out] at hb'
      exact S.uniq ho' HO.out (Option.some.inj hb').symm
    have T2 := HT.out.under hb1
    have ST : St7 w w1 q (.slice aot q.ty.length cpt) (.slice aop q.r.ps.length cpp) (.slice aos q.r.st.length cps) (.slice (some ⟨g, 0, none⟩) n cpo) g j' o := by
      have hbw := T2.bel
      obtain ⟨h1, h2, h3, h4⟩ := HOB.out
      exact ⟨T2, by rw [World.cell?_of_block (a := ⟨g, j' * 3, none⟩) (hbw.block g h1)]; exact h2, by rw [World.cell?_of_block (a := ⟨g, j' * 3 + 1, none⟩) (hbw.block g h1)]; exact h3, by rw [World.cell?_of_block (a := ⟨g, j' * 3 + 2, none⟩) (hbw.block g h1)]; exact h4, Nat.lt_of_lt_of_le h1 hbw.size⟩
    obtain ⟨d0, d1, d2, d3, d4, d5, d6⟩ := c7_of T2.bx
    have t0 := ST.o0
    have t1 := ST.o1
    have t2 := ST.o2
    have hz := T2.size
    have HST := hide ST
    have hdj : decide ((j' : Int) < 0) = false := by simp
    clear hfi hb1 T2 ST ho' hb' hobs
    clear o'
    have hpt : Calls Try.prog 36 #[rhv q (.slice aot q.ty.length cpt) (.slice aop q.r.ps.length cpp) (.slice aos q.r.st.length cps) (.slice (some ⟨g, 0, none⟩) n cpo), rov o, .int .i64 x] w1.drew fun e w2 => e = .returned (.bool true) ∧ C7 w2 w.heap.size (.slice aot q.ty.length cpt) (.int .i64 q.r.wd) (.int .i64 q.r.ln) (.slice aop q.r.ps.length cpp) (.int .i64 q.r.fd) (.slice aos q.r.st.length cps) (.slice (some ⟨g, 0, none⟩) n cpo) ∧ (w2.cell? ⟨g, j' * 3, none⟩ = some (.int .i64 o.a) ∧ w2.cell? ⟨g, j' * 3 + 1, none⟩ = some (.int .i64 o.t) ∧ w2.cell? ⟨g, j' * 3 + 2, none⟩ = some (.int .i64 o.n)) ∧ Hid (St7 w w2 q (.slice aot q.ty.length cpt) (.slice aop q.r.ps.length cpp) (.slice aos q.r.st.length cps) (.slice (some ⟨g, 0, none⟩) n cpo) g j' o) := by
      have ST1 := HST.out.under (w'' := w1.drewN 1) (below_drewN (Below.refl _ _) 1)
      have hq := rpointer_any (HR.out.below ST1.two.bel) HFt.out hokk.2.1 HA.out HI.out
      rw [HP.out, ← HXI.out] at hq
      refine hq.mono ?_
      rintro e w2 ⟨he, hb2⟩
      have ST2 := ST1.under hb2
      exact ⟨he, c7_of ST2.two.bx, ⟨ST2.o0, ST2.o1, ST2.o2⟩, ST2⟩
    have hfv : ∀ w3, St7 w w3 q (.slice aot q.ty.length cpt) (.slice aop q.r.ps.length cpp) (.slice aos q.r.st.length cps) (.slice (some ⟨g, 0, none⟩) n cpo) g j' o → Calls Try.prog 32 #[rhv q (.slice aot q.ty.length cpt) (.slice aop q.r.ps.length cpp) (.slice aos q.r.st.length cps) (.slice (some ⟨g, 0, none⟩) n cpo), .int .i64 v] w3 fun e w2 => e = .returned (.int .i64 (-1)) ∧ C7 w2 w.heap.size (.slice aot q.ty.length cpt) (.int .i64 q.r.wd) (.int .i64 q.r.ln) (.slice aop q.r.ps.length cpp) (.int .i64 q.r.fd) (.slice aos q.r.st.length cps) (.slice (some ⟨g, 0, none⟩) n cpo) ∧ (w2.cell? ⟨g, j' * 3, none⟩ = some (.int .i64 o.a) ∧ w2.cell? ⟨g, j' * 3 + 1, none⟩ = some (.int .i64 o.t) ∧ w2.cell? ⟨g, j' * 3 + 2, none⟩ = some (.int .i64 o.n)) ∧ Hid (St7 w w2 q (.slice aot q.ty.length cpt) (.slice aop q.r.ps.length cpp) (.slice aos q.r.st.length cps) (.slice (some ⟨g, 0, none⟩) n cpo) g j' o) := by
      intro w3 ST3
      refine (rfind_sim (HR.out.below ST3.two.bel) S I v).mono ?_
      rintro e w2 ⟨hh, hb2⟩
      have ST2 := ST3.under hb2
      refine ⟨?_, c7_of ST2.two.bx, ⟨ST2.o0, ST2.o1, ST2.o2⟩, ST2⟩
      rcases hh with ⟨_, he⟩ | ⟨k, o2, _, hb2', _, _⟩
      · exact he
      · rw [HNV.out] at hb2'; cases hb2'
    go_upto_region 4 with fail
    (first | go_region_held3 (fun w' => w'.cell? ⟨w.heap.size, 0, none⟩ = some (.slice aot q.ty.length cpt) ∧ w'.cell? ⟨w.heap.size, 1, none⟩ = some (.int .i64 q.r.wd) ∧ w'.cell? ⟨w.heap.size, 2, none⟩ = some (.int .i64 q.r.ln) ∧ w'.cell? ⟨w.heap.size, 3, none⟩ = some (.slice aop q.r.ps.length cpp) ∧ w'.cell? ⟨w.heap.size, 4, none⟩ = some (.int .i64 q.r.fd) ∧ w'.cell? ⟨w.heap.size, 5, none⟩ = some (.slice aos q.r.st.length cps) ∧ w'.cell? ⟨w.heap.size, 6, none⟩ = some (.slice (some ⟨g, 0, none⟩) n cpo) ∧ w'.cell? ⟨g, j' * 3, none⟩ = some (.int .i64 o.a) ∧ w'.cell? ⟨g, j' * 3 + 1, none⟩ = some (.int .i64 o.t) ∧ w'.cell? ⟨g, j' * 3 + 2, none⟩ = some (.int .i64 o.n)) (first | go_keep | exact ⟨a0, a1, a2, a3, a4, a5, a6, b0, b1, b2⟩) (first | (go_at_call 36; refine hpt.mono ?_; rintro e w3 ⟨rfl, ⟨a0, a1, a2, a3, a4, a5, a6⟩, ⟨b0, b1, b2⟩, HS3⟩) | (go_at_call 32; refine (hfv _ HS3.out).mono ?_; rintro e w4 ⟨rfl, ⟨a0, a1, a2, a3, a4, a5, a6⟩, ⟨b0, b1, b2⟩, HS4⟩)) | fail)
    all_goals
      have T2 := HS4.out.two
      obtain ⟨d0, d1, d2, d3, d4, d5, d6⟩ := c7_of T2.bx
      obtain ⟨k0, k1, k2, k3, k4, k5, k6⟩ := c7_of T2.zr
      obtain ⟨f0, f1, f2, f3, f4, f5, f6⟩ := f7_of T2.zr
      have HT2 := hide T2
      have hz2 := T2.size
      clear T2
      go_wp2
      go_region
      all_goals go_wp2
      all_goals exact bodyPost_ret (v := .tuple #[.int .i64 1, rhv q (.slice aot q.ty.length cpt) (.slice aop q.r.ps.length cpp) (.slice aos q.r.st.length cps) (.slice (some ⟨g, 0, none⟩) n cpo)]) (by simp [results, Try.results16, go_sem, k0, k1, k2, k3, k4, k5, k6]) rfl ⟨rfl, (below_set7 HT2.out.bel (Nat.le_succ _) _ _ _ _ _ _ _).drew⟩
end
end Go.Proofs.Ytimpmgbahgganaa

namespace Go.Proofs.Ytimpmgbahgganaa
open Go.RowKit Go.Maps
section
variable {B : Nat} {w : World} {q : Rh} {vt vp vs vo : Value} {h : Hs}
/-- Set, whatever is set. -/
theorem rseth_any (R : RH B w q vt vp vs vo) (S : SimH h q) (I : HInv h) (x v : Int) :
    Calls Try.prog 16 #[rhv q vt vp vs vo, .int .i64 x, .int .i64 v] w fun e w' => ∃ q' vp' vs', e = .returned (.tuple #[.int .i64 (setHP h x v).1, rhv q' vt vp' vs' vo]) ∧ Hid (SimH (setHP h x v).2 q' ∧ Fd1 q q') ∧ Hid (HOut B w vt vp vs vo q' vp' vs' vo w') := by
  cases hb : baseA h x with
  | none =>
    rw [setHP_none hb]
    refine (rset_none R S I hb).mono ?_
    rintro e w' ⟨he, hbl⟩
    exact ⟨q, vp, vs, he, ⟨S, rfl, rfl⟩, HOut.same R hbl⟩
  | some a =>
    obtain ⟨t, n, f, i, p, O, _, h1, h2⟩ := I.base hb
    obtain ⟨j, o, hoa, ho⟩ : ∃ (j : Nat) (o : Ro), o.a = a ∧ q.ob[j]? = some o := by
      obtain ⟨j, ho⟩ := (S.ob a t n).1 O.ob
      exact ⟨j, _, rfl, ho⟩
    subst hoa
    obtain ⟨f2, i2, p2, O2, hf2, how⟩ := S.obj I ho
    have e1 := O.ob
    rw [O2.ob] at e1
    cases e1
    have e2 := O.ps
    have e3 : i2 = i := I.inv.row.inj O2.ps O.ps (by rw [O2.pa, O.pa])
    subst e3
    rw [O2.ps] at e2
    cases e2
    obtain ⟨m, hm⟩ : ∃ m : Nat, x = (o.a : Int) + (m : Int) := ⟨(x - o.a).toNat, by omega⟩
    have hmi : m < ow q o := by rw [how]; omega
    have hs := setHP_some (v := v) (i := m) hb O2.ob O2.ty (by omega)
    by_cases hv : v = 0
    · rw [hs, if_neg (by rw [hv]; simp [namesB])]
      exact rset_zero R S I ho hb hf2 hm hv
    · cases hp : ptrB (ptrs f2) o.n m with
      | false =>
        rw [hs, if_neg (by rw [hp]; simp)]
        exact rset_num R S I ho hb hf2 hm hv hmi hp
      | true =>
        cases hn : baseA h v with
        | none =>
          rw [hs, if_pos ⟨hp, by unfold namesB; rw [hn]; simp [hv]⟩]
          refine (rset_bad R S I ho hb hf2 hm hv hmi hp hn).mono ?_
          rintro e w' ⟨he, hbl⟩
          exact ⟨q, vp, vs, he, ⟨S, rfl, rfl⟩, HOut.same R hbl⟩
        | some b =>
          rw [hs, if_neg (by rw [names_iff.2 (.inr ⟨b, hn⟩)]; simp)]
          exact rset_ptr R S I ho hb hf2 hm hv hmi hp ⟨b, hn⟩
end
end Go.Proofs.Ytimpmgbahgganaa

namespace Go.Proofs.Ytimpmgbahgganaa
open Go.RowKit Go.Maps
section
variable {B : Nat} {w : World} {q : Rh} {vt vp vs vo : Value} {h : Hs}
theorem rliveh_any (R : RH B w q vt vp vs vo) (S : SimH h q) :
    Calls Try.prog 23 #[rhv q vt vp vs vo] w fun e w' => ∃ v, e = .returned v ∧ w'.ownsRow w.heap.size 3 1 v (liveL h.s.ps).length (addrs (liveL h.s.ps)) ∧ Below w.heap.size w w' := by
  obtain ⟨aop, cpp, rfl⟩ := R.rl.pform
  obtain ⟨aos, cps, rfl⟩ := R.rl.sform
  obtain ⟨W1, hW1⟩ : ∃ W1, w.alloc (.cells #[vt, .int .i64 q.r.wd, .int .i64 q.r.ln, .slice aop q.r.ps.length cpp, .int .i64 q.r.fd, .slice aos q.r.st.length cps, vo] 36) = W1 := ⟨_, rfl⟩
  have hb : Below w.heap.size w W1 := by rw [← hW1]; exact (Below.refl _ _).alloc (Nat.le_refl _) _
  have hlv := rlive_any (R.below hb).rl
  rw [live_sim S.sim] at hlv
  obtain ⟨aot, cpt, rfl⟩ := R.tform
  obtain ⟨aoo, cpo, rfl⟩ := R.oform
  have HB := hide hb
  clear R S hb
  subst hW1
  go_enter Try.func23, Try.ntmps23
  go_wp2_with fail
  refine hlv.mono ?_
  rintro e w2 ⟨v, rfl, hv, hb2⟩
  have HV := hide hv
  clear hlv hv
  go_wp2
  go_ret
  refine ⟨v, rfl, ?_, HB.out.trans (hb2.mono HB.out.size)⟩
  have h1 := HB.out.size
  exact ⟨HV.out.1, HV.out.2.imp id (fun ⟨g, cap, cur, e1, e2, e3⟩ => ⟨g, cap, cur, e1, Nat.le_trans h1 e2, e3⟩)⟩
/-- A new heap of the document's. -/
def newQ (fs : List (List Int)) (n : Nat) : Rh := { ty := fs, r := newR n, ob := [] }
theorem rnewh_any {fs : List (List Int)} {n : Nat} (L : LaysAt w vt fs) (bt : fs.length ≤ 1025) (bf : ∀ f ∈ fs, f.length ≤ 4096) (hn : n ≤ 65536) (hB : B ≤ w.heap.size) :
    Calls Try.prog 10 #[vt, .int .i64 n] w fun e w' => ∃ vp vs, e = .returned (rhv (newQ fs n) vt vp vs (.slice none 0 0)) ∧ Hid (RH B w' (newQ fs n) vt vp vs (.slice none 0 0)) ∧ Below w.heap.size w w' ∧ (∀ g, vp.ownBlock = some g → w.heap.size ≤ g) ∧ ∀ g, vs.ownBlock = some g → w.heap.size ≤ g := by
  have HL := hide L
  obtain ⟨aot, cpt, rfl, _⟩ := L
  obtain ⟨W1, hW1⟩ : ∃ W1, w.alloc (.cells #[.slice none 0 0, .int .i64 0, .int .i64 0, .slice none 0 0, .int .i64 0, .slice none 0 0, .slice none 0 0] 36) = W1 := ⟨_, rfl⟩
  have hb : Below w.heap.size w W1 := by rw [← hW1]; exact (Below.refl _ _).alloc (Nat.le_refl _) _
  have hz : Zr W1 w.heap.size := by rw [← hW1]; exact heap_new _ _ rfl
  have hlt := lt_of_block hz
  have hnw := rnew_any n W1 hn B (by omega)
  have HB := hide hb
  have HZ := hide hz
  clear hb hz
  subst hW1
  go_enter Try.func10, Try.ntmps10
  go_wp2_with fail
  refine hnw.mono ?_
  rintro e w2 ⟨vp, vs, rfl, R2, hb2, hp, hs⟩
  obtain ⟨aop, cpp, rfl⟩ := R2.pform
  obtain ⟨aos, cps, rfl⟩ := R2.sform
  have hz2 : Zr w2 w.heap.size := (hb2.block _ hlt).trans HZ.out
  obtain ⟨k0, k1, k2, k3, k4, k5, k6⟩ := c7_of hz2
  obtain ⟨f0, f1, f2, f3, f4, f5, f6⟩ := f7_of hz2
  have HR := hide R2
  have HH := hide (And.intro hb2 (And.intro hp hs))
  clear hnw R2 hb2 hp hs hz2
  have hout : ∀ v0 v1 v2 v3 v4 v5 v6, Hid (RH B (set7 w2 w.heap.size v0 v1 v2 v3 v4 v5 v6) (newQ fs n) (.slice aot fs.length cpt) (.slice aop (newR n).ps.length cpp) (.slice aos (newR n).st.length cps) (.slice none 0 0) ∧ Below w.heap.size w (set7 w2 w.heap.size v0 v1 v2 v3 v4 v5 v6)) := fun v0 v1 v2 v3 v4 v5 v6 => by
    obtain ⟨hb2, hp, hs⟩ := HH.out
    have hbl : Below w.heap.size w (set7 w2 w.heap.size v0 v1 v2 v3 v4 v5 v6) := below_set7 (HB.out.trans (hb2.mono HB.out.size)) (Nat.le_refl _) _ _ _ _ _ _ _
    refine ⟨⟨HL.out.below hbl, HR.out.keep (fun g hg => set7_other _ _ _ _ _ _ _ _ _ _ (fun e => ?_)) (fun g hg => set7_other _ _ _ _ _ _ _ _ _ _ (fun e => ?_)) (by simp), ⟨rfl, .inl ⟨rfl, rfl⟩⟩, bt, bf, Nat.zero_le _, fun j o ho => by simp [newQ] at ho⟩, hbl⟩
    · have := hp g hg; omega
    · have := hs g hg; omega
  go_wp2
  exact bodyPost_ret (v := rhv (newQ fs n) (.slice aot fs.length cpt) (.slice aop (newR n).ps.length cpp) (.slice aos (newR n).st.length cps) (.slice none 0 0)) (by simp [newQ, results, Try.results10, go_sem, k0, k1, k2, k3, k4, k5, k6]) rfl ⟨_, _, rfl, (hout _ _ _ _ _ _ _).out.1, (hout _ _ _ _ _ _ _).out.2, fun g hg => Nat.le_trans HB.out.size (HH.out.2.1 g hg), fun g hg => Nat.le_trans HB.out.size (HH.out.2.2 g hg)⟩
end
end Go.Proofs.Ytimpmgbahgganaa

namespace Go.Proofs.Ytimpmgbahgganaa
open Go.RowKit Go.Maps
/-- May there be such a heap? -/
def checkB (fs : List (List Int)) (n : Int) : Bool := soundL fs && (decide (0 ≤ n) && decide (n ≤ 65536))
theorem check_bad {fs : List (List Int)} {n : Int} (h : 1025 < fs.length ∨ n < 0 ∨ 65536 < n) : checkB fs n = false := by
  unfold checkB soundL
  rcases h with h | h | h
  · rw [show decide (fs.length ≤ 1025) = false by simp; omega]; simp
  · rw [show decide (0 ≤ n) = false by simp; omega]; simp
  · rw [show decide (n ≤ 65536) = false by simp; omega]; simp
theorem check_not {fs : List (List Int)} {n : Int} {i : Nat} {f : List Int} (hf : fs[i]? = some f) (h : goodF fs.length f = false) : checkB fs n = false := by
  unfold checkB soundL
  rw [show fs.all (goodF fs.length) = false by
    rw [List.all_eq_false]
    exact ⟨f, List.mem_of_getElem? hf, by rw [h]; simp⟩]
  simp
theorem check_good {fs : List (List Int)} {n : Int} (h1 : fs.length ≤ 1025) (h2 : 0 ≤ n) (h3 : n ≤ 65536) (h : ∀ (i : Nat) (f : List Int), fs[i]? = some f → goodF fs.length f = true) : checkB fs n = true := by
  unfold checkB soundL
  rw [show decide (fs.length ≤ 1025) = true by simpa using h1, show decide (0 ≤ n) = true by simpa using h2, show decide (n ≤ 65536) = true by simpa using h3]
  rw [show fs.all (goodF fs.length) = true by
    rw [List.all_eq_true]
    intro f hf
    obtain ⟨i, hi⟩ := List.getElem?_of_mem hf
    exact h i f hi]
  rfl
theorem good_not {n : Nat} {f : List Int} (h : 4096 < f.length ∨ ∃ (k : Nat) (x : Int), f[k]? = some x ∧ unkB n x = true) : goodF n f = false := by
  unfold goodF
  rcases h with h | ⟨k, x, h1, h2⟩
  · rw [show decide (f.length ≤ 4096) = false by simp; omega]; rfl
  · rw [show f.any (unkB n) = true from List.any_eq_true.2 ⟨x, List.mem_of_getElem? h1, h2⟩]; simp
theorem good_good {n : Nat} {f : List Int} (h0 : f.length ≤ 4096) (h : ∀ (k : Nat) (x : Int), f[k]? = some x → unkB n x = false) : goodF n f = true := by
  unfold goodF
  rw [show decide (f.length ≤ 4096) = true by simpa using h0, show f.any (unkB n) = false by
    rw [List.any_eq_false]
    intro x hx
    obtain ⟨k, hk⟩ := List.getElem?_of_mem hx
    rw [h k x hk]; simp]
  rfl
set_option maxHeartbeats 4000000 in
theorem rcheck_any {w : World} {vt : Value} {fs : List (List Int)} (L : LaysAt w vt fs) (n : Int) :
    Calls Try.prog 8 #[vt, .int .i64 n] w fun e w' => e = .returned (.bool (checkB fs n)) ∧ w' = w := by
  obtain ⟨ao, cap, rfl, hL⟩ := L
  have HL := hide hL
  obtain ⟨m, hm⟩ : ∃ m, m = fs.length := ⟨_, rfl⟩
  have HM := hide hm
  rw [← hm]
  clear hL
  by_cases hbad : 1025 < m ∨ n < 0 ∨ 65536 < n
  · rw [check_bad (by rw [← hm]; exact hbad)]
    clear hm
    by_cases c1 : 1025 < m
    · have d1 : decide ((1025 : Int) < (m : Int)) = true := by simp; omega
      clear hbad
      go_enter Try.func8, Try.ntmps8
      go_wp2
      go_ret
      exact ⟨rfl, rfl⟩
    · have d1 : decide ((1025 : Int) < (m : Int)) = false := by simp; omega
      by_cases c2 : n < 0
      · have d2 : decide (n < 0) = true := by simpa using c2
        clear hbad
        go_enter Try.func8, Try.ntmps8
        go_wp2
        go_ret
        exact ⟨rfl, rfl⟩
      · have d2 : decide (n < 0) = false := by simpa using c2
        have d3 : decide (65536 < n) = true := by simp; omega
        clear hbad
        go_enter Try.func8, Try.ntmps8
        go_wp2
        go_ret
        exact ⟨rfl, rfl⟩
  · have d1 : decide ((1025 : Int) < (m : Int)) = false := by simp; omega
    have d2 : decide (n < 0) = false := by simp; omega
    have d3 : decide (65536 < n) = false := by simp; omega
    have bm : (m : Int) ≤ 1025 := by omega
    have HB := hide hbad
    clear hbad hm
    go_enter Try.func8, Try.ntmps8
    go_wp2
    go_loopw [5] (fun iv wr => ∃ i : Nat, i ≤ m ∧ iv = .int .i64 i ∧ w = wr ∧ Hid (∀ (j : Nat) (f : List Int), j < i → fs[j]? = some f → goodF m f = true)) (fun iv _ => m - (intOf iv).toNat)
    case atStart => exact ⟨0, Nat.zero_le _, rfl, rfl, fun j f hj => absurd hj (Nat.not_lt_zero _)⟩
    case round =>
      obtain ⟨i, hi, rfl, rfl, HG⟩ := hrel
      by_cases hil : i < m
      · have di : decide ((i : Int) < (m : Int)) = true := by simp; omega
        have bi : (i : Int) < (m : Int) := by omega
        obtain ⟨f, hf⟩ : ∃ f, fs[i]? = some f := ⟨fs[i]'(by rw [← HM.out]; exact hil), by simp⟩
        obtain ⟨g, o, u, rfl, hg, cu, hin⟩ := HL.out i f hf
        obtain ⟨au, cu2, rfl, hci⟩ := hin
        have HF := hide hf
        have HC := hide hci
        clear hf hci
        obtain ⟨p, hp⟩ : ∃ p, p = f.length := ⟨_, rfl⟩
        rw [← hp] at cu
        have HP := hide hp
        by_cases hbig : 4096 < p
        · have d4 : decide ((4096 : Int) < (p : Int)) = true := by simp; omega
          clear hp
          go_wp2
          go_ret
          exact ⟨by rw [check_not HF.out (good_not (.inl (by rw [← HP.out]; exact hbig)))]; first | done | rfl, rfl⟩
        · have d4 : decide ((4096 : Int) < (p : Int)) = false := by simp; omega
          have bp : (p : Int) ≤ 4096 := by omega
          clear hp
          go_wp2
          go_loopw [6] (fun kv wr => ∃ k : Nat, k ≤ p ∧ kv = .int .i64 k ∧ w = wr ∧ Hid (∀ (j : Nat) (x : Int), j < k → f[j]? = some x → unkB m x = false)) (fun kv _ => p - (intOf kv).toNat)
          case atStart => exact ⟨0, Nat.zero_le _, rfl, rfl, fun j f hj => absurd hj (Nat.not_lt_zero _)⟩
          case round =>
            obtain ⟨k, hk, rfl, rfl, HK⟩ := hrel
            by_cases hkl : k < p
            · have dk : decide ((k : Int) < (p : Int)) = true := by simp; omega
              have bk : (k : Int) < (p : Int) := by omega
              obtain ⟨x, hx⟩ : ∃ x, f[k]? = some x := ⟨f[k]'(by rw [← HP.out]; exact hkl), by simp⟩
              obtain ⟨hxm, g2, o2, rfl, hg2, cx⟩ := HC.out k x hx
              have HX := hide hx
              clear hx
              by_cases x0 : x < 0
              · have e0 : decide (x < 0) = true := by simpa using x0
                go_wp2
                go_ret
                exact ⟨by rw [check_not HF.out (good_not (.inr ⟨k, x, HX.out, by unfold unkB; rw [e0]; rfl⟩))]; first | done | rfl, rfl⟩
              · have e0 : decide (x < 0) = false := by simpa using x0
                by_cases x1 : 1 < x
                · have e1 : decide (1 < x) = true := by simpa using x1
                  obtain ⟨y, hy⟩ : ∃ y : Int, y = (x - 2) / 2 := ⟨_, rfl⟩
                  have ey : (x - 2).tdiv 2 = y := by rw [Int.tdiv_eq_ediv_of_nonneg (by omega)]; exact hy.symm
                  have ey2 : (x - 2) / 2 = y := hy.symm
                  by_cases x2 : (m : Int) ≤ y
                  · have e2 : decide ((m : Int) ≤ y) = true := by simpa using x2
                    have HU := hide (show unkB m x = true by unfold unkB; rw [show decide (((2 + 2 * m : Nat) : Int) ≤ x) = true by simp; omega]; simp)
                    clear hy
                    go_wp2
                    go_ret
                    exact ⟨by rw [check_not HF.out (good_not (.inr ⟨k, x, HX.out, by rw [← HM.out]; exact HU.out⟩))]; first | done | rfl, rfl⟩
                  · have e2 : decide ((m : Int) ≤ y) = false := by simpa using x2
                    have HU := hide (show unkB m x = false by unfold unkB; rw [e0, show decide (((2 + 2 * m : Nat) : Int) ≤ x) = false by simp; omega]; rfl)
                    clear hy
                    go_wp2
                    go_roundw
                    case rel => exact ⟨k + 1, by omega, by go_num, trivial, fun j x' hj hx' => by
                      rcases Nat.lt_or_ge j k with h1 | h1
                      · exact HK.out j x' h1 hx'
                      · obtain rfl : j = k := by omega
                        rw [HX.out] at hx'; cases hx'; exact HU.out⟩
                    case measure => simp [intOf]; omega
                · have e1 : decide (1 < x) = false := by simpa using x1
                  have HU := hide (show unkB m x = false by unfold unkB; rw [e0, show decide (((2 + 2 * m : Nat) : Int) ≤ x) = false by simp; omega]; rfl)
                  go_wp2
                  go_roundw
                  case rel => exact ⟨k + 1, by omega, by go_num, trivial, fun j x' hj hx' => by
                    rcases Nat.lt_or_ge j k with h1 | h1
                    · exact HK.out j x' h1 hx'
                    · obtain rfl : j = k := by omega
                      rw [HX.out] at hx'; cases hx'; exact HU.out⟩
                  case measure => simp [intOf]; omega
            · obtain rfl : k = p := by omega
              go_wp2
              go_roundw
              case rel => exact ⟨i + 1, by omega, by go_num, trivial, fun j f' hj hf' => by
                rcases Nat.lt_or_ge j i with h1 | h1
                · exact HG.out j f' h1 hf'
                · obtain rfl : j = i := by omega
                  rw [HF.out] at hf'; cases hf'
                  exact good_good (by rw [← HP.out]; omega) (fun q x hq => HK.out q x (by rw [HP.out]; exact get_lt hq) hq)⟩
              case measure => simp [intOf]; omega
      · obtain rfl : i = m := by omega
        have HE := hide (check_good (fs := fs) (n := n) (by have := HB.out; have := HM.out; omega) (by have := HB.out; omega) (by have := HB.out; omega) (fun j f hf => by rw [← HM.out]; exact HG.out j f (by rw [HM.out]; exact get_lt hf) hf))
        go_wp2
        go_ret
        exact ⟨by rw [HE.out]; first | done | rfl, rfl⟩
end Go.Proofs.Ytimpmgbahgganaa
