/- ArenaApart's memory: its three lists beside the arena. -/
import Derived.Test.YtimpmgbahgganaaArU
namespace Go.Proofs.Ytimpmgbahgganaa
open Go.RowKit Go.Maps

theorem Try.info4 : (Try.prog.info? 4).map (fun i => (i.zero, i.size, i.bytes)) = some (some (.bool false), 1, 1) := by kernel_rfl
def bools (l : List Bool) : List Value := l.map fun (x : Bool) => Value.bool x
/-- The lists of places, sizes and what is held lie apart from the arena and from each other. -/
structure Ap (B : Nat) (w : World) (X : Wh) (va vs vh : Value) (ats szs : List Nat) (hel : List Bool) : Prop where
  ra : w.ownsRow B 3 1 va ats.length (addrs ats)
  rs : w.ownsRow B 3 1 vs szs.length (addrs szs)
  rh : w.ownsRow B 4 1 vh hel.length (bools hel)
  oa : ∀ g, va.ownBlock = some g → ¬ X.own g
  os : ∀ g, vs.ownBlock = some g → ¬ X.own g
  oh : ∀ g, vh.ownBlock = some g → ¬ X.own g
  as_ : va.ownBlock = none ∨ va.ownBlock ≠ vs.ownBlock
section
variable {B : Nat} {w w' : World} {X X' : Wh} {va vs vh : Value} {ats szs : List Nat} {hel : List Bool} {s : As} {k : Nat}
theorem Ap.step (P : Ap B w X va vs vh ats szs hel) (S : Step X X' w w') : Ap B w' X' va vs vh ats szs hel := by
  have key : ∀ {g : Nat}, g < w.heap.size → ¬ X.own g → ¬ X'.own g := fun {g} h1 h2 h3 => by
    rcases S.own g h3 with h | h
    · exact h2 h
    · omega
  exact ⟨ownsRow_keep P.ra fun g hg => S.block g (P.ra.lt g hg).2 (P.oa g hg), ownsRow_keep P.rs fun g hg => S.block g (P.rs.lt g hg).2 (P.os g hg), ownsRow_keep P.rh fun g hg => S.block g (P.rh.lt g hg).2 (P.oh g hg),
    fun g hg => key (P.ra.lt g hg).2 (P.oa g hg), fun g hg => key (P.rs.lt g hg).2 (P.os g hg), fun g hg => key (P.rh.lt g hg).2 (P.oh g hg), P.as_⟩
theorem Ap.drewN (P : Ap B w X va vs vh ats szs hel) (q : Nat) : Ap B (w.drewN q) X va vs vh ats szs hel := P.step (Step.of_below (below_drewN (Below.refl _ _) q))
theorem row_cell {e : TypeId} {v : Value} {n j : Nat} {xs : List Value} {u : Value} (h : w.ownsRow B e 1 v n xs) (hj : xs[j]? = some u) : ∃ g cap, v = .slice (some ⟨g, 0, none⟩) n cap ∧ w.cell? ⟨g, j, none⟩ = some u ∧ w.frozen? ⟨g, j, none⟩ = false ∧ j < n := by
  have hl := h.1
  have hj' := get_lt hj
  rcases h.2 with ⟨_, h0⟩ | ⟨g, cap, cur, rfl, _, h2, _, _, _, h3⟩
  · omega
  · refine ⟨g, cap, rfl, ?_, by simp [World.frozen?, h2], by omega⟩
    rw [← h3, List.getElem?_take] at hj
    split at hj
    · simpa [World.cell?, h2] using hj
    · cases hj
theorem addrs_get {l : List Nat} {j a : Nat} (h : l[j]? = some a) : (addrs l)[j]? = some (.int .i64 (a : Int)) := by simp [addrs, h]
theorem bools_get {l : List Bool} {j : Nat} {b : Bool} (h : l[j]? = some b) : (bools l)[j]? = some (.bool b) := by simp [bools, h]
theorem row_form {e : TypeId} {v : Value} {n : Nat} {xs : List Value} (h : w.ownsRow B e 1 v n xs) : ∃ ao cap, v = .slice ao n cap := by
  rcases h.2 with ⟨h1, h0⟩ | ⟨g, cap, cur, h1, _⟩
  · exact ⟨none, 0, by rw [h0]; exact h1⟩
  · exact ⟨_, cap, h1⟩
/-- The bytes of an argument. -/
def Bts (w : World) (v : Value) (l : List Nat) : Prop :=
  ∃ ao cap, v = .slice ao l.length cap ∧ ∀ (j u : Nat), l[j]? = some u → u ≤ 255 ∧ ∃ g o, ao = some ⟨g, o, none⟩ ∧ g < w.heap.size ∧ w.cell? ⟨g, o + j, none⟩ = some (.int .u8 u)
/-- An append in one of three lists, apart from the others. -/
theorem run_app1b {W : World} {b m : Nat} {v : Value} {xs : List Value} {a : Bool} (hown : W.ownsRow B 4 1 v m xs) (hb : W.heap[b]? = some (.cells #[.bool a] 4 (0, 0))) (hlen : m < 1000000000) (hB : B ≤ W.heap.size) :
    ∃ g cap w', (Builtin.append_ #[65, 65] 65 #[v, .slice (some ⟨b, 0, none⟩) 1 1]).run Try.prog W = .ok (.slice (some ⟨g, 0, none⟩) (m + 1) cap) w' ∧
      w'.ownsRow B 4 1 (.slice (some ⟨g, 0, none⟩) (m + 1) cap) (m + 1) (xs ++ [.bool a]) ∧ W.grownBy w' v.ownBlock ∧ (v.ownBlock = some g ∨ g = W.heap.size) ∧ g < w'.heap.size := by
  obtain ⟨i0, hi, hz0, hz1, hz2⟩ := info_parts Try.info4
  exact run_append_lies (P := Try.prog) W 65 65 B 4 i0 _ 1 1 Try.underlying65 hi hz0 hz1 hz2 rfl (by decide) v m xs hown ⟨b, 0, none⟩ 1 1 [.bool a] rfl (World.news_of_block hb)
    (by intro u hu; simp at hu; subst hu; rfl) (by decide) (by unfold maxLen; omega) (by omega) hB _ rfl
/-- The three appends of a round. -/
theorem Ap.push (P : Ap B w X va vs vh ats szs hel) (L : Lies X w s k) (hB : B ≤ w.heap.size) (hl : ats.length < 1000) (l1 : szs.length = ats.length) (l2 : hel.length = ats.length) (x n : Nat) :
    ∃ va' vs' vh' w1 w2 w3, (Builtin.append_ #[31, 31] 31 #[va, .slice (some ⟨w.heap.size, 0, none⟩) 1 1]).run Try.prog (w.alloc (.cells #[.int .i64 (x : Int)] 3)) = .ok va' w1 ∧
      (Builtin.append_ #[31, 31] 31 #[vs, .slice (some ⟨w1.heap.size, 0, none⟩) 1 1]).run Try.prog (w1.alloc (.cells #[.int .i64 (n : Int)] 3)) = .ok vs' w2 ∧
      (Builtin.append_ #[65, 65] 65 #[vh, .slice (some ⟨w2.heap.size, 0, none⟩) 1 1]).run Try.prog (w2.alloc (.cells #[.bool true] 4)) = .ok vh' w3 ∧
      Ap B w3 X va' vs' vh' (ats ++ [x]) (szs ++ [n]) (hel ++ [true]) ∧ Lies X w3 s k ∧ (∀ {w0 : World}, Below B w0 w → Below B w0 w3) ∧ w.heap.size ≤ w3.heap.size := by
  have addr1 : ∀ (l : List Nat) (y : Nat), addrs (l ++ [y]) = addrs l ++ [.int .i64 (y : Int)] := fun l y => by simp [addrs]
  -- places
  obtain ⟨W1, hW1⟩ : ∃ W1, w.alloc (.cells #[.int .i64 (x : Int)] 3) = W1 := ⟨_, rfl⟩
  have z1 : W1.heap.size = w.heap.size + 1 := by rw [← hW1]; simp
  have b1 : ∀ j, j < w.heap.size → W1.heap[j]? = w.heap[j]? := fun j hj => by rw [← hW1]; exact Below.heap_alloc _ _ _ hj
  have n1 : W1.heap[w.heap.size]? = some (.cells #[.int .i64 (x : Int)] 3 (0, 0)) := by rw [← hW1, heap_new _ _ rfl]
  obtain ⟨ga, ca, w1, r1, o1, g1, at1, lt1⟩ := run_app1 (ownsRow_keep P.ra fun g hg => b1 g (P.ra.lt g hg).2) n1 (by omega) (by omega)
  have zz1 := g1.size
  have k1 : ∀ j, j < w.heap.size → some j ≠ va.ownBlock → w1.heap[j]? = w.heap[j]? := fun j hj hn => (g1.block j (by omega) hn).trans (b1 j hj)
  have hga : ¬ X.own ga ∧ (ga < w.heap.size → va.ownBlock = some ga) := by
    rcases at1 with h | h
    · exact ⟨P.oa ga h, fun _ => h⟩
    · exact ⟨fun hx => by have := (L.own_lt hx).2; omega, fun h2 => by omega⟩
  have vsne : ∀ g, vs.ownBlock = some g → some g ≠ va.ownBlock := fun g hg e => by
    rcases P.as_ with h | h
    · rw [h] at e; cases e
    · exact h (e.symm.trans hg.symm)
  have vhne : ∀ g, vh.ownBlock = some g → some g ≠ va.ownBlock ∧ some g ≠ vs.ownBlock := fun g hg => by
    obtain ⟨cur, h2⟩ : ∃ cur, w.heap[g]? = some (.cells cur 4 (0, 0)) := by
      rcases P.rh.2 with ⟨h1, _⟩ | ⟨g', cap, cur, h1, _, h2, _⟩
      · rw [h1] at hg; cases hg
      · rw [h1] at hg; cases hg; exact ⟨cur, h2⟩
    refine ⟨fun e => ?_, fun e => ?_⟩
    · rcases P.ra.2 with ⟨h1, _⟩ | ⟨g', cap, cur', h1, _, h3, _⟩
      · rw [h1] at e; cases e
      · rw [h1] at e; cases e; rw [h2] at h3; simp at h3
    · rcases P.rs.2 with ⟨h1, _⟩ | ⟨g', cap, cur', h1, _, h3, _⟩
      · rw [h1] at e; cases e
      · rw [h1] at e; cases e; rw [h2] at h3; simp at h3
  -- sizes
  obtain ⟨W2, hW2⟩ : ∃ W2, w1.alloc (.cells #[.int .i64 (n : Int)] 3) = W2 := ⟨_, rfl⟩
  have z2 : W2.heap.size = w1.heap.size + 1 := by rw [← hW2]; simp
  have b2 : ∀ j, j < w1.heap.size → W2.heap[j]? = w1.heap[j]? := fun j hj => by rw [← hW2]; exact Below.heap_alloc _ _ _ hj
  have n2 : W2.heap[w1.heap.size]? = some (.cells #[.int .i64 (n : Int)] 3 (0, 0)) := by rw [← hW2, heap_new _ _ rfl]
  obtain ⟨gs, cs, w2, r2, o2, g2, at2, lt2⟩ := run_app1 (ownsRow_keep P.rs fun g hg => (b2 g (by have := (P.rs.lt g hg).2; omega)).trans (k1 g (P.rs.lt g hg).2 (vsne g hg))) n2 (by omega) (by omega)
  have zz2 := g2.size
  have hgs : ¬ X.own gs ∧ gs ≠ ga := by
    rcases at2 with h | h
    · exact ⟨P.os gs h, fun e => by subst e; exact vsne gs h (hga.2 (P.rs.lt gs h).2).symm⟩
    · exact ⟨fun hx => by have := (L.own_lt hx).2; omega, by omega⟩
  -- what is held
  obtain ⟨W3, hW3⟩ : ∃ W3, w2.alloc (.cells #[.bool true] 4) = W3 := ⟨_, rfl⟩
  have z3 : W3.heap.size = w2.heap.size + 1 := by rw [← hW3]; simp
  have b3 : ∀ j, j < w2.heap.size → W3.heap[j]? = w2.heap[j]? := fun j hj => by rw [← hW3]; exact Below.heap_alloc _ _ _ hj
  have n3 : W3.heap[w2.heap.size]? = some (.cells #[.bool true] 4 (0, 0)) := by rw [← hW3, heap_new _ _ rfl]
  have k2 : ∀ j, j < w1.heap.size → some j ≠ vs.ownBlock → W3.heap[j]? = w1.heap[j]? := fun j hj hn => (b3 j (by omega)).trans ((g2.block j (by omega) hn).trans (b2 j hj))
  obtain ⟨gh, ch, w3, r3, o3, g3, at3, lt3⟩ := run_app1b (ownsRow_keep P.rh fun g hg => (k2 g (by have := (P.rh.lt g hg).2; omega) (vhne g hg).2).trans (k1 g (P.rh.lt g hg).2 (vhne g hg).1)) n3 (by omega) (by omega)
  have zz3 := g3.size
  have k3 : ∀ j, j < w1.heap.size → some j ≠ vs.ownBlock → some j ≠ vh.ownBlock → w3.heap[j]? = w1.heap[j]? := fun j hj h1 h2 => (g3.block j (by omega) h2).trans (k2 j hj h1)
  have kk : ∀ j, j < w.heap.size → some j ≠ va.ownBlock → some j ≠ vs.ownBlock → some j ≠ vh.ownBlock → w3.heap[j]? = w.heap[j]? := fun j hj h0 h1 h2 => (k3 j (by omega) h1 h2).trans (k1 j hj h0)
  have gav : some ga ≠ vs.ownBlock ∧ some ga ≠ vh.ownBlock := by
    refine ⟨fun e => ?_, fun e => ?_⟩
    · have h1 := (P.rs.lt ga e.symm).2
      exact vsne ga e.symm (hga.2 h1).symm
    · have h1 := (P.rh.lt ga e.symm).2
      exact (vhne ga e.symm).1 (hga.2 h1).symm
  have gsv : some gs ≠ vh.ownBlock := fun e => by
    have h1 := (P.rh.lt gs e.symm).2
    rcases at2 with h | h
    · exact (vhne gs e.symm).2 h.symm
    · omega
  refine ⟨_, _, _, w1, w2, w3, hW1 ▸ r1, hW2 ▸ r2, hW3 ▸ r3, ⟨?_, ?_, ?_, ?_, ?_, ?_, ?_⟩, ?_, ?_, by omega⟩
  · rw [List.length_append, List.length_singleton, addr1]
    refine ownsRow_keep o1 fun g hg => ?_
    simp [Value.ownBlock] at hg; subst hg
    exact k3 ga lt1 gav.1 gav.2
  · rw [List.length_append, List.length_singleton, addr1]
    refine ownsRow_keep o2 fun g hg => ?_
    simp [Value.ownBlock] at hg; subst hg
    exact (g3.block gs (by omega) gsv).trans (b3 gs lt2)
  · rw [List.length_append, List.length_singleton, show bools (hel ++ [true]) = bools hel ++ [.bool true] by simp [bools]]
    exact o3
  · intro g hg; simp [Value.ownBlock] at hg; subst hg; exact hga.1
  · intro g hg; simp [Value.ownBlock] at hg; subst hg; exact hgs.1
  · intro g hg; simp [Value.ownBlock] at hg; subst hg
    rcases at3 with h | h
    · exact P.oh gh h
    · exact fun hx => by have := (L.own_lt hx).2; omega
  · right; simp [Value.ownBlock]; exact Ne.symm hgs.2
  · refine L.keep (fun j hj => kk j (L.own_lt hj).2 (fun e => P.oa j e.symm hj) (fun e => P.os j e.symm hj) (fun e => P.oh j e.symm hj)) (by omega)
  · intro w0 hb
    refine hb.trans ⟨?_, ?_, ?_, by omega, fun j hj => kk j (by omega) (fun e => ?_) (fun e => ?_) (fun e => ?_)⟩
    · rw [g3.os, ← hW3]; show w2.os = _; rw [g2.os, ← hW2]; show w1.os = _; rw [g1.os, ← hW1]; rfl
    · rw [g3.tape, ← hW3]; show w2.tape = _; rw [g2.tape, ← hW2]; show w1.tape = _; rw [g1.tape, ← hW1]; rfl
    · rw [g3.output, ← hW3]; show w2.output = _; rw [g2.output, ← hW2]; show w1.output = _; rw [g1.output, ← hW1]; rfl
    · have := (P.ra.lt j e.symm).1; omega
    · have := (P.rs.lt j e.symm).1; omega
    · have := (P.rh.lt j e.symm).1; omega
/-- What is held is given up. -/
theorem Ap.unhold (P : Ap B w X va vs vh ats szs hel) (L : Lies X w s k) {g cap j : Nat} (hv : vh = .slice (some ⟨g, 0, none⟩) hel.length cap) :
    Ap B (w.setCell ⟨g, j, none⟩ (.bool false)) X va vs vh ats szs (hel.set j false) ∧ Lies X (w.setCell ⟨g, j, none⟩ (.bool false)) s k ∧ (∀ {w0 : World}, Below B w0 w → Below B w0 (w.setCell ⟨g, j, none⟩ (.bool false))) := by
  obtain ⟨cur, h2, h3, h4, h5, h6, h7⟩ : ∃ cur, w.heap[g]? = some (.cells cur 4 (0, 0)) ∧ cur.toList.take hel.length = bools hel ∧ hel.length ≤ cap ∧ cap ≤ maxLen ∧ cur.size = cap ∧ B ≤ g := by
    rcases P.rh.2 with ⟨h1, _⟩ | ⟨g', cap', cur, h1, hb, h2, h3, hc, hs, h4⟩
    · rw [hv] at h1; cases h1
    · rw [hv] at h1; cases h1; exact ⟨cur, h2, by simpa using h4, h3, hc, by omega, hb⟩
  have hr : ∀ q, q ≠ g → (w.setCell ⟨g, j, none⟩ (.bool false)).heap[q]? = w.heap[q]? := fun q hq => Below.heap_setCell w _ _ q hq
  have hne : ∀ {v : Value} {l : List Nat}, w.ownsRow B 3 1 v l.length (addrs l) → ∀ q, v.ownBlock = some q → q ≠ g := fun {v l} hv q hq e => by
    rcases hv.2 with ⟨h1, _⟩ | ⟨g', cap', cur', h1, _, h2', _⟩
    · rw [h1] at hq; cases hq
    · rw [h1] at hq; cases hq; rw [show g' = g from e, h2] at h2'; simp at h2'
  refine ⟨⟨ownsRow_keep P.ra fun q hq => hr q (hne P.ra q hq), ownsRow_keep P.rs fun q hq => hr q (hne P.rs q hq), ?_, P.oa, P.os, P.oh, P.as_⟩, L.keep (fun q hq => hr q (fun e => by subst e; exact P.oh q (by rw [hv]; rfl) hq)) (by simp), fun {w0} hb => hb.setCell h7 _⟩
  rw [List.length_set]
  refine ⟨by simp [bools], .inr ⟨g, cap, _, hv, h7, heap_setCell_same w g j _ h2, h4, h5, by simpa using h6, ?_⟩⟩
  have : bools (hel.set j false) = (bools hel).set j (.bool false) := by simp [bools, List.map_set]
  rw [this, ← h3, Nat.mul_one]
  simp [List.take_set]
end
end Go.Proofs.Ytimpmgbahgganaa
