/- Move, whole. -/
import Derived.Test.YtjapfckadikjiaaStI
namespace Go.Proofs.Ytjapfckadikjiaa
open Go.RowKit
section
variable {X : Sx} {s : Sk} {w : World}
theorem move_arg (v : Value) (b : Int) (w : World) (h : v = .pointer none ∨ (∃ a, v = .pointer (some a)) ∧ allowB b = false) : Calls Try.prog 20 #[v, .int .i64 b] w fun e w' => e = two (0, 1) ∧ Below w.heap.size w w' := by
  rcases h with rfl | ⟨⟨a, rfl⟩, h⟩
  · go_enter Try.func20, Try.ntmps20
    go_wp2
    go_ret2
    exact ⟨rfl, ((Below.refl _ _).alloc (Nat.le_refl _) _).alloc (by simp) _⟩
  · have ha := allowed_any b ((w.alloc (.cells #[.pointer (some a)] 23)).alloc (.cells #[.int .i64 b] 3))
    rw [h] at ha
    clear h
    go_enter Try.func20, Try.ntmps20
    go_wp2_with (go_at_call 25; refine ha.mono ?_; rintro e w1 ⟨rfl, rfl⟩)
    go_ret2
    exact ⟨rfl, ((Below.refl _ _).alloc (Nat.le_refl _) _).alloc (by simp) _⟩
/-- A word in the midst is set. -/
theorem Mid.putW {b m : Int} {l : List Wo} {st : List Nat} (M : Mid X w b m l st) {g cap i : Nat} {u u' : Wo} (hv : X.vw = .slice (some ⟨g, 0, none⟩) l.length cap) (hu : l[i]? = some u) (hp : u'.p = u.p) :
    Mid X (w.setCell ⟨g, i * 2, none⟩ (.int .i64 u'.v)) b m (l.set i u') st ∧ Stp X X w (w.setCell ⟨g, i * 2, none⟩ (.int .i64 u'.v)) := by
  have hi := get_lt hu
  obtain ⟨n1, n2, n3⟩ := M.ne
  have hg : X.vw.ownBlock = some g := by rw [hv]; rfl
  have hr : ∀ j, j ≠ g → (w.setCell ⟨g, i * 2, none⟩ (.int .i64 u'.v)).heap[j]? = w.heap[j]? := fun j hj => Below.heap_setCell w _ _ j hj
  refine ⟨⟨?_, ?_, ?_, M.base, by rw [World.size_setCell]; exact M.hB⟩, ⟨rfl, rfl, rfl, rfl, rfl, by simp, fun j _ hn => hr j (fun e => hn (.inr (.inl (by rw [e]; exact hg)))), fun j hj => .inl hj⟩⟩
  · rw [hr _ (n1 g hg)]; exact M.blk
  · rcases M.wds.2 with ⟨h1, _⟩ | ⟨g', cap', cur, h1, h5, h2, h3, h6, h7, h4⟩
    · rw [hv] at h1; cases h1
    · rw [hv] at h1; cases h1
      refine ⟨by rw [wcells_length], .inr ⟨g, cap, cur.setIfInBounds (i * 2) (.int .i64 u'.v), by rw [List.length_set]; exact hv, h5, heap_setCell_same w g _ _ h2, by simpa using h3, h6, by simpa using h7, ?_⟩⟩
      rw [List.length_set, wcells_set hu hp, ← h4, Array.toList_setIfInBounds, List.take_set]
  · exact ownsRow_keep M.sts fun g2 hg2 => hr g2 (fun e => n3 g hg (e ▸ hg2))
theorem Mid.cells {b m : Int} {l : List Wo} {st : List Nat} (M : Mid X w b m l st) {g cap i : Nat} {u : Wo} (hv : X.vw = .slice (some ⟨g, 0, none⟩) l.length cap) (hu : l[i]? = some u) :
    w.cell? ⟨g, i * 2, none⟩ = some (.int .i64 u.v) ∧ w.cell? ⟨g, i * 2 + 1, none⟩ = some (.bool u.p) ∧ w.frozen? ⟨g, i * 2, none⟩ = false ∧ g < w.heap.size := by
  rcases M.wds.2 with ⟨h1, _⟩ | ⟨g', cap', cur, h1, h5, h2, h3, h6, h7, h4⟩
  · rw [hv] at h1; cases h1
  · rw [hv] at h1; cases h1
    obtain ⟨e1, e2⟩ := wcells_get hu
    have hi := get_lt hu
    rw [← h4, List.getElem?_take, if_pos (by omega)] at e1 e2
    exact ⟨by simpa [World.cell?, h2] using e1, by simpa [World.cell?, h2] using e2, by simp [World.frozen?, h2], lt_of_block h2⟩
/-- What Move has in memory behind the first j words. -/
structure MovJ (X : Sx) (s : Sk) (w wr : World) (b : Int) (j : Nat) : Prop where
  mid : Mid X wr s.base s.most (mvd s b j) (sta 0 s.fr)
  stp : Stp X X w wr
  cs : wr.heap[w.heap.size]? = some (.cells #[X.p] 23 (0, 0))
  cb : wr.heap[w.heap.size + 1]? = some (.cells #[.int .i64 b] 3 (0, 0))
  cc : wr.heap[w.heap.size + 1 + 1]? = some (.cells #[.int .i64 (cntP s j)] 3 (0, 0))
theorem MovJ.facts {wr : World} {b : Int} {j : Nat} (J : MovJ X s w wr b j) : wr.cell? ⟨w.heap.size, 0, none⟩ = some X.p ∧ wr.cell? ⟨w.heap.size + 1, 0, none⟩ = some (.int .i64 b) ∧ wr.cell? ⟨w.heap.size + 1 + 1, 0, none⟩ = some (.int .i64 (cntP s j)) ∧ wr.frozen? ⟨w.heap.size + 1 + 1, 0, none⟩ = false ∧ w.heap.size + 1 + 1 < wr.heap.size :=
  ⟨by simp [World.cell?, J.cs], by simp [World.cell?, J.cb], by simp [World.cell?, J.cc], by simp [World.frozen?, J.cc], lt_of_block J.cc⟩
/-- Nothing but new memory. -/
theorem MovJ.below {wr w1 : World} {b : Int} {j k : Nat} (J : MovJ X s w wr b j) (hb : Below wr.heap.size wr w1) (h1 : mvd s b k = mvd s b j) (h2 : cntP s k = cntP s j) : MovJ X s w w1 b k := by
  have hlt := lt_of_block J.cc
  refine ⟨?_, J.stp.trans (Stp.of_below hb), (hb.block _ (by omega)).trans J.cs, (hb.block _ (by omega)).trans J.cb, ?_⟩
  · rw [h1]; exact J.mid.keep (fun i hi => hb.block i (J.mid.own_lt hi).2) hb.size
  · rw [h2]; exact (hb.block _ hlt).trans J.cc
theorem move_each (w W : World) (L : Sl X w s) (I : SInv s) {p1 : Nat} {a1 : Option Addr} {b : Int} (hb1 : 1 ≤ b) (hb2 : b ≤ 1099511627776) (h1 : X.vw = .slice a1 s.ws.length p1) (hJ : MovJ X s w W b 0) :
    Calls Try.prog 28 #[.slice a1 s.ws.length p1, .func (.func 35) #[] #[.pointer (some ⟨w.heap.size, 0, none⟩), .pointer (some ⟨w.heap.size + 1, 0, none⟩), .pointer (some ⟨w.heap.size + 1 + 1, 0, none⟩)]] W fun e w' => e = .returned (.tuple #[]) ∧ MovJ X s w w' b s.ws.length := by
  have hfit := I.fit
  have hm1 := I.m1
  obtain ⟨g, hg⟩ : ∃ g, 0 < s.ws.length → a1 = some ⟨g, 0, none⟩ := by
    rcases L.wform with ⟨h2, _⟩ | ⟨g, cap, cur, h2, _⟩
    · exact ⟨0, fun h => by rw [h2] at h; simp at h⟩
    · rw [h1] at h2; cases h2; exact ⟨g, fun _ => rfl⟩
  refine each_move (g := g) (fun j wr => MovJ X s w wr b j) (by omega) hg W hJ ?_
  intro i wr hi J
  obtain rfl := hg (by omega)
  have hu : s.ws[i]? = some (s.ws[i]'(by omega)) := List.getElem?_eq_getElem _
  generalize s.ws[i]'(by omega) = u at hu
  have hl := mvd_length s b i
  have hv : X.vw = .slice (some ⟨g, 0, none⟩) (mvd s b i).length p1 := by rw [hl]; exact h1
  obtain ⟨e1, e2, e3, e4⟩ := J.mid.cells hv (mvd_get hu)
  obtain ⟨f1, f2, f3, f4, f5⟩ := J.facts
  have hset := mvd_succ (b := b) hu
  have hcnt := cntP_succ hu
  have c0 : wr.cell? ⟨X.A, 0, none⟩ = some (.int .i64 s.base) := by simp [World.cell?, J.mid.blk]
  have c2 : wr.cell? ⟨X.A, 2, none⟩ = some (.slice (some ⟨g, 0, none⟩) s.ws.length p1) := by rw [← h1]; simp [World.cell?, J.mid.blk]
  have hx := I.vals u (List.mem_of_getElem? hu)
  have hsame : mv s b u = u → mvd s b (i + 1) = mvd s b i := fun h => by
    rw [hset, h]
    have := mvd_get (b := b) hu
    apply List.ext_getElem?
    intro t
    rw [List.getElem?_set]
    split
    · rename_i h2; subst h2; rw [this]; simp; exact (get_lt this)
    · rfl
  refine ⟨u.p, e2, fun hq => ?_, fun hq => ?_⟩
  · exact J.below (Below.refl _ _) (hsame (by simp [mv, hq])) (by rw [hcnt]; simp [isP, hq])
  · cases h : plc s u.v with
    | none =>
      refine (move1_none wr I c0 c2 hx f1 e1 h).mono ?_
      rintro e w' ⟨rfl, hb⟩
      exact ⟨rfl, J.below hb (hsame (by simp [mv, hq, h])) (by rw [hcnt]; simp [isP, h])⟩
    | some k =>
      have hgl : g < w.heap.size := (L.own_lt (.inr (.inl (by rw [h1]; rfl)))).2
      have hcl := cntP_le s i
      refine (move1_some wr I c0 c2 hx f1 e1 h e3 f2 f3 f4 e4 (by omega) f5 (by omega) hb1 hb2 (by omega)).mono ?_
      rintro e w' ⟨rfl, w1, hb, rfl⟩
      refine ⟨rfl, ?_⟩
      have hmv : mv s b u = { u with v := b + k } := by simp [mv, hq, h]
      have J1 := J.below hb rfl rfl
      obtain ⟨M2, S2⟩ := J1.mid.putW (u' := mv s b u) hv (mvd_get hu) (mv_p s b u)
      rw [show (mv s b u).v = b + k by rw [hmv]] at M2 S2
      have hlt1 : w.heap.size + 1 + 1 < w1.heap.size := Nat.lt_of_lt_of_le f5 hb.size
      have ho : ∀ j, X.own j → j < w.heap.size := fun j hj => (L.own_lt hj).2
      have hk : ∀ j, j ≠ w.heap.size + 1 + 1 → ((w1.setCell ⟨g, i * 2, none⟩ (.int .i64 (b + k))).setCell ⟨w.heap.size + 1 + 1, 0, none⟩ (.int .i64 ((cntP s i + 1 : Nat) : Int))).heap[j]? = (w1.setCell ⟨g, i * 2, none⟩ (.int .i64 (b + k))).heap[j]? := fun j hj => Below.heap_setCell _ _ _ _ hj
      refine ⟨?_, ?_, ?_, ?_, ?_⟩
      · rw [hset]
        exact M2.keep (fun j hj => hk j (by have := ho j hj; omega)) (by simp)
      · have S12 := J1.stp.trans S2
        exact ⟨rfl, rfl, S12.os, S12.tape, S12.output, by rw [World.size_setCell]; exact S12.size, fun j hj hn => (hk j (by omega)).trans (S12.block j hj hn), S12.own⟩
      · rw [hk _ (by omega), Below.heap_setCell _ _ _ _ (by show w.heap.size ≠ g; omega)]; exact J1.cs
      · rw [hk _ (by omega), Below.heap_setCell _ _ _ _ (by show w.heap.size + 1 ≠ g; omega)]; exact J1.cb
      · rw [heap_setCell_same _ _ 0 _ ((Below.heap_setCell _ _ _ _ (by show w.heap.size + 1 + 1 ≠ g; omega)).trans J1.cc), hcnt]
        simp [isP, hq, h]
set_option maxHeartbeats 4000000 in
theorem move_ok (w : World) (L : Sl X w s) (I : SInv s) {b : Int} (hb : allowB b = true) :
    Calls Try.prog 20 #[X.p, .int .i64 b] w fun e w' => e = two ((cntP s s.ws.length : Int), 0) ∧ Sl X w' (moveS s b) ∧ Stp X X w w' := by
  have hbb := of_decide_eq_true hb
  have ha := allowed_any b ((w.alloc (.cells #[X.p] 23)).alloc (.cells #[.int .i64 b] 3))
  rw [hb] at ha
  obtain ⟨a1, p1, h1⟩ := L.wlen
  have hA := lt_of_block L.blk
  obtain ⟨W, hW⟩ : ∃ W, ((w.alloc (.cells #[X.p] 23)).alloc (.cells #[.int .i64 b] 3)).alloc (.cells #[.int .i64 0] 3) = W := ⟨_, rfl⟩
  have J0 : MovJ X s w W b 0 := by
    have hbel : Below w.heap.size w W := by rw [← hW]; exact (((Below.refl _ _).alloc (Nat.le_refl _) _).alloc (by simp) _).alloc (by simp; omega) _
    refine ⟨by rw [mvd_zero]; exact (L.below hbel).mid, Stp.of_below hbel, ?_, ?_, ?_⟩
    · rw [← hW, Below.heap_alloc _ _ _ (by simp; omega), Below.heap_alloc _ _ _ (by simp), heap_new _ _ rfl]
    · rw [← hW, Below.heap_alloc _ _ _ (by simp), heap_new _ _ (by simp)]
    · rw [← hW, heap_new _ _ (by simp)]; simp [cntP]
  have he := move_each w W L I hbb.1 hbb.2 h1 J0
  have c2 := L.c2
  rw [h1] at c2
  have HW := hide hW
  have hA1 : X.A < w.heap.size + 1 := by omega
  have hA2 : X.A < w.heap.size + 1 + 1 := by omega
  have LH := hide L
  have HE := hide he
  have HA := hide ha
  have HBB := hide hbb
  clear he ha L I hb h1 J0 hW
  generalize hnw : s.ws.length = nw at *
  have HNW := hide hnw
  clear hnw hbb
  go_enter Try.func20, Try.ntmps20
  go_wp2_with (first | (go_at_call 25; refine HA.out.mono ?_; rintro e w1 ⟨rfl, rfl⟩) | (go_at_call 28; rw [HW.out]; refine HE.out.mono ?_; rintro e w2 ⟨rfl, J2⟩; obtain ⟨f1, f2, f3, f4, f5⟩ := J2.facts; have c0 : w2.cell? ⟨X.A, 0, none⟩ = some (.int .i64 s.base) := by { simp [World.cell?, J2.mid.blk] }; have q0 : w2.frozen? ⟨X.A, 0, none⟩ = false := by { simp [World.frozen?, J2.mid.blk] }; have HJ := hide J2; clear J2; have hne : ¬ w.heap.size + 1 + 1 = X.A := by { omega }))
  go_ret2
  obtain ⟨n1, n2, n3⟩ := HJ.out.mid.ne
  have hbA := HJ.out.mid.blk
  refine ⟨?_, Mid.sl ⟨?_, ?_, ?_, HJ.out.mid.base, ?_⟩, HJ.out.stp.trans ⟨rfl, rfl, rfl, rfl, rfl, by simp, fun j _ hn => Below.heap_setCell _ _ _ _ (fun e => hn (.inl e)), fun j hj => .inl hj⟩⟩
  · rfl
  · rw [heap_setCell_same _ _ _ _ hbA]; rfl
  · rw [← mvd_all, HNW.out]
    exact ownsRow_keep HJ.out.mid.wds fun g hg => Below.heap_setCell _ _ _ _ (n1 g hg).symm
  · rw [show sta 0 (moveS s b).fr = sta 0 s.fr from sta_map _ 0 s.fr]
    exact ownsRow_keep HJ.out.mid.sts fun g hg => Below.heap_setCell _ _ _ _ (n2 g hg).symm
  · rw [World.size_setCell]; exact HJ.out.mid.hB
end
end Go.Proofs.Ytjapfckadikjiaa
