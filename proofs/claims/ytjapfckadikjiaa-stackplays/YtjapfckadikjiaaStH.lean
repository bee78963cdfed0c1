/- Pop, whole. -/
import Derived.Test.YtjapfckadikjiaaStG
namespace Go.Proofs.Ytjapfckadikjiaa
open Go.RowKit
section
variable {X : Sx} {s : Sk} {w : World}
theorem pop_nil (w : World) : Calls Try.prog 12 #[.pointer none] w fun e w' => e = .returned (.int .i64 1) ∧ Below w.heap.size w w' := by
  go_enter Try.func12, Try.ntmps12
  go_wp2
  go_ret
  exact ⟨rfl, (Below.refl _ _).alloc (Nat.le_refl _) _⟩
theorem pop_none (w : World) (L : Sl X w s) (h : s.fr = []) : Calls Try.prog 12 #[X.p] w fun e w' => e = .returned (.int .i64 6) ∧ Below w.heap.size w w' := by
  have c3 := L.c3
  obtain ⟨a2, p2, h2⟩ := L.slen
  rw [h2, h] at c3
  have hA := lt_of_block L.blk
  simp only [List.length_nil] at c3
  clear h2 h L
  go_enter Try.func12, Try.ntmps12
  go_wp2
  go_ret
  exact ⟨rfl, (Below.refl _ _).alloc (Nat.le_refl _) _⟩
theorem sta_take : ∀ (fr : List (List Wo)) (b n : Nat), sta b (fr.take n) = (sta b fr).take n
  | [], b, n => by simp [sta]
  | f :: r, b, 0 => by simp [sta]
  | f :: r, b, n + 1 => by simp [sta, sta_take r]
theorem row_cut {w : World} {B : Nat} {e : TypeId} {size n m cap : Nat} {ao : Option Addr} {xs : List Value} (h : w.ownsRow B e size (.slice ao n cap) n xs) (hm : m ≤ n) : w.ownsRow B e size (.slice ao m cap) m (xs.take (m * size)) := by
  have hl := h.1
  have hms : m * size ≤ n * size := Nat.mul_le_mul_right _ hm
  refine ⟨by rw [List.length_take]; omega, ?_⟩
  rcases h.2 with ⟨h1, h2⟩ | ⟨g, c, cur, h1, h5, h2, h3, h6, h7, h4⟩
  · cases h1
    left
    have : m = 0 := by omega
    subst this
    exact ⟨rfl, rfl⟩
  · cases h1
    refine .inr ⟨g, cap, cur, rfl, h5, h2, by omega, h6, h7, ?_⟩
    rw [← h4, List.take_take, Nat.min_eq_left hms]
theorem own_slice (a : Option Addr) (n m c : Nat) : (Value.slice a n c).ownBlock = (Value.slice a m c).ownBlock := by cases a <;> rfl
theorem Sl.cutTo (L : Sl X w s) {n p1 p2 : Nat} {a1 : Option Addr} {g2 : Nat} (hn : s.fr.length = n + 1) (h1 : X.vw = .slice a1 s.ws.length p1) (h2 : X.vs = .slice (some ⟨g2, 0, none⟩) (n + 1) p2) {w' : World}
    (hw : w'.heap[X.A]? = some (.cells #[.int .i64 s.base, .int .i64 s.most, .slice a1 (pre s.fr n) p1, .slice (some ⟨g2, 0, none⟩) n p2] 63 (0, 0))) (hk : ∀ j, j ≠ X.A → w'.heap[j]? = w.heap[j]?) (hz : w'.heap.size = w.heap.size) (ho : w'.os = w.os) (ht : w'.tape = w.tape) (hu : w'.output = w.output) :
    Sl { X with vw := .slice a1 (pre s.fr n) p1, vs := .slice (some ⟨g2, 0, none⟩) n p2 } w' (popS s) ∧ Stp X { X with vw := .slice a1 (pre s.fr n) p1, vs := .slice (some ⟨g2, 0, none⟩) n p2 } w w' := by
  obtain ⟨n1, n2, n3⟩ := L.mid.ne
  have hws : (popS s).ws = s.ws.take (pre s.fr n) := by rw [popS_ws, hn]; rfl
  have hpl : pre s.fr n ≤ s.ws.length := pre_le s.fr n
  have hlen : (popS s).ws.length = pre s.fr n := by rw [hws, List.length_take]; omega
  have hfr : (popS s).fr.length = n := by simp [popS, hn]
  have hw1 := L.wds
  rw [h1] at hw1
  have hs1 := L.sts
  rw [h2, hn] at hs1
  refine ⟨⟨hw, ?_, ?_, L.base, by rw [hz]; exact L.hB⟩, ⟨rfl, rfl, ho, ht, hu, by rw [hz]; exact Nat.le_refl _, fun j _ hj => hk j (fun e => hj (.inl e)), fun j hj => .inl ?_⟩⟩
  · rw [hlen, hws, wcells_take]
    exact ownsRow_keep (row_cut hw1 hpl) fun g hg => hk g (n1 g (by rw [h1, own_slice a1 _ (pre s.fr n)]; exact hg)).symm
  · rw [hfr, show (popS s).fr = s.fr.take n by simp [popS, List.dropLast_eq_take, hn], sta_take, show addrs ((sta 0 s.fr).take n) = (addrs (sta 0 s.fr)).take (n * 1) by simp [addrs, List.map_take]]
    exact ownsRow_keep (row_cut hs1 (Nat.le_succ n)) fun g hg => hk g (n2 g (by rw [h2]; exact hg)).symm
  · rcases hj with e | e | e
    · exact .inl e
    · exact .inr (.inl (by rw [h1, own_slice a1 _ (pre s.fr n)]; exact e))
    · exact .inr (.inr (by rw [h2]; exact e))
/-- What Pop has in memory: the variables that its closure captures. -/
structure PopJ (X : Sx) (w wr : World) (a : Nat) (b : Bool) : Prop where
  bel : Below w.heap.size w wr
  cs : wr.heap[w.heap.size]? = some (.cells #[X.p] 23 (0, 0))
  ct : wr.heap[w.heap.size + 1]? = some (.cells #[.int .i64 a] 3 (0, 0))
  cn : wr.heap[w.heap.size + 1 + 1]? = some (.cells #[.bool b] 4 (0, 0))
theorem PopJ.drew {wr : World} {a : Nat} {b : Bool} (h : PopJ X w wr a b) : PopJ X w wr.drew a b := ⟨h.bel.drew, h.cs, h.ct, h.cn⟩
theorem PopJ.facts {wr : World} {a : Nat} {b : Bool} (J : PopJ X w wr a b) : wr.cell? ⟨w.heap.size, 0, none⟩ = some X.p ∧ wr.cell? ⟨w.heap.size + 1 + 1, 0, none⟩ = some (.bool b) ∧ wr.frozen? ⟨w.heap.size + 1 + 1, 0, none⟩ = false ∧ wr.cell? ⟨w.heap.size + 1, 0, none⟩ = some (.int .i64 a) ∧ w.heap.size + 1 + 1 < wr.heap.size :=
  ⟨by simp [World.cell?, J.cs], by simp [World.cell?, J.cn], by simp [World.frozen?, J.cn], by simp [World.cell?, J.ct], lt_of_block J.cn⟩
theorem PopJ.next {wr w1 : World} {a : Nat} {b b' : Bool} (J : PopJ X w wr a b) (hb : Below wr.heap.size wr w1) : PopJ X w (w1.setCell ⟨w.heap.size + 1 + 1, 0, none⟩ (.bool b')) a b' := by
  have h1 := lt_of_block J.cn
  have h0 := J.bel.size
  refine ⟨(J.bel.trans (hb.mono h0)).setCell (by show w.heap.size ≤ w.heap.size + 1 + 1; omega) _, ?_, ?_, ?_⟩
  · rw [Below.heap_setCell _ _ _ _ (by show w.heap.size ≠ w.heap.size + 1 + 1; omega), hb.block _ (by omega)]; exact J.cs
  · rw [Below.heap_setCell _ _ _ _ (by show w.heap.size + 1 ≠ w.heap.size + 1 + 1; omega), hb.block _ (by omega)]; exact J.ct
  · rw [heap_setCell_same w1 _ 0 _ ((hb.block _ h1).trans J.cn)]; rfl
theorem pop_each (w W : World) (L : Sl X w s) (I : SInv s) {a p1 : Nat} {a1 : Option Addr} (h1 : X.vw = .slice a1 s.ws.length p1) (ha : a ≤ s.ws.length) (hJ : PopJ X w W a false) :
    Calls Try.prog 28 #[.slice a1 a p1, .func (.func 29) #[] #[.pointer (some ⟨w.heap.size, 0, none⟩), .pointer (some ⟨w.heap.size + 1 + 1, 0, none⟩), .pointer (some ⟨w.heap.size + 1, 0, none⟩)]] W fun e w' => e = .returned (.tuple #[]) ∧ PopJ X w w' a (namedB s a a) := by
  have hfit := I.fit
  have hm1 := I.m1
  obtain ⟨g, hg⟩ : ∃ g, 0 < a → a1 = some ⟨g, 0, none⟩ := by
    rcases L.wform with ⟨h2, _⟩ | ⟨g, cap, cur, h2, _⟩
    · exact ⟨0, fun h => by rw [h2] at ha; simp at ha; omega⟩
    · rw [h1] at h2; cases h2; exact ⟨g, fun _ => rfl⟩
  refine each_pop (g := g) (fun j wr => PopJ X w wr a (namedB s a j)) (by omega) hg W (by simpa [namedB] using hJ) ?_
  intro i wr hi J
  obtain rfl := hg (by omega)
  have hu : s.ws[i]? = some (s.ws[i]'(by omega)) := List.getElem?_eq_getElem _
  generalize s.ws[i]'(by omega) = u at hu
  have Lr := L.below J.bel
  obtain ⟨g', cap', hv', e1, e2, _⟩ := Lr.word hu
  rw [h1] at hv'
  cases hv'
  have hs := namedB_succ (a := a) hu
  obtain ⟨f1, f2, f3, f4, f5⟩ := J.facts
  refine ⟨u.p, e2, fun hq => ?_, fun hq => ?_⟩
  · rw [hs, show isN s a u = false by simp [isN, hq], Bool.or_false]; exact J
  · have c2 := Lr.c2
    rw [h1] at c2
    refine (pop1_any wr I Lr.c0 c2 (I.vals u (List.mem_of_getElem? hu)) f1 e1 f2 f3 f4 f5 (by omega)).mono ?_
    rintro e w' ⟨rfl, w1, hb, rfl⟩
    refine ⟨rfl, ?_⟩
    rw [hs, show isN s a u = atB a (plc s u.v) by simp [isN, hq]]
    exact J.next hb
set_option maxHeartbeats 4000000 in
theorem pop_some (w : World) (L : Sl X w s) (I : SInv s) {n : Nat} (h : s.fr.length = n + 1) :
    Calls Try.prog 12 #[X.p] w fun e w' => (namedB s (pre s.fr n) (pre s.fr n) = true ∧ e = .returned (.int .i64 1) ∧ Below w.heap.size w w') ∨ (namedB s (pre s.fr n) (pre s.fr n) = false ∧ e = .returned (.int .i64 0) ∧ ∃ X', Sl X' w' (popS s) ∧ Stp X X' w w') := by
  have c2 := L.c2
  have c3 := L.c3
  obtain ⟨a1, p1, h1⟩ := L.wlen
  obtain ⟨g2, p2, h2, cst⟩ := L.start (i := n) (by omega)
  rw [h1] at c2
  rw [h2, h] at c3
  have hfew := I.few
  have hfit := I.fit
  have hm1 := I.m1
  have b1 : (n : Int) < 1000 := by omega
  have b2 : (s.ws.length : Int) ≤ 65536 := by omega
  have hpl := pre_le s.fr n
  have b3 : (pre s.fr n : Int) ≤ (s.ws.length : Int) := by have : s.fr.flatten.length = s.ws.length := rfl; omega
  have hA := lt_of_block L.blk
  have hg2 : g2 < w.heap.size := (L.own_lt (.inr (.inr (by rw [h2]; rfl)))).2
  have d1 : ((n : Int) + 1 == 0) = false := by simp; omega
  have LH := hide L
  have IH := hide I
  have H1 := hide h1
  have H2 := hide h2
  have HH := hide h
  clear L I h1 h2 h hpl hfew hfit hm1
  generalize hnw : s.ws.length = nw at *
  generalize hpn : pre s.fr n = a at *
  have HNW := hide hnw
  have HPN := hide hpn
  clear hnw hpn
  go_enter Try.func12, Try.ntmps12
  go_wp2
  obtain ⟨W, hW⟩ : ∃ W, ((w.alloc (.cells #[X.p] 23)).alloc (.cells #[.int .i64 (a : Int)] 3)).alloc (.cells #[.bool false] 4) = W := ⟨_, rfl⟩
  have J0 : PopJ X w W a false := by
    rw [← hW]
    refine ⟨(((Below.refl _ _).alloc (Nat.le_refl _) _).alloc (by simp) _).alloc (by simp; omega) _, ?_, ?_, ?_⟩
    · rw [Below.heap_alloc _ _ _ (by simp; omega), Below.heap_alloc _ _ _ (by simp), heap_new _ _ rfl]
    · rw [Below.heap_alloc _ _ _ (by simp), heap_new _ _ (by simp)]
    · rw [heap_new _ _ (by simp)]
  have hcap : nw ≤ p1 ∧ p1 ≤ maxLen := by
    rcases LH.out.wform with ⟨h2, h3⟩ | ⟨g, cap, cur, h2, _, _, h3, _, _, h4⟩
    · rw [H1.out] at h3; cases h3; exact ⟨Nat.le_refl _, Nat.zero_le _⟩
    · rw [H1.out, HNW.out] at h2; cases h2; rw [HNW.out] at h3; exact ⟨h3, h4⟩
  have hcs : n + 1 ≤ p2 ∧ p2 ≤ maxLen := by
    rcases LH.out.sform with ⟨h2, h3⟩ | ⟨g, cap, cur, h2, _, _, h3, _, _, h4⟩
    · rw [H2.out] at h3; cases h3
    · rw [H2.out] at h2; cases h2; rw [HH.out] at h3; exact ⟨h3, h4⟩
  unfold maxLen at hcap hcs
  have he := pop_each w W.drew LH.out IH.out (by rw [HNW.out]; exact H1.out) (by rw [HNW.out]; omega) J0.drew
  have L1 := LH.out.below J0.bel
  have c2 := L1.c2
  rw [H1.out] at c2
  obtain ⟨f1, f2, f3, f4, f5⟩ := J0.facts
  have b4 : (a : Int) ≤ (p1 : Int) := by omega
  have b5 : (p1 : Int) ≤ 9223372036854775807 := by omega
  have b6 : (n : Int) ≤ (p2 : Int) := by omega
  have b7 : (p2 : Int) ≤ 9223372036854775807 := by omega
  clear hcap hcs
  have HE := hide he
  clear he J0 L1 f2 f3 f5
  rw [hW]
  clear hW cst
  go_region_held3 (fun w' => w'.cell? ⟨w.heap.size, 0, none⟩ = some X.p ∧ w'.cell? ⟨w.heap.size + 1, 0, none⟩ = some (.int .i64 a) ∧ w'.cell? ⟨X.A, 2, none⟩ = some (.slice a1 nw p1)) (first | go_keep | exact ⟨k1, k4, k2⟩ | exact ⟨f1, f4, c2⟩) ((go_at_call 28; refine HE.out.mono ?_; rintro e w2 ⟨rfl, J2⟩; obtain ⟨k1, -, -, k4, -⟩ := J2.facts; have k2 := (LH.out.below J2.bel).c2; rw [H1.out] at k2))
  clear f1 f4 c2 k1 k4 k2
  obtain ⟨bb, hbb⟩ : ∃ bb, namedB s a a = bb := ⟨_, rfl⟩
  rw [hbb] at J2
  obtain ⟨f1, f2, f3, f4, f5⟩ := J2.facts
  have HBB := hide hbb
  have HJ := hide J2
  have L2 := LH.out.below J2.bel
  have c2 := L2.c2
  have c3 := L2.c3
  have q2 := L2.fz 2
  have q3 := L2.fz 3
  rw [H1.out] at c2
  rw [H2.out] at c3
  have hne : ¬ w.heap.size = X.A := by omega
  have hne1 : ¬ w.heap.size + 1 = X.A := by omega
  have HL := hide L2
  clear hbb J2 L2 f3 f5 HE
  cases bb with
  | true =>
    go_wp2
    go_ret
    exact .inl ⟨HBB.out, rfl, HJ.out.bel⟩
  | false =>
    go_wp2
    go_region
    all_goals go_wp2
    all_goals go_region
    all_goals go_wp2
    all_goals go_ret
    have hw : (((w2.setCell ⟨X.A, 2, none⟩ (.slice a1 a p1)).setCell ⟨X.A, 3, none⟩ (.slice (some ⟨g2, 0, none⟩) n p2)).drew.drew).heap[X.A]? = some (.cells #[.int .i64 s.base, .int .i64 s.most, .slice a1 (pre s.fr n) p1, .slice (some ⟨g2, 0, none⟩) n p2] 63 (0, 0)) := by
      show ((w2.setCell ⟨X.A, 2, none⟩ (.slice a1 a p1)).setCell ⟨X.A, 3, none⟩ (.slice (some ⟨g2, 0, none⟩) n p2)).heap[X.A]? = _
      rw [heap_setCell_same _ X.A 3 _ (heap_setCell_same w2 X.A 2 _ HL.out.blk), HPN.out]; rfl
    obtain ⟨r1, r2⟩ := HL.out.cutTo HH.out (by rw [HNW.out]; exact H1.out) (by rw [← HH.out]; exact H2.out) hw (fun j hj => by
      show ((w2.setCell ⟨X.A, 2, none⟩ (.slice a1 a p1)).setCell ⟨X.A, 3, none⟩ (.slice (some ⟨g2, 0, none⟩) n p2)).heap[j]? = _
      rw [Below.heap_setCell _ _ _ _ hj, Below.heap_setCell _ _ _ _ hj]) (by
      show ((w2.setCell ⟨X.A, 2, none⟩ (.slice a1 a p1)).setCell ⟨X.A, 3, none⟩ (.slice (some ⟨g2, 0, none⟩) n p2)).heap.size = _
      rw [World.size_setCell, World.size_setCell]) rfl rfl rfl
    exact .inr ⟨HBB.out, rfl, _, r1, (Stp.of_below HJ.out.bel).trans r2⟩
end
end Go.Proofs.Ytjapfckadikjiaa
