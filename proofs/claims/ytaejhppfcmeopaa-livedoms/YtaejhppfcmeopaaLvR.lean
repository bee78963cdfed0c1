/- needs, walked. -/
import Derived.Test.YtaejhppfcmeopaaLvL
namespace Go.Proofs.Ytaejhppfcmeopaa
open Go.RowKit
def resIn (bs : List Blk) (K : Nat) : List (List Int) := (List.range bs.length).map fun i => zs (inL bs K i)
def resOut (bs : List Blk) (K : Nat) : List (List Int) := (List.range bs.length).map fun i => zs (outL bs K i)
/-- Between two rounds. -/
def NLp (B : Nat) (w4 wr : World) (n A1 A2 : Nat) (bs : List Blk) (v : Nat) : Prop := ∃ f, Fm wr B (n + n) (lbF n A1 A2) (loF n) f (LV bs n v) ∧ Fr (n + n) (lbF n A1 A2) w4 (fun _ => .slice none 0 0) wr f
theorem lb_or {n A1 A2 : Nat} (t : Nat) : lbF n A1 A2 t = A1 ∨ lbF n A1 A2 t = A2 := by
  unfold lbF
  split
  · exact .inl rfl
  · exact .inr rfl
theorem fr_keep {w4 wr : World} {n A1 A2 : Nat} {f : Nat → Value} (R : Fr (n + n) (lbF n A1 A2) w4 (fun _ => .slice none 0 0) wr f) {j : Nat} (hj : j < w4.heap.size) (h1 : j ≠ A1) (h2 : j ≠ A2) : wr.heap[j]? = w4.heap[j]? :=
  R.block j hj (fun t _ e => by rcases lb_or (n := n) (A1 := A1) (A2 := A2) t with h | h <;> rw [h] at e <;> contradiction) (fun _ _ => by simp [Value.ownBlock])
theorem Fm.kp {w w' : World} {B N : Nat} {lb lo : Nat → Nat} {f : Nat → Value} {L : Nat → List Int} {X : Nat → Prop} (F : Fm w B N lb lo f L) (h : Kp X w w') (h1 : ∀ t, t < N → ¬ X (lb t)) (h2 : ∀ t, t < N → ∀ g, (f t).ownBlock = some g → ¬ X g) : Fm w' B N lb lo f L :=
  ⟨fun t ht => by
    obtain ⟨arr, e1, e2⟩ := F.cell t ht
    exact ⟨arr, (h.block _ (lt_of_block e1) (h1 t ht)).trans e1, e2⟩, F.inj, fun t ht => ownsRow_keep (F.rows t ht) fun g hg => h.block g ((F.rows t ht).lt g hg).2 (h2 t ht g hg), F.apart, F.lo, Nat.le_trans F.le h.size⟩
theorem Fm.ls1 {w : World} {B n A1 A2 K : Nat} {f : Nat → Value} {bs : List Blk} (F : Fm w B (n + n) (lbF n A1 A2) (loF n) f (LV bs n K)) (hn : bs.length = n) (hK : K ≤ 4096) : LsAt w (.slice (some ⟨A1, 0, none⟩) n n) (resIn bs K) := by
  refine ⟨some ⟨A1, 0, none⟩, n, by simp [resIn, hn], fun j l hj => ?_⟩
  have hjn : j < n := by have := get_lt hj; simpa [resIn, hn] using this
  obtain ⟨c, _, hlt⟩ := F.lcell (t := j) (by omega)
  have hl : LV bs n K j = l := by
    unfold resIn at hj
    rw [List.getElem?_map, List.getElem?_range (by omega)] at hj
    simp at hj
    rw [← hj]; unfold LV; rw [if_pos hjn]
  have r := F.rows j (by omega)
  have hll := LV_len bs n K j
  rw [hl] at r hll
  simp only [lbF, loF, if_pos hjn] at c hlt
  exact ⟨A1, 0, f j, rfl, hlt, by rw [Nat.zero_add]; exact c, IntsAt.of_row r (by omega)⟩
theorem Fm.ls2 {w : World} {B n A1 A2 K : Nat} {f : Nat → Value} {bs : List Blk} (F : Fm w B (n + n) (lbF n A1 A2) (loF n) f (LV bs n K)) (hn : bs.length = n) (hK : K ≤ 4096) : LsAt w (.slice (some ⟨A2, 0, none⟩) n n) (resOut bs K) := by
  refine ⟨some ⟨A2, 0, none⟩, n, by simp [resOut, hn], fun j l hj => ?_⟩
  have hjn : j < n := by have := get_lt hj; simpa [resOut, hn] using this
  obtain ⟨c, _, hlt⟩ := F.lcell (t := n + j) (by omega)
  have hno : ¬ n + j < n := by omega
  have hl : LV bs n K (n + j) = l := by
    unfold resOut at hj
    rw [List.getElem?_map, List.getElem?_range (by omega)] at hj
    simp at hj
    rw [← hj]; unfold LV; rw [if_neg hno, show n + j - n = j by omega]
  have r := F.rows (n + j) (by omega)
  have hll := LV_len bs n K (n + j)
  rw [hl] at r hll
  simp only [lbF, loF, if_neg hno, show n + j - n = j by omega] at c hlt
  exact ⟨A2, 0, f (n + j), rfl, hlt, by rw [Nat.zero_add]; exact c, IntsAt.of_row r (by omega)⟩
theorem need_lt {bs : List Blk} {v i : Nat} (h : Need bs v i) : i < bs.length := by
  cases h with
  | use h _ => exact len_of_get h
  | pass h _ _ _ => exact len_of_get h
theorem bhd_lt {bs : List Blk} {v i : Nat} (h : Bhd bs v i) : i < bs.length := by
  obtain ⟨b, j, h1, _⟩ := h
  exact len_of_get h1
section
variable {w : World}
theorem nb_mk {W0 : World} {n a b : Nat} (hb0 : Below w.heap.size w W0) (h4 : W0.heap[w.heap.size]? = some (.cells #[.slice none 0 0] 23 (0, 0))) (h5 : W0.heap[w.heap.size + 1]? = some (.cells #[.slice none 0 0] 23 (0, 0))) (hsz : W0.heap.size = w.heap.size + 1 + 1)
    (h : (a = w.heap.size + 1 + 1 ∧ b = w.heap.size + 1 + 1 + 1) ∨ (a = w.heap.size + 1 + 1 + 1 ∧ b = w.heap.size + 1 + 1)) :
    NB w ((((W0.setCell ⟨w.heap.size, 0, none⟩ (.slice (some ⟨a, 0, none⟩) n n)).setCell ⟨w.heap.size + 1, 0, none⟩ (.slice (some ⟨b, 0, none⟩) n n)).alloc (.cells (reps n (.slice none 0 0)) 34)).alloc (.cells (reps n (.slice none 0 0)) 34)).drew n a b := by
  have h6 := heap_setCell_same W0 w.heap.size 0 (.slice (some ⟨a, 0, none⟩) n n) h4
  have h7 : (W0.setCell ⟨w.heap.size, 0, none⟩ (.slice (some ⟨a, 0, none⟩) n n)).heap[w.heap.size + 1]? = some (.cells #[.slice none 0 0] 23 (0, 0)) := (Below.heap_setCell _ _ _ _ (show w.heap.size + 1 ≠ w.heap.size by omega)).trans h5
  have h8 := heap_setCell_same _ (w.heap.size + 1) 0 (.slice (some ⟨b, 0, none⟩) n n) h7
  have h9 := (Below.heap_setCell (W0.setCell ⟨w.heap.size, 0, none⟩ (.slice (some ⟨a, 0, none⟩) n n)) ⟨w.heap.size + 1, 0, none⟩ (.slice (some ⟨b, 0, none⟩) n n) w.heap.size (show w.heap.size ≠ w.heap.size + 1 by omega)).trans h6
  have hB : Below w.heap.size w ((W0.setCell ⟨w.heap.size, 0, none⟩ (.slice (some ⟨a, 0, none⟩) n n)).setCell ⟨w.heap.size + 1, 0, none⟩ (.slice (some ⟨b, 0, none⟩) n n)) := (hb0.setCell (Nat.le_refl _) _).setCell (show w.heap.size ≤ w.heap.size + 1 by omega) _
  have hs2 : ((W0.setCell ⟨w.heap.size, 0, none⟩ (.slice (some ⟨a, 0, none⟩) n n)).setCell ⟨w.heap.size + 1, 0, none⟩ (.slice (some ⟨b, 0, none⟩) n n)).heap.size = w.heap.size + 1 + 1 := by simp [hsz]
  generalize (W0.setCell ⟨w.heap.size, 0, none⟩ (.slice (some ⟨a, 0, none⟩) n n)).setCell ⟨w.heap.size + 1, 0, none⟩ (.slice (some ⟨b, 0, none⟩) n n) = X at *
  have hk : ∀ j, j < w.heap.size + 1 + 1 → ((X.alloc (.cells (reps n (.slice none 0 0)) 34)).alloc (.cells (reps n (.slice none 0 0)) 34)).heap[j]? = X.heap[j]? := fun j hj => by rw [heap_under _ _ (by simp; omega), heap_under _ _ (by omega)]
  have e1 : ((X.alloc (.cells (reps n (.slice none 0 0)) 34)).alloc (.cells (reps n (.slice none 0 0)) 34)).heap[w.heap.size + 1 + 1]? = some (.cells (reps n (.slice none 0 0)) 34 (0, 0)) := by rw [heap_under _ _ (by simp; omega)]; exact heap_new _ _ hs2.symm
  have e2 : ((X.alloc (.cells (reps n (.slice none 0 0)) 34)).alloc (.cells (reps n (.slice none 0 0)) 34)).heap[w.heap.size + 1 + 1 + 1]? = some (.cells (reps n (.slice none 0 0)) 34 (0, 0)) := heap_new _ _ (by simp [hs2])
  refine ⟨(hk _ (by omega)).trans h9, (hk _ (by omega)).trans h8, ?_, ?_, by omega, by omega, ((hB.alloc hB.size _).alloc (by simp; omega) _).drew⟩
  · rcases h with ⟨rfl, _⟩ | ⟨rfl, _⟩
    · exact e1
    · exact e2
  · rcases h with ⟨_, rfl⟩ | ⟨_, rfl⟩
    · exact e2
    · exact e1
set_option maxHeartbeats 4000000 in
theorem needs_any {v : Value} {bs : List Blk} {K : Nat} (S : Snd bs K) (R : BlksAt w v bs) : Calls Try.prog 22 #[v, .int .i64 K] w fun e w' => (∃ v1 v2, e = .returned (.tuple #[v1, v2]) ∧ LsAt w' v1 (resIn bs K) ∧ LsAt w' v2 (resOut bs K)) ∧ Below w.heap.size w w' := by
  have hl := S.l
  have hv := S.v
  have HR0 := hide R
  obtain ⟨ao, cap, rfl, _⟩ := R
  have HS := hide S
  obtain ⟨n, hn⟩ : ∃ n, bs.length = n := ⟨_, rfl⟩
  have HN := hide hn
  rw [hn] at hl ⊢
  have hb0 : Below w.heap.size w ((w.alloc (.cells #[.slice none 0 0] 23)).alloc (.cells #[.slice none 0 0] 23)) := ((Below.refl _ _).alloc (Nat.le_refl _) _).alloc (by simp) _
  have h4 : ((w.alloc (.cells #[.slice none 0 0] 23)).alloc (.cells #[.slice none 0 0] 23)).heap[w.heap.size]? = some (.cells #[.slice none 0 0] 23 (0, 0)) := by rw [heap_under _ _ (by simp)]; exact heap_new _ _ rfl
  have h5 : ((w.alloc (.cells #[.slice none 0 0] 23)).alloc (.cells #[.slice none 0 0] 23)).heap[w.heap.size + 1]? = some (.cells #[.slice none 0 0] 23 (0, 0)) := heap_new _ _ (by simp)
  have hsz : ((w.alloc (.cells #[.slice none 0 0] 23)).alloc (.cells #[.slice none 0 0] 23)).heap.size = w.heap.size + 1 + 1 := by simp
  have HB0 := hide (And.intro hb0 (And.intro h4 (And.intro h5 hsz)))
  have hn2 : (n : Int) ≤ 512 := by omega
  have hk2 : (K : Int) ≤ 4096 := by omega
  clear hb0 h4 h5 hsz S hn
  go_enter Try.func22, Try.ntmps22
  go_upto_region 1 with (fail)
  generalize (w.alloc (.cells #[.slice none 0 0] 23)).alloc (.cells #[.slice none 0 0] 23) = W0 at *
  go_cut [] from 11 to 16 (fun wq => Hid (∃ A1 A2, NB w wq n A1 A2))
  case first =>
    obtain ⟨hb0, h4, h5, hsz⟩ := HB0.out
    have c4 := cell_of (o := 0) h4 rfl
    have c5 := cell_of (o := 0) h5 rfl
    have z4 := fz_of 0 h4
    have z5 := fz_of 0 h5
    have l4 := lt_of_block h4
    have l5 := lt_of_block h5
    have r1 : ∀ W : World, (Instr.makeSlice 23 (.int .i64 n) (.int .i64 n)).run Try.prog W = .ok (.slice (some ⟨W.heap.size, 0, none⟩) n n) (W.alloc (.cells (reps n (.slice none 0 0)) 34)) := fun W => run_lists W n (by omega)
    clear h4 h5
    go_region
    · go_wp2_with fail
      go_meet
      exact hide ⟨_, _, nb_mk HB0.out.1 HB0.out.2.1 HB0.out.2.2.1 HB0.out.2.2.2 (.inl ⟨rfl, rfl⟩)⟩
    · go_wp2_with fail
      go_meet
      exact hide ⟨_, _, nb_mk HB0.out.1 HB0.out.2.1 HB0.out.2.2.1 HB0.out.2.2.2 (.inr ⟨rfl, rfl⟩)⟩
  case rest =>
    obtain ⟨A1, A2, NB0⟩ := hcut.out
    clear hcut HB0
    revert NB0
    generalize wc = W1
    clear wc
    intro NB0
    have hc1 := comeFrom_any HS.out (HR0.out.below NB0.bel)
    rw [HN.out] at hc1
    have HNB := hide NB0
    clear NB0
    go_wp2_with (first
      | (go_at_call 35; with_reducible refine hc2.mono ?_; rintro e w4 ⟨rfl, V4, hb4⟩; have H4 := hide (And.intro V4 hb4); clear V4 hb4 hc2)
      | (go_at_call 34; with_reducible refine hc1.mono ?_; rintro e w3 ⟨rfl, G3, hb3⟩; have H3 := hide (And.intro G3 hb3); have hc2 := variablesOf_any HS.out (HR0.out.below (HNB.out.bel.trans (hb3.mono HNB.out.bel.size))); rw [HN.out] at hc2; clear G3 hb3 hc1))
    have NB2 := hide (show NB w w4 n A1 A2 ∧ GrA w4 W1.heap.size n (pre bs) ∧ VarA w4 w3.heap.size K bs ∧ W1.heap.size < w3.heap.size ∧ A1 < W1.heap.size ∧ A2 < W1.heap.size ∧ Below W1.heap.size W1 w4 from by
      obtain ⟨G3, hb3⟩ := H3.out
      obtain ⟨V4, hb4⟩ := H4.out
      have N := HNB.out
      have hb : Below W1.heap.size W1 w4 := hb3.trans (hb4.mono hb3.size)
      exact ⟨⟨(hb.block _ (lt_of_block N.i4)).trans N.i4, (hb.block _ (lt_of_block N.i5)).trans N.i5, (hb.block _ (lt_of_block N.a1)).trans N.a1, (hb.block _ (lt_of_block N.a2)).trans N.a2, N.ne, N.lo, N.bel.trans (hb.mono N.bel.size)⟩, G3.below hb4, V4, G3.gl, lt_of_block N.a1, lt_of_block N.a2, hb⟩)
    clear H3 H4 HNB
    generalize hgb : W1.heap.size = gb at *
    generalize hgv : w3.heap.size = gv at *
    clear hgb hgv
    go_loopw [8, 9, 10, 23] (fun _ _ _ i wr => ∃ v : Nat, v ≤ K ∧ i = .int .i64 v ∧ Hid (NLp w.heap.size w4 wr n A1 A2 bs v)) (fun _ _ _ i _ => K - (intOf i).toNat)
    case atStart => exact ⟨0, Nat.zero_le _, rfl, _, NB2.out.1.fm, Fr.refl _ _⟩
    case round =>
      obtain ⟨v, hvK, rfl, HL⟩ := hrel
      obtain ⟨W2, rfl⟩ : ∃ W2, W2 = wr := ⟨wr, rfl⟩
      by_cases hlt : v < K
      · obtain ⟨f, F, R⟩ := HL.out
        obtain ⟨N4, G4, V4, hgg, hA1, hA2, hbW⟩ := NB2.out
        have hgl := G4.gl
        have hvl := V4.gl
        have G5 := G4.kp2 R.size (fr_keep R hgl (by omega) (by omega))
        have V5 := V4.kp R.size (fr_keep R hvl (by omega) (by omega))
        obtain ⟨u0, u1, u2, u3, u4, u5, u6, u7, u8, u9, u10, u11, u12, u13, u14, u15⟩ := V5.cells hlt
        have l5 := V5.gl
        have hbA := (Below.refl W2.heap.size W2).alloc (Nat.le_refl _) (.cells #[.int .i64 v] 3)
        have hneed := needed_any (cap := n) (D := dfm bs v) (pre_sm (bs := bs)) (fun t i h => by rw [← HN.out]; exact bits_of_pre bs HS.out h) (by omega) (fun i h => by rw [← HN.out]; exact bits_of_usm bs HS.out (t := v) h) (G5.below hbA)
        have bv : (v : Int) < (K : Int) := by omega
        rw [show ndL (pre bs) (dfm bs v) 513 (elems (usm bs v)) (0, 0) = nd bs v from rfl] at hneed
        obtain ⟨m1, hm1⟩ : ∃ m1, m1 = (nd bs v).1 := ⟨_, rfl⟩
        obtain ⟨m2, hm2⟩ : ∃ m2, m2 = (nd bs v).2 := ⟨_, rfl⟩
        rw [← hm1, ← hm2] at hneed
        have HM := hide (And.intro hm1 hm2)
        have HFR := hide (And.intro F R)
        have HBA := hide hbA
        clear G5 V5 F R N4 G4 V4 hbA hbW hgg hm1 hm2
        go_upto_region 7 with (go_at_call 36; refine hneed.mono ?_; rintro e w5 ⟨rfl, hb5⟩; have H5 := hide hb5; clear hb5)
        have hB6 : Below (W2.alloc (.cells #[.int .i64 v] 3)).heap.size (W2.alloc (.cells #[.int .i64 v] 3)) ((w5.alloc (.cells (wc m1) 64)).alloc (.cells (wc m2) 64)) := (H5.out.alloc H5.out.size _).alloc (by simp; have := H5.out.size; simp at this; omega) _
        have b9 : BoxS ((w5.alloc (.cells (wc m1) 64)).alloc (.cells (wc m2) 64)) w5.heap.size m1 := by unfold BoxS; rw [heap_under _ _ (by simp)]; exact heap_new _ _ rfl
        have b10 : BoxS ((w5.alloc (.cells (wc m1) 64)).alloc (.cells (wc m2) 64)) (w5.heap.size + 1) m2 := heap_new _ _ (by simp)
        have hs6 : W2.heap.size + 1 ≤ w5.heap.size := by have := H5.out.size; simpa using this
        have hvbx : ((w5.alloc (.cells (wc m1) 64)).alloc (.cells (wc m2) 64)).heap[W2.heap.size]? = some (.cells #[.int .i64 v] 3 (0, 0)) := (hB6.block _ (by simp)).trans (heap_new _ _ rfl)
        clear u0 u1 u2 u3 u4 u5 u6 u7 u8 u9 u10 u11 u12 u13 u14 u15 hneed
        generalize (w5.alloc (.cells (wc m1) 64)).alloc (.cells (wc m2) 64) = W6 at *
        have hB26 : Below W2.heap.size W2 W6 := HBA.out.trans (hB6.mono (by simp))
        have F6 := HFR.out.1.under hB26
        have R6 := HFR.out.2.below hB26
        have hown : ∀ t, t < n + n → ∀ g, (f t).ownBlock = some g → g < W2.heap.size := fun t ht g hg => ((HFR.out.1.rows t ht).lt g hg).2
        have hi4 := NB2.out.1.i4
        have hi5 := NB2.out.1.i5
        have n4 : w.heap.size ≠ A1 ∧ w.heap.size ≠ A2 := ⟨fun e => by have h := NB2.out.1.a1; rw [← e, hi4] at h; simp at h, fun e => by have h := NB2.out.1.a2; rw [← e, hi4] at h; simp at h⟩
        have n5 : w.heap.size + 1 ≠ A1 ∧ w.heap.size + 1 ≠ A2 := ⟨fun e => by have h := NB2.out.1.a1; rw [← e, hi5] at h; simp at h, fun e => by have h := NB2.out.1.a2; rw [← e, hi5] at h; simp at h⟩
        have i46 := (fr_keep R6 (lt_of_block hi4) n4.1 n4.2).trans hi4
        have i56 := (fr_keep R6 (lt_of_block hi5) n5.1 n5.2).trans hi5
        have hlbs : ∀ t, t < n + n → lbF n A1 A2 t < W2.heap.size := fun t ht => (HFR.out.1.lcell ht).2.2
        have hk6 : ∀ {W : World} {f' : Nat → Value}, Fr (n + n) (lbF n A1 A2) W6 f W f' → ∀ j, W2.heap.size ≤ j → j < W6.heap.size → W.heap[j]? = W6.heap[j]? := fun r j h1 h2 => r.block j h2 (fun t ht e => by have := hlbs t ht; omega) (fun t ht e => by have := hown t ht j e; omega)
        have hvo : ∀ {W : World} {f' : Nat → Value}, Fr (n + n) (lbF n A1 A2) W6 f W f' → ∀ t, t < n + n → (f' t).ownBlock ≠ some W2.heap.size := fun r t ht e => by
          have hl6 := lt_of_block hvbx
          rcases r.own t ht _ e with h | h
          · have := hown t ht _ h; omega
          · omega
        have hik : ∀ {W : World} {f' : Nat → Value} {ib A : Nat}, W6.heap[ib]? = some (.cells #[.slice (some ⟨A, 0, none⟩) n n] 23 (0, 0)) → Fr (n + n) (lbF n A1 A2) W6 f W f' → W.heap[ib]? = some (.cells #[.slice (some ⟨A, 0, none⟩) n n] 23 (0, 0)) := fun hh r => (r.block _ (lt_of_block hh) (F6.ne_lb hh (by decide)) (F6.ne_own hh (by decide))).trans hh
        have hm1n : ∀ x, m1.testBit x = true → x < n := fun x hx => by rw [HM.out.1, nd_in HS.out] at hx; rw [← HN.out]; exact need_lt hx
        have hm2n : ∀ x, m2.testBit x = true → x < n := fun x hx => by rw [HM.out.2, nd_out HS.out] at hx; rw [← HN.out]; exact bhd_lt hx
        have he1 := each_in (m := m1) (p1 := w.heap.size) (p2 := W2.heap.size) (J := fun x W => ∃ f', Fm W w.heap.size (n + n) (lbF n A1 A2) (loF n) f' (L1 bs n v m1 x) ∧ Fr (n + n) (lbF n A1 A2) W6 f W f') W6
          (by
            have hb := (Below.refl W6.heap.size W6).alloc (Nat.le_refl _) (.cells (wc m1) 64)
            exact ⟨f, (F6.under hb).congr (fun t _ => L1_zero bs n v m1 t), (Fr.refl W6 f).below hb⟩)
          (by
            rintro x W hx5 hx ⟨f', Fx, Rx⟩
            have hxn := hm1n x hx
            refine (put1_any Fx (t := x) (A := A1) (n := n) (x := (v : Int)) (by omega) (by simp [lbF, hxn]) (by simp [loF, hxn]) hxn (hik i46 Rx) ((hk6 Rx _ (Nat.le_refl _) (lt_of_block hvbx)).trans hvbx) (hvo Rx) (by have := L1_len bs n v m1 x x; omega) (by omega)).mono ?_
            rintro e W' ⟨h1, f2, F2, R2⟩
            exact ⟨h1, f2, F2.congr (fun t _ => L1_step hxn hx t), Rx.trans R2⟩)
          (by
            rintro x W hx ⟨f', Fx, Rx⟩
            exact ⟨f', Fx.congr (fun t _ => L1_skip hx t), Rx⟩)
        have he2 := fun (W7 : World) (f7 : Nat → Value) (F7 : Fm W7 w.heap.size (n + n) (lbF n A1 A2) (loF n) f7 (L1 bs n v m1 512)) (R7 : Fr (n + n) (lbF n A1 A2) W6 f W7 f7) => each_out (m := m2) (p1 := w.heap.size + 1) (p2 := W2.heap.size) (J := fun x W => ∃ f', Fm W w.heap.size (n + n) (lbF n A1 A2) (loF n) f' (L2 bs n v m1 m2 x) ∧ Fr (n + n) (lbF n A1 A2) W6 f W f') W7
          (by
            have hb := (Below.refl W7.heap.size W7).alloc (Nat.le_refl _) (.cells (wc m2) 64)
            exact ⟨f7, (F7.under hb).congr (fun t _ => L2_zero bs n v m1 m2 t), R7.below hb⟩)
          (by
            rintro x W hx5 hx ⟨f', Fx, Rx⟩
            have hxn := hm2n x hx
            refine (put2_any Fx (t := n + x) (A := A2) (b := x) (n := n) (x := (v : Int)) (by omega) (by unfold lbF; rw [if_neg (by omega)]) (by unfold loF; rw [if_neg (by omega)]; omega) hxn (hik i56 Rx) ((hk6 Rx _ (Nat.le_refl _) (lt_of_block hvbx)).trans hvbx) (hvo Rx) (by have := L2_len bs n v m1 m2 x (n + x); omega) (by omega)).mono ?_
            rintro e W' ⟨h1, f2, F2, R2⟩
            exact ⟨h1, f2, F2.congr (fun t _ => L2_step hx t), Rx.trans R2⟩)
          (by
            rintro x W hx ⟨f', Fx, Rx⟩
            exact ⟨f', Fx.congr (fun t _ => L2_skip hx t), Rx⟩)
        have HE1 := hide he1
        have HE2 := hide he2
        have HK6 : Hid (∀ (W : World) (f' : Nat → Value), Fr (n + n) (lbF n A1 A2) W6 f W f' → BoxS W (w5.heap.size + 1) m2) := hide (fun W f' r => b10.keep (hk6 r _ (by omega) b10.lt))
        have HR6 := hide R6
        obtain ⟨a0, a1, a2, a3, a4, a5, a6, a7⟩ := b9.all
        have l9 := b9.lt
        clear he1 he2 hik hk6 hvo hlbs hown i46 i56 n4 n5 hi4 hi5 F6 R6 hB26 hB6 b9 b10 hs6 hvbx hm1n hm2n
        go_wp2_with (first
          | (have kk := h10; clear kk; go_at_call 37; with_reducible refine hce.mono ?_; rintro e w8 ⟨⟨v8, rfl⟩, h8⟩; have H8 := hide h8; clear h8)
          | (go_at_call 37; with_reducible refine HE1.out.mono ?_; rintro e w7 ⟨⟨v7, rfl⟩, f7, F7, R7⟩; have hce := HE2.out w7 f7 F7 R7; have h10 := (HK6.out w7 f7 R7).lt; obtain ⟨b0, b1, b2, b3, b4, b5, b6, b7⟩ := (HK6.out w7 f7 R7).all; clear a0 a1 a2 a3 a4 a5 a6 a7 F7 R7))
        go_roundw
        case rel =>
          obtain ⟨f8, F8, R8⟩ := H8.out
          exact ⟨v + 1, by omega, by go_num, f8, F8.congr (fun t ht => by rw [LV_next (by omega) ht, ← HM.out.1, ← HM.out.2]), HR6.out.trans R8⟩
        case measure => simp [intOf]; omega
      · obtain rfl : v = K := by omega
        obtain ⟨f, F, R⟩ := HL.out
        obtain ⟨N4, G4, V4, hgg, hA1, hA2, hbW⟩ := NB2.out
        have hi4 := N4.i4
        have hi5 := N4.i5
        have n4 : w.heap.size ≠ A1 ∧ w.heap.size ≠ A2 := ⟨fun e => by have h := N4.a1; rw [← e, hi4] at h; simp at h, fun e => by have h := N4.a2; rw [← e, hi4] at h; simp at h⟩
        have n5 : w.heap.size + 1 ≠ A1 ∧ w.heap.size + 1 ≠ A2 := ⟨fun e => by have h := N4.a1; rw [← e, hi5] at h; simp at h, fun e => by have h := N4.a2; rw [← e, hi5] at h; simp at h⟩
        have i4 := (fr_keep R (lt_of_block hi4) n4.1 n4.2).trans hi4
        have i5 := (fr_keep R (lt_of_block hi5) n5.1 n5.2).trans hi5
        have hbel : Below w.heap.size w W2 := ⟨R.os.trans N4.bel.os, R.tape.trans N4.bel.tape, R.output.trans N4.bel.output, Nat.le_trans N4.bel.size R.size, fun j hj => (fr_keep R (Nat.lt_of_lt_of_le hj N4.bel.size) (by have := N4.lo; omega) (by have := N4.lo; omega)).trans (N4.bel.block j hj)⟩
        have c4 := cell_of (o := 0) i4 rfl
        have c5 := cell_of (o := 0) i5 rfl
        have z4 := fz_of 0 i4
        have z5 := fz_of 0 i5
        have l4 := lt_of_block i4
        have l5 := lt_of_block i5
        have HX := hide (fun (W : World) (hk : Kp (fun j => j = w.heap.size ∨ j = w.heap.size + 1) W2 W) => show (LsAt W (.slice (some ⟨A1, 0, none⟩) n n) (resIn bs v) ∧ LsAt W (.slice (some ⟨A2, 0, none⟩) n n) (resOut bs v)) ∧ Below w.heap.size w W from by
          have F2 := F.kp hk (fun t ht h => by
            rcases h with h | h
            · exact F.ne_lb i4 (by decide) t ht h.symm
            · exact F.ne_lb i5 (by decide) t ht h.symm) (fun t ht g hg h => by
            rcases h with h | h
            · exact F.ne_own i4 (by decide) t ht (by rw [hg, h])
            · exact F.ne_own i5 (by decide) t ht (by rw [hg, h]))
          exact ⟨⟨F2.ls1 HN.out (by omega), F2.ls2 HN.out (by omega)⟩, hk.below (Nat.le_refl _) hbel (fun j hj => by omega)⟩)
        have HI := hide (And.intro i4 i5)
        have hne45 : w.heap.size + 1 ≠ w.heap.size := by omega
        clear F R N4 G4 V4 hgg hA1 hA2 hbW hi4 hi5 n4 n5 hbel HL i4 i5
        go_wp2_with fail
        have hf4 : ((W2.setCell ⟨w.heap.size, 0, none⟩ (.slice (some ⟨A1, 0, none⟩) n n)).setCell ⟨w.heap.size + 1, 0, none⟩ (.slice (some ⟨A2, 0, none⟩) n n)).drew.cell? ⟨w.heap.size, 0, none⟩ = some (.slice (some ⟨A1, 0, none⟩) n n) ∧ ((W2.setCell ⟨w.heap.size, 0, none⟩ (.slice (some ⟨A1, 0, none⟩) n n)).setCell ⟨w.heap.size + 1, 0, none⟩ (.slice (some ⟨A2, 0, none⟩) n n)).drew.cell? ⟨w.heap.size + 1, 0, none⟩ = some (.slice (some ⟨A2, 0, none⟩) n n) := by
          have e4 := heap_setCell_same W2 w.heap.size 0 (.slice (some ⟨A1, 0, none⟩) n n) HI.out.1
          have e5 : (W2.setCell ⟨w.heap.size, 0, none⟩ (.slice (some ⟨A1, 0, none⟩) n n)).heap[w.heap.size + 1]? = some (.cells #[.slice (some ⟨A2, 0, none⟩) n n] 23 (0, 0)) := (Below.heap_setCell _ _ _ _ hne45).trans HI.out.2
          exact ⟨cell_of ((Below.heap_setCell _ _ _ _ hne45.symm).trans e4) rfl, cell_of (heap_setCell_same _ (w.heap.size + 1) 0 (.slice (some ⟨A2, 0, none⟩) n n) e5) rfl⟩
        have HF := hide (HX.out ((W2.setCell ⟨w.heap.size, 0, none⟩ (.slice (some ⟨A1, 0, none⟩) n n)).setCell ⟨w.heap.size + 1, 0, none⟩ (.slice (some ⟨A2, 0, none⟩) n n)).drew (((Kp.setCell _ _ _).mono (fun j hj => .inl hj)).trans ((Kp.setCell _ _ _).mono (fun j hj => .inr hj))).drew)
        have HF4 := hide hf4
        clear hf4
        go_region
        obtain ⟨y4, y5⟩ := HF4.out
        clear c4 c5 z4 z5
        generalize ((W2.setCell ⟨w.heap.size, 0, none⟩ (.slice (some ⟨A1, 0, none⟩) n n)).setCell ⟨w.heap.size + 1, 0, none⟩ (.slice (some ⟨A2, 0, none⟩) n n)).drew = W9 at *
        go_wp2_with fail
        refine bodyPost_ret (by simp [results, Try.results22, go_sem, y4, y5]; try rfl) rfl ?_
        exact ⟨⟨_, _, rfl, HF.out.1⟩, HF.out.2⟩
end
end Go.Proofs.Ytaejhppfcmeopaa
