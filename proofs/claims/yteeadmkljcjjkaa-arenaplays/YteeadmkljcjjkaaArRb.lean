/- The document's Get, and its copy. -/
import Derived.Test.YteeadmkljcjjkaaArRa
namespace Go.Proofs.Yteeadmkljcjjkaa
open Go.RowKit Go.Maps

section
variable {B : Nat} {r : Rs} {vp vs : Value} {w : World}
theorem rget_any (x : Int) (R : RL B w r vp vs) (hin : ∀ j, FindR r.ps x (some j) → ∃ m : Nat, x = m ∧ m < r.st.length) :
    Calls Try.prog 18 #[rv r vp vs, .int .i64 x] w fun e w' => ((FindR r.ps x none ∧ e = two (0, 6)) ∨ ∃ (j m : Nat) (v : Int), FindR r.ps x (some j) ∧ x = m ∧ r.st[m]? = some v ∧ e = two (v, 0)) ∧ Below w.heap.size w w' := by
  obtain ⟨ao, cp, hs⟩ := R.sform
  obtain ⟨W1, hW1⟩ : ∃ W1, w.alloc (.cells #[.int .i64 r.wd, .int .i64 r.ln, vp, .int .i64 r.fd, vs] 31) = W1 := ⟨_, rfl⟩
  have R1 := hide (show RL B W1 r vp vs by rw [← hW1]; exact R.alloc _)
  have HB := hide (show Below w.heap.size w W1 by rw [← hW1]; exact (Below.refl _ _).alloc (Nat.le_refl _) _)
  have cc : W1.cell? ⟨w.heap.size, 4, none⟩ = some vs := by rw [← hW1]; simp
  have zz : W1.heap.size = w.heap.size + 1 := by rw [← hW1]; simp
  have ha := rfind_any (w := W1) x R1.out
  have hbs := R.bs
  have HS := hide hs
  have HIN := hide hin
  clear R hs hin
  subst hW1
  go_enter Try.func18, Try.ntmps18
  go_wp2_with fail
  refine ha.mono ?_
  rintro e w1 ⟨ho, hb⟩
  have cc1 : w1.cell? ⟨w.heap.size, 4, none⟩ = some vs := by rw [hb.cell (p := ⟨w.heap.size, 4, none⟩) (by show w.heap.size < _; rw [zz]; omega)]; exact cc
  have R2 := hide (R1.out.below hb)
  have HB2 := hide (HB.out.trans (hb.mono (by omega)))
  clear hb ha R1 HB cc zz
  rcases ho with ⟨ho, rfl⟩ | ⟨j, p, ho, hp, rfl⟩
  · have HO := hide ho
    clear ho
    go_wp2
    go_ret2
    exact ⟨.inl ⟨HO.out, rfl⟩, HB2.out⟩
  · have HO := hide ho
    obtain ⟨m, hx, hm⟩ := HIN.out j ho
    obtain ⟨v, hv⟩ : ∃ v, r.st[m]? = some v := ⟨r.st[m], by simp⟩
    obtain ⟨g, cap, hvs, hcell, _, _⟩ := row_cell R2.out.sto (ints_get hv)
    rw [hvs] at cc1
    have HV := hide hv
    subst hx
    have bm : (m : Int) < (r.st.length : Int) := by omega
    clear hvs hv ho hp
    generalize r.st.length = l at *
    go_wp2
    go_ret2
    exact ⟨.inr ⟨j, m, v, HO.out, rfl, HV.out, rfl⟩, HB2.out⟩
/-- A list that is appended to an empty one of one's own is a copy. -/
theorem run_copy {W : World} {b : Nat} (t e : TypeId) (i : TypeInfo) (z : Value) (size bytes : Nat) (ht : Try.prog.underlying t = some (.slice e)) (hi : Try.prog.info? e = some i) (hz : i.zero = some z) (hsize : i.size = size) (hby : i.bytes = bytes) (hzs : z.cells.size = size) (hsz : 0 < size) (hbig : bytes ≤ 32)
    {v : Value} {n : Nat} {xs : List Value} (h0 : W.heap[b]? = some (.cells #[] e (0, 0))) (hown : W.ownsRow B e size v n xs) (h1 : ∀ u ∈ xs, u.oneCell' = true) (hn : n ≤ 70000) :
    ∃ v' w', (Builtin.append_ #[t, t] t #[.slice (some ⟨b, 0, none⟩) 0 0, v]).run Try.prog W = .ok v' w' ∧ w'.ownsRow b e size v' n xs ∧ W.grownBy w' (some b) ∧ (v'.ownBlock = some b ∨ v'.ownBlock = some W.heap.size) := by
  have hlt := lt_of_block h0
  have hemp : W.ownsRow b e size (.slice (some ⟨b, 0, none⟩) 0 0) 0 [] := ⟨by simp, .inr ⟨b, 0, #[], rfl, Nat.le_refl _, h0, Nat.le_refl _, by decide, by simp, by simp⟩⟩
  rcases hown.2 with ⟨rfl, rfl⟩ | ⟨g, cap, cur, rfl, hb, hg, hcap, _, hcs, htk⟩
  · refine ⟨_, W, run_append_owned_none W b t t e i size ht hi _ _ _ hemp, ?_, ⟨rfl, rfl, rfl, Nat.le_refl _, fun _ _ _ => rfl⟩, .inl rfl⟩
    have : xs = [] := List.eq_nil_of_length_eq_zero (by rw [hown.1]; simp)
    rw [this]; exact hemp
  · have hnews : ∀ j u, xs[j]? = some u → W.cell? ((⟨g, 0, none⟩ : Addr).add j) = some u := by
      intro j u hj
      rw [← htk] at hj
      have hj' : cur[j]? = some u := by
        rw [List.getElem?_take] at hj
        split at hj
        · simpa using hj
        · cases hj
      have ha : (⟨g, 0, none⟩ : Addr).add j = ⟨g, j, none⟩ := by cases j <;> simp [Addr.add]
      rw [ha]; simp [World.cell?, hg, hj']
    obtain ⟨v', w', hr, ho, hgr, _, hat⟩ := run_append_own_at (P := Try.prog) W b t t e i z size bytes ht hi hz hsize hby hzs hsz _ 0 [] hemp ⟨g, 0, none⟩ n cap xs hown.1 hnews h1 (by unfold maxLen; omega) (by
      have : (0 + n) * bytes ≤ 70000 * 32 := Nat.mul_le_mul (by omega) hbig
      omega) (by omega)
    exact ⟨v', w', hr, by simpa using ho, hgr, hat⟩
theorem six_cells (w6 : World) (b j : Nat) (v0 v1 v2 v3 v4 v5 : Value) (h1 : j ≠ b) (h2 : j ≠ b + 1) :
    ((((((w6.setCell ⟨b, 4, none⟩ v0).setCell ⟨b + 1, 0, none⟩ v1).setCell ⟨b + 1, 1, none⟩ v2).setCell ⟨b + 1, 2, none⟩ v3).setCell ⟨b + 1, 3, none⟩ v4).setCell ⟨b + 1, 4, none⟩ v5).heap[j]? = w6.heap[j]? := by
  rw [Below.heap_setCell _ _ _ _ h2, Below.heap_setCell _ _ _ _ h2, Below.heap_setCell _ _ _ _ h2, Below.heap_setCell _ _ _ _ h2, Below.heap_setCell _ _ _ _ h2, Below.heap_setCell _ _ _ _ h1]
theorem owns_form {e : TypeId} {size n : Nat} {v : Value} {xs : List Value} (h : w.ownsRow B e size v n xs) : ∃ ao cap, v = .slice ao n cap := by
  rcases h.2 with ⟨h1, h0⟩ | ⟨g, cap, cur, h1, _⟩
  · exact ⟨none, 0, by rw [h0]; exact h1⟩
  · exact ⟨_, cap, h1⟩
set_option maxHeartbeats 1000000 in
/-- The document's copy of an arena. -/
theorem rcopied_any (R : RL B w r vp vs) :
    Calls Try.prog 32 #[rv r vp vs] w fun e w' => ∃ vp' vs', e = .returned (rv r vp' vs') ∧ RL w.heap.size w' r vp' vs' ∧ Below w.heap.size w w' := by
  obtain ⟨aop0, cpp0, rfl⟩ := R.pform
  obtain ⟨aos0, cps0, rfl⟩ := R.sform
  obtain ⟨W3, hW3⟩ : ∃ W3, ((w.alloc (.cells #[.int .i64 r.wd, .int .i64 r.ln, .slice aop0 r.ps.length cpp0, .int .i64 r.fd, .slice aos0 r.st.length cps0] 31)).alloc (.cells #[.int .i64 0, .int .i64 0, .slice none 0 0, .int .i64 0, .slice none 0 0] 31)).alloc (.cells #[] 66) = W3 := ⟨_, rfl⟩
  have z3 : W3.heap.size = w.heap.size + 1 + 1 + 1 := by rw [← hW3]; simp
  have b3 : Below w.heap.size w W3 := by rw [← hW3]; exact (((Below.refl _ _).alloc (Nat.le_refl _) _).alloc (by simp) _).alloc (by simp; omega) _
  have R3 := R.below b3
  have n3 : W3.heap[w.heap.size + 1 + 1]? = some (.cells #[] 66 (0, 0)) := by rw [← hW3, heap_new _ _ (by simp)]
  obtain ⟨ip, hip, hp0, hp1, hp2⟩ := info_parts Try.info66
  obtain ⟨ii, hii, hi0, hi1, hi2⟩ := info_parts Try.info3
  obtain ⟨vp', w4, r4, o4, g4, at4⟩ := run_copy 28 66 ip _ 4 32 Try.underlying28 hip hp0 hp1 hp2 rfl (by decide) (by decide) n3 R3.pcs (rcells_one _) (by have := R.bp; omega)
  obtain ⟨aop, cpp, rfl⟩ := owns_form o4
  have zz4 := g4.size
  have k4 : ∀ j, j < W3.heap.size → j ≠ w.heap.size + 1 + 1 → w4.heap[j]? = W3.heap[j]? := fun j hj hn => g4.block j hj (fun e => hn (by simpa using e))
  have box3 : W3.heap[w.heap.size]? = some (.cells #[.int .i64 r.wd, .int .i64 r.ln, .slice aop0 r.ps.length cpp0, .int .i64 r.fd, .slice aos0 r.st.length cps0] 31 (0, 0)) := by
    rw [← hW3, Below.heap_alloc _ _ _ (by simp; omega), Below.heap_alloc _ _ _ (by simp), heap_new _ _ rfl]
  have box4 : w4.heap[w.heap.size]? = some (.cells #[.int .i64 r.wd, .int .i64 r.ln, .slice aop0 r.ps.length cpp0, .int .i64 r.fd, .slice aos0 r.st.length cps0] 31 (0, 0)) := (k4 _ (by omega) (by omega)).trans box3
  have res3 : W3.heap[w.heap.size + 1]? = some (.cells #[.int .i64 0, .int .i64 0, .slice none 0 0, .int .i64 0, .slice none 0 0] 31 (0, 0)) := by
    rw [← hW3, Below.heap_alloc _ _ _ (by simp), heap_new _ _ (by simp)]
  have res4 := (k4 (w.heap.size + 1) (by omega) (by omega)).trans res3
  -- the store of the pieces, then the words
  obtain ⟨W5, hW5⟩ : ∃ W5, (w4.setCell ⟨w.heap.size, 2, none⟩ (.slice aop r.ps.length cpp)).alloc (.cells #[] 3) = W5 := ⟨_, rfl⟩
  have z5 : W5.heap.size = w4.heap.size + 1 := by rw [← hW5]; simp
  have k5 : ∀ j, j < w4.heap.size → j ≠ w.heap.size → W5.heap[j]? = w4.heap[j]? := fun j hj hn => by rw [← hW5, Below.heap_alloc _ _ _ (by simpa using hj), Below.heap_setCell _ _ _ _ hn]
  have n5 : W5.heap[w4.heap.size]? = some (.cells #[] 3 (0, 0)) := by rw [← hW5, heap_new _ _ (by simp)]
  have s5 : W5.ownsRow B 3 1 (.slice aos0 r.st.length cps0) r.st.length (ints r.st) := ownsRow_keep R.sto fun g hg => by
    have hl := (R.sto.lt g hg).2
    rw [k5 g (by omega) (by omega), k4 g (by omega) (by omega)]; exact b3.block g hl
  obtain ⟨vs', w6, r6, o6, g6, at6⟩ := run_copy 29 3 ii _ 1 8 Try.underlying29 hii hi0 hi1 hi2 rfl (by decide) (by decide) n5 s5 (ints_one _) (by have := R.bs; omega)
  obtain ⟨aos, cps, rfl⟩ := owns_form o6
  have zz6 := g6.size
  have k6 : ∀ j, j < W5.heap.size → j ≠ w4.heap.size → w6.heap[j]? = W5.heap[j]? := fun j hj hn => g6.block j hj (fun e => hn (by simpa using e))
  have box5 : W5.heap[w.heap.size]? = some (.cells #[.int .i64 r.wd, .int .i64 r.ln, (.slice aop r.ps.length cpp), .int .i64 r.fd, .slice aos0 r.st.length cps0] 31 (0, 0)) := by
    rw [← hW5, Below.heap_alloc _ _ _ (by simp; omega), heap_setCell_same w4 _ 2 _ box4]; rfl
  have box6 := (k6 _ (by omega) (by omega)).trans box5
  have res6 := (k6 (w.heap.size + 1) (by omega) (by omega)).trans ((k5 (w.heap.size + 1) (by omega) (by omega)).trans res4)
  have c42 : w4.cell? ⟨w.heap.size, 2, none⟩ = some (.slice aop0 r.ps.length cpp0) := by simp [World.cell?, box4]
  have c44 : w4.cell? ⟨w.heap.size, 4, none⟩ = some (.slice aos0 r.st.length cps0) := by simp [World.cell?, box4]
  have f42 : w4.frozen? ⟨w.heap.size, 2, none⟩ = false := by simp [World.frozen?, box4]
  have c60 : w6.cell? ⟨w.heap.size, 0, none⟩ = some (.int .i64 r.wd) := by simp [World.cell?, box6]
  have c61 : w6.cell? ⟨w.heap.size, 1, none⟩ = some (.int .i64 r.ln) := by simp [World.cell?, box6]
  have c62 : w6.cell? ⟨w.heap.size, 2, none⟩ = some (.slice aop r.ps.length cpp) := by simp [World.cell?, box6]
  have c63 : w6.cell? ⟨w.heap.size, 3, none⟩ = some (.int .i64 r.fd) := by simp [World.cell?, box6]
  have c64 : w6.cell? ⟨w.heap.size, 4, none⟩ = some (.slice aos0 r.st.length cps0) := by simp [World.cell?, box6]
  have f64 : w6.frozen? ⟨w.heap.size, 4, none⟩ = false := by simp [World.frozen?, box6]
  have d60 : w6.cell? ⟨w.heap.size + 1, 0, none⟩ = some (.int .i64 0) := by simp [World.cell?, res6]
  have d61 : w6.cell? ⟨w.heap.size + 1, 1, none⟩ = some (.int .i64 0) := by simp [World.cell?, res6]
  have d62 : w6.cell? ⟨w.heap.size + 1, 2, none⟩ = some (.slice none 0 0) := by simp [World.cell?, res6]
  have d63 : w6.cell? ⟨w.heap.size + 1, 3, none⟩ = some (.int .i64 0) := by simp [World.cell?, res6]
  have d64 : w6.cell? ⟨w.heap.size + 1, 4, none⟩ = some (.slice none 0 0) := by simp [World.cell?, res6]
  have df : ∀ o, w6.frozen? ⟨w.heap.size + 1, o, none⟩ = false := fun o => by simp [World.frozen?, res6]
  have df0 := df 0
  have df1 := df 1
  have df2 := df 2
  have df3 := df 3
  have df4 := df 4
  have hne : ¬ w.heap.size + 1 = w.heap.size := by omega
  -- what is kept for the end
  have HP := hide (show w6.ownsRow w.heap.size 66 4 (.slice aop r.ps.length cpp) r.ps.length (rcells r.ps) by
    have hg : ∀ g, (Value.slice aop r.ps.length cpp).ownBlock = some g → w.heap.size ≤ g ∧ g < w4.heap.size ∧ g ≠ w.heap.size := fun g hg => by
      have := o4.lt g hg
      exact ⟨by omega, this.2, by omega⟩
    have h1 : w6.ownsRow (w.heap.size + 1 + 1) 66 4 (.slice aop r.ps.length cpp) r.ps.length (rcells r.ps) := ownsRow_keep o4 fun g hgg => by
      obtain ⟨a, b, c⟩ := hg g hgg
      rw [k6 g (by omega) (by omega), k5 g b c]
    exact ⟨h1.1, h1.2.imp id (fun ⟨g, cap, cur, e, hb, rest⟩ => ⟨g, cap, cur, e, by omega, rest⟩)⟩)
  have HS := hide (show w6.ownsRow w.heap.size 3 1 (.slice aos r.st.length cps) r.st.length (ints r.st) from ⟨o6.1, o6.2.imp id (fun ⟨g, cap, cur, e, hb, rest⟩ => ⟨g, cap, cur, e, by omega, rest⟩)⟩)
  have HG := hide (show (∀ g, (Value.slice aop r.ps.length cpp).ownBlock = some g → w.heap.size + 1 < g) ∧ (∀ g, (Value.slice aos r.st.length cps).ownBlock = some g → w.heap.size + 1 < g) from ⟨fun g hg => by have := (o4.lt g hg).1; omega, fun g hg => by have := (o6.lt g hg).1; omega⟩)
  have HB := hide (show Below w.heap.size w w6 from ⟨by rw [g6.os, ← hW5]; show w4.os = _; rw [g4.os]; exact b3.os, by rw [g6.tape, ← hW5]; show w4.tape = _; rw [g4.tape]; exact b3.tape, by rw [g6.output, ← hW5]; show w4.output = _; rw [g4.output]; exact b3.output, by omega, fun j hj => by rw [k6 j (by omega) (by omega), k5 j (by omega) (by omega), k4 j (by omega) (by omega)]; exact b3.block j hj⟩)
  have h4 : w.heap.size < w4.heap.size := by omega
  have HR := hide R
  have HZ := hide (show w.heap.size ≤ w6.heap.size by omega)
  clear R R3 b3 n3 n5 s5 o4 o6 at4 at6 k4 k5 k6 box3 box4 box5 box6 res3 res4 res6 hip hp0 hp1 hp2 hii hi0 hi1 hi2 df g4 g6 z3 z5 zz4 zz6
  subst hW3
  subst hW5
  go_enter Try.func32, Try.ntmps32
  go_wp2_with (at_builtin; first | (refine wpList_append_eq rfl _ _ 28 rfl rfl rfl r4 ?_; clear r4) | (refine wpList_append_eq rfl _ _ 29 rfl rfl rfl r6 ?_; clear r6))
  refine bodyPost_ret (v := rv r (.slice aop r.ps.length cpp) (.slice aos r.st.length cps)) ?_ rfl ⟨_, _, rfl, ?_, ?_⟩
  · simp [results, Try.results32, go_sem, d60, d61, d62, d63, d64]
  · have kf := fun j (h1 : j ≠ w.heap.size) (h2 : j ≠ w.heap.size + 1) => six_cells w6 w.heap.size j (.slice aos r.st.length cps) (.int .i64 r.wd) (.int .i64 r.ln) (.slice aop r.ps.length cpp) (.int .i64 r.fd) (.slice aos r.st.length cps) h1 h2
    refine ⟨ownsRow_keep HP.out fun g hg => kf g (by have := HG.out.1 g hg; omega) (by have := HG.out.1 g hg; omega), ownsRow_keep HS.out fun g hg => kf g (by have := HG.out.2 g hg; omega) (by have := HG.out.2 g hg; omega), HR.out.bw, HR.out.bl, HR.out.bp, HR.out.bs, HR.out.bf, HR.out.ba, by simp; exact HZ.out⟩
  · have hz := HZ.out
    exact (((((HB.out.setCell (Nat.le_refl _) _).setCell (Nat.le_succ _) _).setCell (Nat.le_succ _) _).setCell (Nat.le_succ _) _).setCell (Nat.le_succ _) _).setCell (Nat.le_succ _) _
end
end Go.Proofs.Yteeadmkljcjjkaa
