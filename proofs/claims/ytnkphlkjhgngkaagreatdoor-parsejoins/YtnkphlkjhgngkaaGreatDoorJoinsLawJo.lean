/- ParseJoins: the law's walk. -/
import Derived.Test.YtnkphlkjhgngkaaGreatDoorLawJJo
namespace Go.Proofs.YtnkphlkjhgngkaaGreatDoor
open Go.RowKit
attribute [local go_sem ↓] Go.wp_at_zero Go.wp_at_succ

theorem ne_own {v v1 : Value} {n k : Nat} (hat : v.ownBlock = v1.ownBlock ∨ v.ownBlock = some n) (h1 : v1.ownBlock ≠ some k) (h2 : n ≠ k) : v.ownBlock ≠ some k := by
  rcases hat with h | h
  · rw [h]; exact h1
  · rw [h]; intro e; cases e; exact h2 rfl
theorem own_some (b o n c : Nat) : (Value.slice (some ⟨b, o, none⟩) n c).ownBlock = some b := rfl
theorem own_ne {b k o n c : Nat} (h : b ≠ k) : (Value.slice (some ⟨b, o, none⟩) n c).ownBlock ≠ some k := by
  rw [own_some]; intro e; cases e; exact h rfl
set_option maxRecDepth 20000 in
set_option maxHeartbeats 8000000 in
theorem joins_any (s t : ByteArray) (hs : s.size ≤ maxLen) (ht : t.size ≤ maxLen) (w : World) (hG : Gl w) : Calls Tryz.prog 6 #[.string s, .string t] w fun e w' => e = .returned (.bool true) ∧ Below w.heap.size w w' := by
  have ls : s.data.toList.length = s.size := by simp
  have lt : t.data.toList.length = t.size := by simp
  have H1 : Hid ((parseQ s.data.toList).2.2 = 0 → parseP s.data.toList = (some (parseQ s.data.toList).1, 0, 0)) := fun h => parseQ_ok h
  have H2 : Hid ((parseQ t.data.toList).2.2 = 0 → parseP t.data.toList = (some (parseQ t.data.toList).1, 0, 0)) := fun h => parseQ_ok h
  have c1 := parseQ_any s hs w hG
  have hG0 := hG
  have c2 := fun W (h : Gl W) => parseQ_any t ht W h
  generalize (parseQ s.data.toList).2.2 = e1 at *
  generalize (parseQ s.data.toList).2.1 = a1 at *
  generalize (parseQ s.data.toList).1 = N at *
  generalize (parseQ t.data.toList).2.2 = e2 at *
  generalize (parseQ t.data.toList).2.1 = a2 at *
  generalize (parseQ t.data.toList).1 = M at *
  unfold maxLen at hs ht
  go_enter Tryz.func6, Tryz.ntmps6
  go_wp2_with fail
  refine c1.mono ?_
  rintro e w1 ⟨hb1, an, cn, rfl, kN1⟩
  clear c1
  have hz1 := hb1.size
  have bn2 := Bt.new w1 N an N.kids.length cn
  have hb2 := (Below.refl w1.heap.size w1).alloc (Nat.le_refl _) (.cells #[.int .i64 N.kind, .string ⟨N.text.toArray⟩, .int .i64 N.num, .slice an N.kids.length cn] 24)
  have hz2 := hb2.size
  have kN2 := kN1.below (fun b hb => hb.2) hb2
  have hB2 := hb1.trans (hb2.mono hz1)
  have c3 := c2 _ (hG.later hB2)
  clear c2 kN1
  go_wp2_with fail
  refine c3.mono ?_
  rintro e w3 ⟨hb3, am, cm, rfl, kM3⟩
  clear c3
  have hz3 := hb3.size
  have bn3 := bn2.below hb3 (Nat.le_refl _)
  have kN3 := kN2.below (fun b hb => Nat.lt_of_lt_of_le hb.2 hz2) hb3
  have hB3 := hB2.trans (hb3.mono hB2.size)
  have bm4 := Bt.new w3 M am M.kids.length cm
  have hb4 := (Below.refl w3.heap.size w3).alloc (Nat.le_refl _) (.cells #[.int .i64 M.kind, .string ⟨M.text.toArray⟩, .int .i64 M.num, .slice am M.kids.length cm] 24)
  have hz4 := hb4.size
  have bn4 := bn3.below hb4 (Nat.le_refl _)
  have kN4 := kN3.below (fun b hb => Nat.lt_of_lt_of_le hb.2 (Nat.le_trans hz2 hz3)) hb4
  have kM4 := kM3.below (fun b hb => hb.2) hb4
  have hB4 := hB3.trans (hb4.mono hB3.size)
  have hSN : ∀ b, Rg w.heap.size w1.heap.size b → b < w3.heap.size := fun b hb => Nat.lt_of_lt_of_le hb.2 (Nat.le_trans hz2 hz3)
  clear bn2 bn3 kN2 kN3 kM3
  go_wp2_with fail
  refine (awake_any _ (hG.later hB4)).mono ?_
  rintro e w5 ⟨rfl, hb5⟩
  have hz5 := hb5.size
  have bn5 := bn4.below hb5 (Nat.le_refl _)
  have bm5 := bm4.below hb5 (Nat.le_refl _)
  have kN5 := kN4.below (fun b hb => Nat.lt_of_lt_of_le (hSN b hb) hz4) hb5
  have kM5 := kM4.below (fun b hb => Nat.lt_of_lt_of_le hb.2 hz4) hb5
  have hB5 := hB4.trans (hb5.mono hB4.size)
  have hS3 : w3.heap.size + 1 ≤ w5.heap.size := by have := hz5; simp at this; exact this
  clear bn4 bm4 kN4 kM4 hb1 hb2 hb3 hb4 hb5 hz1 hz4 hz5
  have awk := awake_any w5 (hG.later hB5)
  by_cases he1 : e1 = 0
  · by_cases he2 : e2 = 0
    · by_cases hl : (s.size : Int) ≥ 65536 - t.size
      · have n1 : (e1 != 0) = false := by simpa using he1
        have n2 : (e2 != 0) = false := by simpa using he2
        have hd : decide ((s.size : Int) ≥ 65536 - t.size) = true := by simpa using hl
        clear he1 he2
        go_wp2_with fail
        refine awk.mono ?_
        rintro e w6 ⟨rfl, hb6⟩
        go_wp2
        go_ret
        exact ⟨rfl, hB5.trans (hb6.mono hB5.size)⟩
      · have P1 := Lib.hid (H1.out he1)
        have P2 := Lib.hid (H2.out he2)
        have n1 : (e1 != 0) = false := by simpa using he1
        have n2 : (e2 != 0) = false := by simpa using he2
        have hd : decide ((s.size : Int) ≥ 65536 - t.size) = false := by simpa using hl
        have hl2 : s.size + 1 + t.size ≤ 65536 := by omega
        have c6 := parse_any (s ++ ⟨#[10]⟩ ++ t) (by rw [ByteArray.size_append, ByteArray.size_append]; unfold maxLen; have : (ByteArray.mk #[10]).size = 1 := rfl; omega) w5 (hG.later hB5)
        have el : (s ++ ⟨#[10]⟩ ++ t).data.toList = s.data.toList ++ 10 :: t.data.toList := by simp only [toL_append]; rw [List.append_assoc]; rfl
        rw [el] at c6
        have hj := parse_join P1.out P2.out (by omega)
        clear el he1 he2 hl ls lt awk
        rcases hj with ⟨a6, hj⟩ | hj
        · rw [hj] at c6
          go_wp2_with fail
          refine c6.mono ?_
          rintro e w6 ⟨hb6, rfl⟩
          clear c6
          go_wp2
          go_ret
          exact ⟨rfl, hB5.trans ((hb6.mono hB5.size).trans ((Below.refl _ _).alloc (Nat.le_trans hB5.size hb6.size) _))⟩
        · obtain ⟨J, hJ⟩ : ∃ J, Tr.mk 1 [] 0 (N.kids ++ M.kids) = J := ⟨_, rfl⟩
          rw [hJ] at hj
          rw [hj] at c6
          have HJ := Lib.hid hJ
          clear hJ
          obtain ⟨_, sN, _, _, _⟩ := parseP_some P1.out
          obtain ⟨_, sM, _, _, _⟩ := parseP_some P2.out
          obtain ⟨_, sJ, _, _, _⟩ := parseP_some hj
          have lN : N.kids.length ≤ 20000 := (lim_of_small sN).1
          have lM : M.kids.length ≤ 20000 := (lim_of_small sM).1
          have LJ := lim_of_small sJ
          clear hj sN sM sJ
          go_wp2_with fail
          refine c6.mono ?_
          rintro e w6 ⟨hb6, sl6, rfl, kJ6⟩
          clear c6
          obtain ⟨aj, cj, rfl⟩ := (Lst.kids kJ6).slice
          have hz6 := hb6.size
          have bn6 := bn5.below hb6 (Nat.le_refl _)
          have bm6 := bm5.below hb6 (Nat.le_refl _)
          have kN6 := kN5.below (fun b hb => by have := hSN b hb; omega) hb6
          have kM6 := kM5.below (fun b hb => by have := hb.2; omega) hb6
          have hB6 := hB5.trans (hb6.mono hB5.size)
          obtain ⟨w7, hw7⟩ : ∃ W, w6.alloc (.cells #[.int .i64 J.kind, .string ⟨J.text.toArray⟩, .int .i64 J.num, .slice aj J.kids.length cj] 24) = W := ⟨_, rfl⟩
          have hb7 : Below w6.heap.size w6 w7 := hw7 ▸ (Below.refl _ _).alloc (Nat.le_refl _) _
          have bj7 : Bt w7 w6.heap.size J aj J.kids.length cj := by rw [← hw7]; exact Bt.new w6 J aj _ cj
          have hz7 := hb7.size
          have bn7 := bn6.below hb7 (Nat.le_refl _)
          have bm7 := bm6.below hb7 (Nat.le_refl _)
          have kN7 := kN6.below (fun b hb => by have := hSN b hb; omega) hb7
          have kM7 := kM6.below (fun b hb => by have := hb.2; omega) hb7
          have kJ7 := kJ6.below (fun b hb => hb.2) hb7
          have hB7 := hB6.trans (hb7.mono hB6.size)
          have lw7 : w6.heap.size < w7.heap.size := bj7.lt
          clear bn5 bm5 kN5 kM5 bn6 bm6 kN6 kM6 kJ6 hb6 hb7
          have lN7 : Lst w7 (fun b => b < w7.heap.size) N.kids (.slice an N.kids.length cn) := (Lst.kids kN7).fr (Fr.refl _ _) (fun b hb => by have := hSN b hb; omega)
          have lM7 : Lst w7 (fun b => b < w7.heap.size) M.kids (.slice am M.kids.length cm) := (Lst.kids kM7).fr (Fr.refl _ _) (fun b hb => by have := hb.2; omega)
          have h0 : Below w7.heap.size w7 w7.drew := ⟨rfl, rfl, rfl, Nat.le_refl _, fun _ _ => rfl⟩
          have hbA : Below w7.heap.size w7 (w7.drew.alloc (.cells #[] 24)) := h0.alloc (Nat.le_refl _) _
          have hbC := hbA.alloc hbA.size (.cells #[.int .i64 0, .string ⟨#[]⟩, .int .i64 0, .slice none 0 0] 24)
          have hbX : Below w7.heap.size w7 (w7.drew.alloc (.cells #[.int .i64 0, .string ⟨#[]⟩, .int .i64 0, .slice none 0 0] 24)) := h0.alloc (Nat.le_refl _) _
          have hbB := hbX.alloc hbX.size (.cells #[] 24)
          have sX : (w7.drew.alloc (.cells #[.int .i64 0, .string ⟨#[]⟩, .int .i64 0, .slice none 0 0] 24)).heap.size = w7.heap.size + 1 := by rw [World.size_alloc]; rfl
          have sA : (w7.drew.alloc (.cells #[] 24)).heap.size = w7.heap.size + 1 := by rw [World.size_alloc]; rfl
          have oA : OwnZ (fun b => b < w7.heap.size) (w7.drew.alloc (.cells #[] 24)) w7.heap.size (.slice (some ⟨w7.heap.size, 0, none⟩) 0 0) [] := ⟨[], by have := World.ownsRow_lit (base := w7.heap.size) (e := 24) (size := 4) w7.drew #[] 0 (Nat.le_refl _) (by decide) rfl; exact this, by simp [KL]⟩
          have oC := oA.alloc (fun _ h => h) hbA.size (.cells #[.int .i64 0, .string ⟨#[]⟩, .int .i64 0, .slice none 0 0] 24)
          have oB : OwnZ (fun b => b < w7.heap.size) ((w7.drew.alloc (.cells #[.int .i64 0, .string ⟨#[]⟩, .int .i64 0, .slice none 0 0] 24)).alloc (.cells #[] 24)) w7.heap.size (.slice (some ⟨w7.heap.size + 1, 0, none⟩) 0 0) [] := ⟨[], by have := World.ownsRow_lit (base := w7.heap.size) (e := 24) (size := 4) (w7.drew.alloc (.cells #[.int .i64 0, .string ⟨#[]⟩, .int .i64 0, .slice none 0 0] 24)) #[] 0 (by rw [sX]; omega) (by decide) rfl; rw [sX] at this; exact this, by simp [KL]⟩
          have bxC : Box ((w7.drew.alloc (.cells #[] 24)).alloc (.cells #[.int .i64 0, .string ⟨#[]⟩, .int .i64 0, .slice none 0 0] 24)) (w7.heap.size + 1) := by have := Box.new (w7.drew.alloc (.cells #[] 24)) (.int .i64 0) (.string ⟨#[]⟩) (.int .i64 0) (.slice none 0 0); rw [sA] at this; exact this
          have bxB : Box ((w7.drew.alloc (.cells #[.int .i64 0, .string ⟨#[]⟩, .int .i64 0, .slice none 0 0] 24)).alloc (.cells #[] 24)) w7.heap.size := (Box.new w7.drew (.int .i64 0) (.string ⟨#[]⟩) (.int .i64 0) (.slice none 0 0)).of_block (Below.heap_alloc _ _ _ (by rw [sX]; show w7.heap.size < _; omega))
          have sC : ((w7.drew.alloc (.cells #[] 24)).alloc (.cells #[.int .i64 0, .string ⟨#[]⟩, .int .i64 0, .slice none 0 0] 24)).heap.size = w7.heap.size + 2 := by rw [World.size_alloc, sA]
          have sB : ((w7.drew.alloc (.cells #[.int .i64 0, .string ⟨#[]⟩, .int .i64 0, .slice none 0 0] 24)).alloc (.cells #[] 24)).heap.size = w7.heap.size + 2 := by rw [World.size_alloc, sX]
          have nC : ((w7.drew.alloc (.cells #[] 24)).alloc (.cells #[.int .i64 0, .string ⟨#[]⟩, .int .i64 0, .slice none 0 0] 24)).heap.size ≠ w7.heap.size + 1 := by rw [sC]; omega
          have nB : ((w7.drew.alloc (.cells #[.int .i64 0, .string ⟨#[]⟩, .int .i64 0, .slice none 0 0] 24)).alloc (.cells #[] 24)).heap.size ≠ w7.heap.size := by rw [sB]; omega
          have lNA := lN7.fr (S' := fun b => b < w7.heap.size) (fun b hb => hbA.block b hb) (fun _ h => h)
          have lNB := lN7.fr (S' := fun b => b < w7.heap.size) (fun b hb => hbB.block b hb) (fun _ h => h)
          have lNC := lN7.fr (S' := fun b => b < w7.heap.size) (fun b hb => hbC.block b hb) (fun _ h => h)
          obtain ⟨_, _, _, n3, _⟩ := bn7.cells
          obtain ⟨_, _, _, m3, _⟩ := bm7.cells
          have lb1 := bn7.lt
          have lb3 := bm7.lt
          have q1 : w1.heap.size ≠ w7.heap.size := by omega
          have q2 : w7.heap.size ≠ w1.heap.size := by omega
          have q3 : w3.heap.size ≠ w7.heap.size := by omega
          have q4 : w7.heap.size ≠ w3.heap.size := by omega
          have q5 : w1.heap.size ≠ w7.heap.size + 1 := by omega
          have q6 : w7.heap.size + 1 ≠ w1.heap.size := by omega
          have q7 : w3.heap.size ≠ w7.heap.size + 1 := by omega
          have q8 : w7.heap.size + 1 ≠ w3.heap.size := by omega
          clear kN7 kM7 lN7
          go_wp2_with fail
          go_region_law (first
            | (refine step_apd (Z := fun b => b < w7.heap.size) (B := w7.heap.size) (ts := []) (us := N.kids) (by rfl) (.tmp 57) (.tmp 59) (by rfl) (by rfl) (by rfl) (by first | exact oA | exact oB | exact oC) (by first | exact lNA | exact lNB | exact lNC) (fun _ h => h) (by first | exact hbA.size | exact hbB.size | exact hbC.size) (by simp; omega) ?_
               intro ao8 c8 w8 hO8 hg8 hgr8 hat8
               simp only [List.length_nil, Nat.zero_add, List.nil_append] at hO8 hat8
               have hb8 : Below w7.heap.size w7 w8 := by first | exact hbA.trans hg8 | exact hbB.trans hg8 | exact hbC.trans hg8
               have bm8 := bm7.below hb8 (Nat.le_refl _)
               have lM8 := lM7.fr (S' := fun b => b < w7.heap.size) (fun b hb => hb8.block b hb) (fun _ h => h)
               obtain ⟨_, _, _, m8, _⟩ := bm8.cells
               have hz8 := hb8.size
               have q9 : w3.heap.size ≠ w8.heap.size := by omega
               have q10 : w8.heap.size ≠ w3.heap.size := by omega
               have hb8x := hb8.alloc hz8 (.cells #[.int .i64 0, .string ⟨#[]⟩, .int .i64 0, .slice none 0 0] 24)
               have bm8x := bm7.below hb8x (Nat.le_refl _)
               obtain ⟨_, _, _, m8x, _⟩ := bm8x.cells
               have lM8x := lM7.fr (S' := fun b => b < w7.heap.size) (fun b hb => hb8x.block b hb) (fun _ h => h)
               first
                 | (have bx8 : Box w8 w7.heap.size := bxB.of_block (hgr8.block _ bxB.lt (fun e => own_ne (by omega) e.symm))
                    have bv8 : (Value.slice ao8 N.kids.length c8).ownBlock ≠ some w7.heap.size := ne_own hat8 (own_ne (by omega)) nB)
                 | (have bx8 : Box w8 (w7.heap.size + 1) := bxC.of_block (hgr8.block _ bxC.lt (fun e => own_ne (by omega) e.symm))
                    have bv8 : (Value.slice ao8 N.kids.length c8).ownBlock ≠ some (w7.heap.size + 1) := ne_own hat8 (own_ne (by omega)) nC)
                 | skip)
            | (refine step_apd (Z := fun b => b < w7.heap.size) (B := w7.heap.size) (ts := N.kids) (us := M.kids) (by rfl) (.tmp 60) (.tmp 62) (by rfl) (by rfl) (by rfl) (by first | exact hO8 | exact hO8.alloc (fun _ h => h) hz8 _) (by first | exact lM8 | exact lM8x) (fun _ h => h) (by first | exact hz8 | exact hb8x.size) (by omega) ?_
               intro ao9 c9 w9 hO9 hg9 hgr9 hat9
               have lv8 := hO8.lt
               first
                 | (have bx9 := bx8.of_block (hgr9.block _ bx8.lt (fun e => bv8 e.symm))
                    have bl9 := bx8.lt
                    have bv9 := ne_own hat9 bv8 (by omega)
                    obtain ⟨_, _, _, _, z0, z1, z2, z3, zf⟩ := bx9.open
                    have zf0 := zf 0
                    have zf1 := zf 1
                    have zf2 := zf 2
                    have zf3 := zf 3
                    clear zf)
                 | (have bx9 : Box w9 w8.heap.size := (Box.new w8 (.int .i64 0) (.string ⟨#[]⟩) (.int .i64 0) (.slice none 0 0)).of_block (hgr9.block _ (by simp) (fun e => by have := (lv8 _ e.symm).2; omega))
                    have bv9 := ne_own (k := w8.heap.size) hat9 (fun e => by have := (lv8 _ e).2; omega) (by simp)
                    obtain ⟨_, _, _, _, z0, z1, z2, z3, zf⟩ := bx9.open
                    have zf0 := zf 0
                    have zf1 := zf 1
                    have zf2 := zf 2
                    have zf3 := zf 3
                    clear zf)
                 | skip))
          all_goals
            have hb9 : Below w7.heap.size w7 w9 := by first | exact hb8.trans hg9 | exact hb8x.trans hg9
            first
              | (obtain ⟨Wf, hWf, F⟩ := finA hO9 hb9
                 rw [hWf])
              | (obtain ⟨Wf, hWf, F⟩ := finP hO9 hb9 bx9 (by first | exact Nat.le_refl _ | exact Nat.le_succ _ | exact hz8) bv9
                 rw [hWf])
            obtain ⟨f0, f1, f2, f3, fb, fk⟩ := F
            have bjf := bj7.below fb (Nat.le_refl _)
            obtain ⟨j0, j1, j2, j3, _⟩ := bjf.cells
            have kJf := kJ7.below (fun b hb => by have := hb.2; omega) fb
            have hBf := hB7.trans (fb.mono hB7.size)
            have hsame : sameT (.mk J.kind J.text J.num J.kids) (.mk 1 [] 0 (N.kids ++ M.kids)) = true := by rw [← HJ.out]; exact sameT_refl _
            have cS := same_any 100 J.kind J.text J.num J.kids 1 [] 0 (N.kids ++ M.kids) aj cj ao9 c9 (Rg w5.heap.size w6.heap.size) (fun b => b < Wf.heap.size) Wf (by cases hh : J; rw [hh] at LJ; exact LJ) (fun b hb => Nat.lt_of_lt_of_le (Nat.lt_of_lt_of_le hb.2 (Nat.le_of_lt lw7)) fb.size) (fun b hb => hb) (by cases hh : J; rw [hh] at kJf; exact kJf) (by rw [List.length_append]; exact fk)
            rw [List.length_append] at cS
            clear hWf m8 m8x q9 q10
            go_wp2_with fail
            refine cS.mono ?_
            rintro e w10 ⟨he10, hb10⟩
            rw [hsame] at he10
            subst he10
            clear cS
            go_wp2
            go_ret
            exact ⟨rfl, hBf.trans (hb10.mono hBf.size)⟩
    · have n1 : (e1 != 0) = false := by simpa using he1
      have n2 : (e2 != 0) = true := by simpa using he2
      clear he1 he2
      go_wp2_with fail
      refine awk.mono ?_
      rintro e w6 ⟨rfl, hb6⟩
      go_wp2
      go_ret
      exact ⟨rfl, hB5.trans (hb6.mono hB5.size)⟩
  · have n1 : (e1 != 0) = true := by simpa using he1
    clear he1
    go_wp2_with fail
    refine awk.mono ?_
    rintro e w6 ⟨rfl, hb6⟩
    go_wp2
    go_ret
    exact ⟨rfl, hB5.trans (hb6.mono hB5.size)⟩
end Go.Proofs.YtnkphlkjhgngkaaGreatDoor
