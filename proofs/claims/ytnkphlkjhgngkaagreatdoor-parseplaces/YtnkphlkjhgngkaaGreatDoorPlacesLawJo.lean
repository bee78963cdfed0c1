/- ParsePlaces: the law's walk. -/
import Derived.Test.YtnkphlkjhgngkaaGreatDoorLawJJo
import Derived.Test.YtnkphlkjhgngkaaGreatDoorPlaMJo
namespace Go.Proofs.YtnkphlkjhgngkaaGreatDoor
open Go.RowKit
attribute [local go_sem ↓] Go.wp_at_zero Go.wp_at_succ

theorem take_toL (s : ByteArray) (a : Nat) : (s.extract 0 a).data.toList = s.data.toList.take a := by
  rw [extract_eq]; simp [seg]

set_option maxRecDepth 20000 in
set_option maxHeartbeats 8000000 in
theorem places_any (s : ByteArray) (hs : s.size ≤ maxLen) (w : World) (hG : Gl w) : Calls Tryz.prog 5 #[.string s] w fun e w' => e = .returned (.bool true) ∧ Below w.heap.size w w' := by
  have ls : s.data.toList.length = s.size := by simp
  have c1 := parse_any s hs w hG
  have hmax := hs
  cases hp : parseP s.data.toList with
  | mk o r =>
    obtain ⟨a, er⟩ := r
    rw [hp] at c1
    cases o with
    | some t =>
      obtain ⟨_, _, rfl, rfl, _⟩ := parseP_some hp
      have hst := parse_sound hp
      have htx := sound_tx hst
      have HS := Lib.hid hst
      have HX := Lib.hid htx
      clear hp hst htx ls
      unfold maxLen at hs
      go_enter Tryz.func5, Tryz.ntmps5
      go_wp2_with fail
      refine c1.mono ?_
      rintro e w1 ⟨hb1, sl, rfl, kN1⟩
      clear c1
      obtain ⟨an, cn, rfl⟩ := (Lst.kids kN1).slice
      have bn2 := Bt.new w1 t an t.kids.length cn
      have hb2 := (Below.refl w1.heap.size w1).alloc (Nat.le_refl _) (.cells #[.int .i64 t.kind, .string ⟨t.text.toArray⟩, .int .i64 t.num, .slice an t.kids.length cn] 24)
      have kN2 := kN1.below (fun b hb => hb.2) hb2
      have hB2 := hb1.trans (hb2.mono hb1.size)
      have hz2 := hb2.size
      go_wp2_with fail
      refine (awake_any _ (hG.later hB2)).mono ?_
      rintro e w3 ⟨rfl, hb3⟩
      have hz3 := hb3.size
      have bn3 := bn2.below hb3 (Nat.le_refl _)
      have kN3 := kN2.below (fun b hb => Nat.lt_of_lt_of_le hb.2 hz2) hb3
      have hB3 := hB2.trans (hb3.mono hB2.size)
      have cS := sound_any t (.slice an t.kids.length cn) (Rg w.heap.size w1.heap.size) w3 (hG.later hB3) (fun b hb => Nat.lt_of_lt_of_le hb.2 (Nat.le_trans hz2 hz3)) HX.out kN3
      rw [HS.out] at cS
      obtain ⟨n0, n1, n2, n3, _⟩ := bn3.cells
      clear bn2 kN1 kN2 hb1 hb2 hb3
      go_wp2_with fail
      refine cS.mono ?_
      rintro e w4 ⟨rfl, hb4⟩
      clear cS
      go_wp2
      go_ret
      exact ⟨rfl, hB3.trans (hb4.mono hB3.size)⟩
    | none =>
      obtain ⟨hal, her⟩ := parse_fault hp
      rw [ls] at hal
      have HP := Lib.hid hp
      clear hp
      unfold maxLen at hs
      go_enter Tryz.func5, Tryz.ntmps5
      go_wp2_with fail
      refine c1.mono ?_
      rintro e w1 ⟨hb1, rfl⟩
      clear c1
      have bn2 := Bt.new w1 zeroTr none 0 0
      have hb2 := (Below.refl w1.heap.size w1).alloc (Nat.le_refl _) (.cells #[.int .i64 0, .string ⟨#[]⟩, .int .i64 0, .slice none 0 0] 24)
      have hB2 := hb1.trans (hb2.mono hb1.size)
      go_wp2_with fail
      refine (awake_any _ (hG.later hB2)).mono ?_
      rintro e w3 ⟨rfl, hb3⟩
      have bn3 : Bt w3 w1.heap.size zeroTr none 0 0 := bn2.of_block (hb3.block _ (by simp))
      have hB3 := hB2.trans (hb3.mono hB2.size)
      obtain ⟨n0, n1, n2, n3, _⟩ := bn3.cells
      have n0' : w3.cell? ⟨w1.heap.size, 0, none⟩ = some (.int .i64 0) := n0
      clear bn2 n0 hb1 hb2 hb3
      have q1 : ¬ ((a : Int) < 0) := by omega
      have q2 : ¬ ((a : Int) > (s.size : Int)) := by omega
      by_cases h3 : er = 3
      · subst h3
        have cF := scan_any s hmax w3 (hG.later hB3)
        go_wp2_with fail
        refine cF.mono ?_
        rintro e w4 ⟨v, rfl, hO, hb4⟩
        clear cF hO
        have hB4 := hB3.trans (hb4.mono hB3.size)
        have HC : Hid ((scanRes s.data.toList).2.2 = 0 → a ≠ s.size → (∃ t, parseP (s.data.toList.take a) = (some t, 0, 0)) ∨ parseP (s.data.toList.take a) = (none, a, 3) ∨ parseP (s.data.toList.take a) = (none, 0, 4)) := fun h1 h2 => parse_cut HP.out h1 (by rw [ls]; exact h2)
        clear HP
        generalize (scanRes s.data.toList).2.2 = ef at *
        generalize (scanRes s.data.toList).2.1 = af at *
        by_cases hf : ef = 0
        · by_cases hE : a = s.size
          · have nf : (ef != 0) = false := by simpa using hf
            have nE : ((a : Int) == (s.size : Int)) = true := by simp; omega
            clear hf hE
            go_wp2
            go_ret
            exact ⟨rfl, hB4⟩
          · have hc := HC.out hf hE
            have nf : (ef != 0) = false := by simpa using hf
            have nE : ((a : Int) == (s.size : Int)) = false := by simp; omega
            have c5 := parse_any (s.extract 0 a) (by unfold maxLen; rw [ByteArray.size_extract]; omega) w4 (hG.later hB4)
            rw [take_toL] at c5
            clear hf hE HC
            rcases hc with ⟨u, hc⟩ | hc | hc
            · rw [hc] at c5
              clear hc
              go_wp2_with fail
              refine c5.mono ?_
              rintro e w5 ⟨hb5, sl5, rfl, k5⟩
              obtain ⟨a5, c5', rfl⟩ := (Lst.kids k5).slice
              clear c5 k5
              go_wp2
              go_ret
              exact ⟨rfl, hB4.trans ((hb5.mono hB4.size).trans ((Below.refl _ _).alloc (Nat.le_trans hB4.size hb5.size) _))⟩
            · rw [hc] at c5
              clear hc
              go_wp2_with fail
              refine c5.mono ?_
              rintro e w5 ⟨hb5, rfl⟩
              clear c5
              go_wp2
              go_ret
              exact ⟨rfl, hB4.trans ((hb5.mono hB4.size).trans ((Below.refl _ _).alloc (Nat.le_trans hB4.size hb5.size) _))⟩
            · rw [hc] at c5
              clear hc
              go_wp2_with fail
              refine c5.mono ?_
              rintro e w5 ⟨hb5, rfl⟩
              clear c5
              go_wp2
              go_ret
              exact ⟨rfl, hB4.trans ((hb5.mono hB4.size).trans ((Below.refl _ _).alloc (Nat.le_trans hB4.size hb5.size) _))⟩
        · have nf : (ef != 0) = true := by simpa using hf
          clear hf
          go_wp2
          go_ret
          exact ⟨rfl, hB4⟩
      · rcases her with rfl | rfl | rfl
        · exact absurd rfl h3
        · go_wp2
          go_ret
          exact ⟨rfl, hB3⟩
        · go_wp2
          go_ret
          exact ⟨rfl, hB3⟩
end Go.Proofs.YtnkphlkjhgngkaaGreatDoor
