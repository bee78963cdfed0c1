/- Declarations that are none: every, byName, declare, open. -/
import Derived.Test.YtbejkphekfbfnaaGreatTyZ
import Derived.MapKept
namespace Go.Proofs.YtbejkphekfbfnaaGreat
open Go.RowKit
attribute [local go_sem ↓] Go.wp_at_zero Go.wp_at_succ

set_option maxRecDepth 20000 in
set_option maxHeartbeats 1000000 in
theorem everyT_any (p : Tr → Bool) (g : Nat) (bs : Array Value) (he : Enters Tryz.prog g) (ts : List Tr) (sls : List Value) (hsl : sls.length = ts.length) (w : World) (b o cap : Nat) (hn : ts.length ≤ 1000000)
    (hc : ∀ (j : Nat) u, (cellsOf ts sls)[j]? = some u → w.cell? ⟨b, o + j, none⟩ = some u) (hsh : ∀ s ∈ sls, ∃ ao n c, s = .slice ao n c)
    (hI : ∀ (k : Nat) t sl w1, ts[k]? = some t → sls[k]? = some sl → Below w.heap.size w w1 → Calls Tryz.prog g (bs ++ #[tv t sl]) w1 fun e w' => e = .returned (.bool (p t)) ∧ Below w1.heap.size w1 w') :
    Calls Tryz.prog 87 #[.slice (some ⟨b, o, none⟩) ts.length cap, .func (.func g) bs #[]] w fun e w' => e = .returned (.bool (ts.all p)) ∧ Below w.heap.size w w' := by
  have eg : ∀ args w, (callFunc g args).run Tryz.prog w = .ok (.enter g args) w := he
  have HI := Lib.hid hI
  have HC := Lib.hid hc
  have HS := Lib.hid hsh
  clear hI hc hsh
  go_enter Tryz.func87, Tryz.ntmps87
  go_wp2_with fail
  go_loopw [9] (fun v wr => ∃ k : Nat, k ≤ ts.length ∧ v = .int .i64 k ∧ Below w.heap.size w wr ∧ Hid ((ts.take k).all p = true)) (fun v _ => ts.length - (intOf v).toNat)
  case atStart => exact ⟨0, Nat.zero_le _, rfl, Below.refl _ _, by simp [Hid]⟩
  case round =>
    obtain ⟨k, hk, rfl, hb, HA⟩ := hrel
    have hz := hb.size
    by_cases hlt : k < ts.length
    · obtain ⟨t, ht⟩ : ∃ t, ts[k]? = some t := ⟨_, List.getElem?_eq_getElem hlt⟩
      obtain ⟨sl, hs⟩ : ∃ sl, sls[k]? = some sl := ⟨_, List.getElem?_eq_getElem (by omega)⟩
      obtain ⟨ao, nn, c, rfl⟩ := HS.out sl (List.mem_of_getElem? hs)
      obtain ⟨q0, q1, q2, q3⟩ := cellsOf_get ht hs
      have a0 := HC.out _ _ q0
      have bl := lt_of_cell a0
      have r : ∀ o, wr.cell? ⟨b, o, none⟩ = w.cell? ⟨b, o, none⟩ := fun o => hb.cell (p := ⟨b, o, none⟩) bl
      have x0 : wr.cell? ⟨b, o + k * 4, none⟩ = some (.int .i64 t.kind) := (r _).trans a0
      have x1 : wr.cell? ⟨b, o + k * 4 + 1, none⟩ = some (.string ⟨t.text.toArray⟩) := (r _).trans (HC.out _ _ q1)
      have x2 : wr.cell? ⟨b, o + k * 4 + 2, none⟩ = some (.int .i64 t.num) := (r _).trans (HC.out _ _ q2)
      have x3 : wr.cell? ⟨b, o + k * 4 + 3, none⟩ = some (.slice ao nn c) := (r _).trans (HC.out _ _ q3)
      have hba := hb.alloc hz (.cells #[.int .i64 t.kind, .string ⟨t.text.toArray⟩, .int .i64 t.num, .slice ao nn c] 27)
      have cT := HI.out k t (.slice ao nn c) _ ht hs hba
      have HT := Lib.hid ht
      clear ht hs q0 q1 q2 q3 a0 r
      go_wp2_with fail
      refine cT.mono ?_
      rintro e w2 ⟨rfl, hb2⟩
      have hb3 : Below w.heap.size w w2 := hba.trans (hb2.mono (by simp; omega))
      clear cT
      cases hp : p t with
      | false =>
        have HX : Hid (ts.all p = false) := by
          rw [Hid, List.all_eq_false]
          exact ⟨t, List.mem_of_getElem? HT.out, by simp [hp]⟩
        clear hp
        go_wp2
        go_ret
        exact ⟨by simp [HX.out], hb3⟩
      | true =>
        have HX : Hid ((ts.take (k + 1)).all p = true) := by
          have e : ts.take (k + 1) = ts.take k ++ [t] := by rw [List.take_add_one, HT.out]; rfl
          rw [Hid, e, List.all_append, HA.out]; simp [hp]
        clear hp
        go_wp2
        go_roundw
        case rel => exact ⟨k + 1, by omega, by go_num, hb3, HX⟩
        case measure => simp [intOf]; omega
    · have HX : Hid (ts.all p = true) := by
        have := HA.out
        rwa [List.take_of_length_le (by omega)] at this
      go_wp2
      go_ret
      exact ⟨by simp [HX.out], hb⟩
theorem everyT_nil (v : Value) (ao : Option Addr) (c : Nat) (w : World) : Calls Tryz.prog 87 #[.slice ao 0 c, v] w fun e w' => e = .returned (.bool true) ∧ w' = w := by
  go_enter Tryz.func87, Tryz.ntmps87
  go_wp2_with fail
  go_loopw [9] (fun v wr => v = .int .i64 0 ∧ wr = w) (fun _ _ => 0)
  case atStart => exact ⟨rfl, rfl⟩
  case round =>
    obtain ⟨rfl, rfl⟩ := hrel
    go_wp2
    go_ret
    exact ⟨rfl, rfl⟩
theorem everyD_nil (v : Value) (ao : Option Addr) (c : Nat) (w : World) : Calls Tryz.prog 79 #[.slice ao 0 c, v] w fun e w' => e = .returned (.bool true) ∧ w' = w := by
  go_enter Tryz.func79, Tryz.ntmps79
  go_wp2_with fail
  go_loopw [9] (fun v wr => v = .int .i64 0 ∧ wr = w) (fun _ _ => 0)
  case atStart => exact ⟨rfl, rfl⟩
  case round =>
    obtain ⟨rfl, rfl⟩ := hrel
    go_wp2
    go_ret
    exact ⟨rfl, rfl⟩

set_option maxRecDepth 100000 in
theorem byName_nil (w : World) : Calls Tryz.prog 82 #[.slice none 0 0] w fun e w' => e = .returned (.map (some w.heap.size)) ∧ w' = w.alloc (.map #[] 0) := by
  have hmk : ∀ w, (Instr.makeMap 56 (some (.int .i64 0))).run Tryz.prog w = .ok (.map (some w.heap.size)) (w.alloc (.map #[] 0)) := fun _ => rfl
  go_enter Tryz.func82, Tryz.ntmps82
  go_wp2_with fail
  go_loopw [11] (fun v wr => v = .int .i64 0 ∧ wr = w.alloc (.map #[] 0)) (fun _ _ => 0)
  case atStart => exact ⟨rfl, rfl⟩
  case round =>
    obtain ⟨rfl, rfl⟩ := hrel
    go_wp2
    go_ret
    exact ⟨rfl, rfl⟩
set_option maxRecDepth 100000 in
theorem declare_nil (w : World) : Calls Tryz.prog 42 #[.slice none 0 0] w fun e w' => e = .returned (.tuple #[.map (some w.heap.size), .int .i64 0]) ∧ w' = w.alloc (.map #[] 0) := by
  have hlen : (Builtin.len_ #[56] 3 #[.map (some w.heap.size)]).run Tryz.prog (w.alloc (.map #[] 0)) = .ok (.int .i64 0) (w.alloc (.map #[] 0)) := by
    have := heap_alloc_new w (.map #[] 0)
    simp [Builtin.len_, run_underlying Tryz.underlying56, MapKept.run_getObj_map this, goInt, Result.andThen]
  have c1 := everyD_nil (.func (.func 80) #[] #[]) none 0 w
  have c2 := everyD_nil (.func (.func 81) #[] #[]) none 0 w
  have c3 := byName_nil w
  have c4 := everyD_nil (.func (.func 83) #[.map (some w.heap.size)] #[]) none 0 (w.alloc (.map #[] 0))
  go_enter Tryz.func42, Tryz.ntmps42
  go_wp2_with fail
  refine c1.mono ?_
  rintro e w1 ⟨rfl, hw1⟩
  subst hw1
  go_wp2_with fail
  refine c2.mono ?_
  rintro e w2 ⟨rfl, hw2⟩
  subst hw2
  go_wp2_with fail
  refine c3.mono ?_
  rintro e w3 ⟨rfl, hw3⟩
  subst hw3
  clear c1 c2 c3
  go_wp2_with fail
  refine c4.mono ?_
  rintro e w4 ⟨rfl, hw4⟩
  clear c4
  go_wp2
  exact bodyPost_ret (v := .tuple #[.map (some w2.heap.size), .int .i64 0]) (by simp [results, Tryz.results42, go_sem]) rfl ⟨rfl, rfl⟩
theorem soundNil (w : World) : Calls Tryz.prog 17 #[.slice none 0 0] w fun e w' => e = .returned (.int .i64 0) ∧ Below w.heap.size w w' := by
  have cD := declare_nil w
  go_enter Tryz.func17, Tryz.ntmps17
  go_wp2_with fail
  refine cD.mono ?_
  rintro e w1 ⟨rfl, hw1⟩
  have hB : Below w.heap.size w w1 := hw1 ▸ (Below.refl _ _).alloc (Nat.le_refl _) _
  clear cD hw1
  go_wp2
  go_ret
  exact ⟨rfl, hB⟩
set_option maxRecDepth 20000 in
theorem enters_sound4 : Enters Tryz.prog 36 := enters_of Tryz.func36 (by kernel_rfl) rfl
set_option maxRecDepth 20000 in
theorem enters_known : Enters Tryz.prog 50 := enters_of Tryz.func50 (by kernel_rfl) rfl
/-- open of no declarations. -/
theorem openNil (ts : List Tr) (sls : List Value) (hsl : sls.length = ts.length) (w : World) (b cap : Nat) (hn : ts.length ≤ 100)
    (hc : ∀ (j : Nat) u, (cellsOf ts sls)[j]? = some u → w.cell? ⟨b, 0 + j, none⟩ = some u) (hT : ∀ (k : Nat) t sl, ts[k]? = some t → sls[k]? = some sl → Ty w t sl) (hb : b < w.heap.size) :
    Calls Tryz.prog 49 #[.slice none 0 0, .slice (some ⟨b, 0, none⟩) ts.length cap] w fun e w' => e = .returned (.tuple #[.map (some w.heap.size), .bool (ts.all soundP)]) ∧ Below w.heap.size w w' := by
  have cD := declare_nil w
  have hB : Below w.heap.size w (w.alloc (.map #[] 0)) := (Below.refl _ _).alloc (Nat.le_refl _) _
  have cE := everyT_any soundP 36 #[] enters_sound4 ts sls hsl (w.alloc (.map #[] 0)) b 0 cap (by omega) (fun j u h => (hB.cell (p := ⟨b, 0 + j, none⟩) hb).trans (hc j u h)) (fun sl hm => by
      obtain ⟨k, hk⟩ := List.getElem?_of_mem hm
      obtain ⟨t, ht⟩ : ∃ t, ts[k]? = some t := ⟨_, List.getElem?_eq_getElem (by
        have : k < sls.length := by
          rcases Nat.lt_or_ge k sls.length with h | h
          · exact h
          · rw [List.getElem?_eq_none h] at hk; cases hk
        omega)⟩
      exact (hT k t sl ht hk).kt.slice) (fun k t sl w1 ht hs hb1 => by
      have := ((hT k t sl ht hs).later (hB.trans (hb1.mono (by simp)))).sound
      rw [show (#[] : Array Value) ++ #[tv t sl] = #[tv t sl] from by simp]
      exact this)
  have HB := Lib.hid hB
  clear hc hT hB
  generalize ts.all soundP = bb at *
  go_enter Tryz.func49, Tryz.ntmps49
  go_wp2_with fail
  refine cD.mono ?_
  rintro e w1 ⟨rfl, hw1⟩
  subst hw1
  clear cD
  go_wp2_with fail
  refine cE.mono ?_
  rintro e w2 ⟨rfl, hb2⟩
  have hB2 : Below w.heap.size w w2 := HB.out.trans (hb2.mono (by simp))
  clear cE hb2
  go_wp2
  exact bodyPost_ret (v := .tuple #[.map (some w.heap.size), .bool bb]) (by simp [results, Tryz.results49, go_sem]) rfl ⟨rfl, hB2⟩
def IT : Tr := .mk 1 [] 0 []
def PT : Tr := .mk 5 [] 0 [IT]
theorem PI.ty {w : World} {m : Nat} (h : PI w m) : Ty w PT (.slice (some ⟨m, 0, none⟩) 1 1) := by
  refine ⟨kt_one 5 [] 0 (a := IT) (sl := .slice none 0 0) h (lt_of_block h) (Nat.le_refl _) (kt_nil 1 [] 0), fun n => ?_, by simp [PT, IT, cntN, cntNL]⟩
  match n with
  | 0 => trivial
  | 1 => exact ⟨by simp [PT, Tr.text, maxLen], fun k hk => by trivial⟩
  | n + 2 => exact ⟨by simp [PT, Tr.text, maxLen], fun k hk => by
      simp only [PT, Tr.kids, List.mem_singleton] at hk
      subst hk
      exact ⟨by simp [IT, Tr.text, maxLen], fun k hk => by simp [IT, Tr.kids] at hk⟩⟩
theorem PI.later {w W : World} {m : Nat} (h : PI w m) (hb : Below w.heap.size w W) : PI W m := (hb.block m (lt_of_block h)).trans h
theorem sound_PT : soundP PT = true := by decide
theorem knownInt (r : Nat) (ao : Option Addr) (c : Nat) (w : World) : Calls Tryz.prog 50 #[.map (some r), .agg #[.int .i64 1, .string ⟨#[]⟩, .int .i64 0, .slice ao 0 c]] w fun e w' => e = .returned (.bool true) ∧ Below w.heap.size w w' := by
  have hB : Below w.heap.size w (w.alloc (.cells #[.int .i64 1, .string ⟨#[]⟩, .int .i64 0, .slice ao 0 c] 27)) := (Below.refl _ _).alloc (Nat.le_refl _) _
  have cE := everyT_nil (.func (.func 50) #[.map (some r)] #[]) ao c (w.alloc (.cells #[.int .i64 1, .string ⟨#[]⟩, .int .i64 0, .slice ao 0 c] 27))
  have HB := Lib.hid hB
  clear hB
  go_enter Tryz.func50, Tryz.ntmps50
  go_wp2_with fail
  refine cE.mono ?_
  rintro e w1 ⟨rfl, hw1⟩
  subst hw1
  clear cE
  go_wp2
  go_ret
  exact ⟨rfl, HB.out⟩
theorem knownPtr (r m : Nat) (w : World) (h : PI w m) : Calls Tryz.prog 50 #[.map (some r), .agg #[.int .i64 5, .string ⟨#[]⟩, .int .i64 0, .slice (some ⟨m, 0, none⟩) 1 1]] w fun e w' => e = .returned (.bool true) ∧ Below w.heap.size w w' := by
  have hB : Below w.heap.size w (w.alloc (.cells #[.int .i64 5, .string ⟨#[]⟩, .int .i64 0, .slice (some ⟨m, 0, none⟩) 1 1] 27)) := (Below.refl _ _).alloc (Nat.le_refl _) _
  have h1 := h.later hB
  have cE := everyT_any (fun _ => true) 50 #[.map (some r)] enters_known [IT] [.slice none 0 0] rfl (w.alloc (.cells #[.int .i64 5, .string ⟨#[]⟩, .int .i64 0, .slice (some ⟨m, 0, none⟩) 1 1] 27)) m 0 1 (by simp) (fun j u hj => by
      rw [Lib.cell_of_heap h1]
      match j, hj with
      | 0, hj => exact hj
      | 1, hj => exact hj
      | 2, hj => exact hj
      | 3, hj => exact hj) (fun sl hm => by simp only [List.mem_singleton] at hm; exact ⟨_, _, _, hm⟩) (fun k t sl w1 ht hs hb1 => by
      match k, ht, hs with
      | 0, ht, hs => cases ht; cases hs; exact knownInt r none 0 w1
      | k + 1, ht, hs => simp at ht)
  have HB := Lib.hid hB
  clear hB h1 h
  rw [show [IT].all (fun _ => true) = true from rfl, show [IT].length = 1 from rfl] at cE
  go_enter Tryz.func50, Tryz.ntmps50
  go_wp2_with fail
  refine cE.mono ?_
  rintro e w1 ⟨rfl, hb1⟩
  have hB1 : Below w.heap.size w w1 := HB.out.trans (hb1.mono (by simp))
  clear cE hb1
  go_wp2
  go_ret
  exact ⟨rfl, hB1⟩
end Go.Proofs.YtbejkphekfbfnaaGreat
