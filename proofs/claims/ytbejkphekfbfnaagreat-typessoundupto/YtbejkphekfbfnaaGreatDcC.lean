/- The names of all members: Concat. -/
import Derived.Test.YtbejkphekfbfnaaGreatDcT
import Derived.Test.YtbejkphekfbfnaaGreatDcL
import Derived.Shelf.Spec.SlicesGrow
import Derived.Deep.AppendLies
import Derived.Laws.OwnMore
namespace Go.Proofs.YtbejkphekfbfnaaGreat
open Go.RowKit Go.Maps
attribute [local go_sem ↓] Go.wp_at_zero Go.wp_at_succ

/-- An append whose run is known, at the list of a plain region's operations. -/
theorem wpList_appendE {P : Program} {w : World} {ops : Array Oper} {rest : List Oper} {o : Oper} {a : Act} {Q : Exit → Act → World → Prop} (hgd : o.guard = none) (s x : Operand) (t : TypeId)
    (ho : o.op = .call { callee := .builtin .append, args := #[s, x], argTypes := #[t, t] }) {v1 v2 v : Value} {w' : World} (hs : a.eval s = v1) (hx : a.eval x = v2) (hr : (Builtin.append_ #[t, t] o.type #[v1, v2]).run P w = .ok v w')
    (h : wpList P ops Q rest (a.put o.dst v) w') : wpList P ops Q (o :: rest) a w := by
  refine wpList_plain hgd fun _ hK => ?_
  unfold Oper.wp execOp
  simp only [ho, resolve, invoke, builtin, Sem.run_bind, Sem.run_pure, Result.andThen_ok, List.map_toArray, List.map_cons, List.map_nil, hs, hx, hr]
  exact hK _ _ h
theorem SB.slice {w : World} {v : Value} {ns : List (List UInt8)} (h : SB w v ns) : ∃ a, v = .slice a ns.length ns.length := by
  rcases h with ⟨rfl, h⟩ | ⟨_, m, h1, _⟩
  · exact ⟨none, h⟩
  · exact ⟨_, h1⟩
/-- A list of texts behind a row of one's own. -/
theorem app_texts {W : World} {B n : Nat} {v y : Value} {xs : List Value} {ns : List (List UInt8)} (hown : W.ownsRow B 9 1 v n xs) (hy : SB W y ns) (hB : B ≤ W.heap.size) (hlen : n + ns.length ≤ 1000000) :
    ∃ v' w', (Builtin.append_ #[111, 111] 111 #[v, y]).run Tryz.prog W = .ok v' w' ∧ w'.ownsRow B 9 1 v' (n + ns.length) (xs ++ ns.map strV) ∧ W.grownBy w' v.ownBlock := by
  obtain ⟨i0, hi, hz0, hz1, hz2⟩ := info_parts info_str
  rcases hy with ⟨rfl, rfl⟩ | ⟨h0, m, rfl, hm⟩
  · exact ⟨_, W, run_append_owned_none W B 111 111 9 i0 1 Tryz.underlying111 hi _ _ _ hown, by simpa using hown, ⟨rfl, rfl, rfl, Nat.le_refl _, fun _ _ _ => rfl⟩⟩
  · have hp : 0 < ns.length := List.length_pos_iff.2 h0
    obtain ⟨g, cap, w', h1, h2, h3, _⟩ := run_append_lies (P := Tryz.prog) W 111 111 B 9 i0 _ 1 16 Tryz.underlying111 hi hz0 hz1 hz2 rfl (by decide) v n xs hown ⟨m, 0, none⟩ ns.length ns.length (ns.map strV) (by simp) (World.news_of_block hm)
      (by intro u hu; rw [List.mem_map] at hu; obtain ⟨x, _, rfl⟩ := hu; rfl) hp (by unfold maxLen; omega) (by omega) hB _ rfl
    exact ⟨_, w', h1, h2, h3⟩
/-- Room for all of them. -/
theorem grow_any (n : Nat) (w : World) (hn : n ≤ 1000000) : Calls Tryz.prog 146 #[.slice none 0 0, .int .i64 n] w fun e w' => ∃ v, e = .returned v ∧ w'.ownsRow w.heap.size 9 1 v 0 [] ∧ Below w.heap.size w w' := by
  obtain ⟨i0, hi, hz0, hz1, hz2⟩ := info_parts info_str
  by_cases h0 : n = 0
  · subst h0
    refine (Any8.slices_Grow_room Tryz.laysG none 0 0 0 w (Nat.le_refl _) (by decide) (by decide) (Nat.le_refl _)).mono ?_
    rintro e w' ⟨rfl, rfl⟩
    exact ⟨_, rfl, World.ownsRow_nil _ _ _ _, Below.refl _ _⟩
  · refine (Any8.slices_Grow_grow Tryz.laysG i0 _ hi hz0 (by rw [hz1]; decide) none 0 0 n [] w (Nat.le_refl _) (by omega) (by rw [hz2]; omega) (by omega) (by simp) (fun _ => rfl) (fun a h => by cases h)).mono ?_
    rintro e w' ⟨rfl, rfl⟩
    refine ⟨_, rfl, ?_, ?_⟩
    · have hg := Go.grownCap_ge w (0 + n) 0 9
      have hm := Go.grownCap_le_maxLen w (0 + n) 0 9 (by unfold maxLen; omega)
      refine World.ownsRow_made w.drew _ _ (Nat.le_refl _) ?_ ?_
      · exact hm
      · have hz : ∀ k, (Builtin.zeroCells (Value.string ByteArray.empty).cells k).size = k := fun k => by simp [Builtin.zeroCells, Value.cells]
        have hgr : Tryz.laysG_ren.t 25 = 9 := rfl
        rw [hgr]
        simp only [Array.size_append, hz, List.size_toArray, List.length_nil]
        omega
    · exact (show Below w.heap.size w w.drew from ⟨rfl, rfl, rfl, Nat.le_refl _, fun _ _ => rfl⟩).alloc (Nat.le_refl _) _
/-- What the first k of two lists have. -/
def szA (xs ys : List (List UInt8)) : Nat → List (List UInt8)
  | 0 => []
  | 1 => xs
  | _ => xs ++ ys
set_option maxRecDepth 20000 in
set_option maxHeartbeats 2000000 in
theorem concat_any (xs ys : List (List UInt8)) (vx vy : Value) (m : Nat) (w : World) (hb : w.heap[m]? = some (.cells #[vx, vy] 111 (0, 0))) (hx : SB w vx xs) (hy : SB w vy ys) (h1 : xs.length ≤ 100000) (h2 : ys.length ≤ 100000) :
    Calls Tryz.prog 132 #[.slice (some ⟨m, 0, none⟩) 2 2] w fun e w' => ∃ v, e = .returned v ∧ Below w.heap.size w w' ∧ w'.ownsRow w.heap.size 9 1 v (xs ++ ys).length ((xs ++ ys).map strV) := by
  obtain ⟨ax, rfl⟩ := hx.slice
  obtain ⟨ay, rfl⟩ := hy.slice
  have HX := Lib.hid hx
  have HY := Lib.hid hy
  have HM := Lib.hid hb
  have hc0 : w.cell? ⟨m, 0, none⟩ = some (.slice ax xs.length xs.length) := by rw [Lib.cell_of_heap hb]; rfl
  have hc1 : w.cell? ⟨m, 1, none⟩ = some (.slice ay ys.length ys.length) := by rw [Lib.cell_of_heap hb]; rfl
  have hml := lt_of_block hb
  have HL : Hid ((xs ++ ys).length = xs.length + ys.length) := by rw [Hid, List.length_append]
  clear hx hy hb
  generalize hp : xs.length = p at *
  generalize hq : ys.length = q at *
  have HP := Lib.hid hp
  have HQ := Lib.hid hq
  clear hp hq
  have cG := fun n hn => grow_any n w hn
  go_enter Tryz.func132, Tryz.ntmps132
  go_wp2_with fail
  go_loopw [3, 11] (fun s v wr => ∃ j : Nat, j ≤ 2 ∧ v = .int .i64 j ∧ s = .int .i64 (szA xs ys j).length ∧ w = wr) (fun _ v _ => 2 - (intOf v).toNat)
  case atStart => exact ⟨0, by omega, rfl, rfl, rfl⟩
  case round =>
    obtain ⟨j, hj, rfl, rfl, rfl⟩ := hrel
    by_cases hlt : j < 2
    · have hj2 : j = 0 ∨ j = 1 := by omega
      rcases hj2 with rfl | rfl
      · have e1 : (szA xs ys 0).length = 0 := rfl
        have e2 : (szA xs ys (0 + 1)).length = p := HP.out
        have k1 : wrap64 (0 + (p : Int)) = p := by unfold wrap64; omega
        have k2 : decide ((p : Int) < 0) = false := by simp
        rw [e1]
        go_wp2
        go_roundw
        case rel => exact ⟨0 + 1, by omega, rfl, by rw [e2], trivial⟩
        case measure => simp [intOf]
      · have e1 : (szA xs ys 1).length = p := HP.out
        have e2 : (szA xs ys (1 + 1)).length = p + q := HL.out
        have k1 : wrap64 ((p : Int) + (q : Int)) = ((p + q : Nat) : Int) := by unfold wrap64; omega
        have k2 : decide ((((p + q : Nat) : Int)) < 0) = false := by simp; omega
        rw [e1]
        go_wp2
        go_roundw
        case rel => exact ⟨1 + 1, by omega, rfl, by rw [e2]; rfl, trivial⟩
        case measure => simp [intOf]
    · obtain rfl : j = 2 := by omega
      have e2 : (szA xs ys 2).length = p + q := HL.out
      have cG' := cG (p + q) (by omega)
      rw [e2]
      clear cG
      go_wp2_with fail
      refine cG'.mono ?_
      rintro e w2 ⟨v, rfl, ho, hb2⟩
      have HO := Lib.hid ho
      have HB := Lib.hid hb2
      clear ho hb2 cG'
      go_wp2_with fail
      go_loopw [6, 27] (fun s v wr => ∃ j : Nat, j ≤ 2 ∧ v = .int .i64 j ∧ Hid (Below w.heap.size w wr) ∧ Hid (wr.ownsRow w.heap.size 9 1 s (szA xs ys j).length ((szA xs ys j).map strV))) (fun _ v _ => 2 - (intOf v).toNat)
      case atStart => exact ⟨0, by omega, rfl, HB, HO⟩
      case round =>
        obtain ⟨j, hj, rfl, HB, HO⟩ := hrel
        clear e2
        have hsz := HB.out.size
        have d0 : wr.cell? ⟨m, 0, none⟩ = some (.slice ax p p) := by rw [Lib.cell_of_heap ((HB.out.block m hml).trans HM.out)]; rfl
        have d1 : wr.cell? ⟨m, 1, none⟩ = some (.slice ay q q) := by rw [Lib.cell_of_heap ((HB.out.block m hml).trans HM.out)]; rfl
        clear hc0 hc1
        by_cases hlt : j < 2
        · have hj2 : j = 0 ∨ j = 1 := by omega
          rcases hj2 with rfl | rfl
          · obtain ⟨v', w', hrun, ho, hg⟩ := app_texts HO.out (HX.out.later HB.out) hsz (by show 0 + xs.length ≤ _; rw [HP.out]; omega)
            have HO2 : Hid (w'.ownsRow w.heap.size 9 1 v' (szA xs ys (0 + 1)).length ((szA xs ys (0 + 1)).map strV)) := by
              rw [Hid]; simpa [szA] using ho
            have HB2 : Hid (Below w.heap.size w w') := Below.grown HB.out hg hsz (fun k hk => (HO.out.lt k hk).1)
            clear ho hg
            go_wp2_with (at_builtin; refine wpList_appendE rfl _ _ 111 rfl rfl rfl hrun ?_)
            go_roundw
            case rel => exact ⟨0 + 1, by omega, rfl, HB2, HO2⟩
            case measure => simp [intOf]
          · obtain ⟨v', w', hrun, ho, hg⟩ := app_texts HO.out (HY.out.later HB.out) hsz (by show xs.length + ys.length ≤ _; rw [HP.out, HQ.out]; omega)
            have HO2 : Hid (w'.ownsRow w.heap.size 9 1 v' (szA xs ys (1 + 1)).length ((szA xs ys (1 + 1)).map strV)) := by
              rw [Hid]; simpa [szA] using ho
            have HB2 : Hid (Below w.heap.size w w') := Below.grown HB.out hg hsz (fun k hk => (HO.out.lt k hk).1)
            clear ho hg
            go_wp2_with (at_builtin; refine wpList_appendE rfl _ _ 111 rfl rfl rfl hrun ?_)
            go_roundw
            case rel => exact ⟨1 + 1, by omega, rfl, HB2, HO2⟩
            case measure => simp [intOf]
        · obtain rfl : j = 2 := by omega
          go_wp2
          go_ret
          exact ⟨_, rfl, HB.out, HO.out⟩
end Go.Proofs.YtbejkphekfbfnaaGreat
