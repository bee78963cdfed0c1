/- The document's Order. -/
import Derived.Test.YtaejhppfcmeopaaLwU
namespace Go.Proofs.Ytaejhppfcmeopaa
open Go.RowKit
/-- A list of one's own, made since w0. -/
structure Ow (w0 w : World) (vo : Value) (l : List Int) : Prop where
  r : w.ownsRow w0.heap.size 3 1 vo l.length (ints l)
  b : Below w0.heap.size w0 w
section
variable {w0 w : World} {vo : Value} {l : List Int}
theorem Ow.push (V : Ow w0 w vo l) (x : Int) (hl : l.length ≤ 100000) : ∃ g2 cap w', (Builtin.append_ #[34, 34] 34 #[vo, .slice (some ⟨w.heap.size, 0, none⟩) 1 1]).run Try.prog (w.alloc (.cells #[.int .i64 x] 3)) = .ok (.slice (some ⟨g2, 0, none⟩) (l.length + 1) cap) w' ∧ Ow w0 w' (.slice (some ⟨g2, 0, none⟩) (l.length + 1) cap) (l ++ [x]) := by
  have hB1 := (Below.refl w.heap.size w).alloc (Nat.le_refl _) (.cells #[.int .i64 x] 3)
  obtain ⟨g2, cap, w3, hr, hown, hgrow, _, _⟩ := run_appI (x := x) (ownsRow_keep V.r (fun h hh => hB1.block h (V.r.lt h hh).2)) (heap_new w (.cells #[.int .i64 x] 3) rfl) (by omega) (Nat.le_trans V.b.size hB1.size)
  refine ⟨g2, cap, w3, hr, ?_, ?_⟩
  · have e2 : ints (l ++ [x]) = ints l ++ [.int .i64 x] := by simp [ints]
    rw [e2]
    simp only [List.length_append, List.length_cons, List.length_nil]
    exact hown
  · refine ⟨hgrow.os.trans (hB1.os.trans V.b.os), hgrow.tape.trans (hB1.tape.trans V.b.tape), hgrow.output.trans (hB1.output.trans V.b.output), Nat.le_trans V.b.size (Nat.le_trans hB1.size hgrow.size), fun j hj => ?_⟩
    have hj2 := Nat.lt_of_lt_of_le hj V.b.size
    exact ((hgrow.block j (Nat.lt_of_lt_of_le hj2 hB1.size) (fun e => by have := (V.r.lt j e.symm).1; omega)).trans (hB1.block j hj2)).trans (V.b.block j hj)
end
theorem uu_un : (∀ a b, Sbs a b → un b ≤ un a) ∧ ∀ a x, x < 512 → a.testBit x = false → un (a ||| 2 ^ x) < un a := ⟨fun _ _ h => un_le h, fun _ _ hx h => un_add hx h⟩
/-- The blocks in the document's order, reversed. -/
def dnP (bs : List Blk) : List Nat := (vsF (goN bs) 600 0 (0, [])).2
def ordP (bs : List Blk) : List Nat := if bs = [] then [] else (dnP bs).reverse
theorem row_base {w : World} {B C k n : Nat} {e : TypeId} {v : Value} {xs : List Value} (h : w.ownsRow B e k v n xs) (hC : C ≤ B) : w.ownsRow C e k v n xs := by
  obtain ⟨h1, h2⟩ := h
  rcases h2 with h2 | ⟨g, cap, cur, e1, e2, e3⟩
  · exact ⟨h1, .inl h2⟩
  · exact ⟨h1, .inr ⟨g, cap, cur, e1, Nat.le_trans hC e2, e3⟩⟩
section
variable {w : World}
set_option maxRecDepth 100000 in
set_option maxHeartbeats 2000000 in
theorem rorder_any {v : Value} {bs : List Blk} {K : Nat} (S : Snd bs K) (R : BlksAt w v bs) : Calls Try.prog 18 #[v] w fun e w' => ∃ v', e = .returned v' ∧ w'.ownsRow w.heap.size 3 1 v' (zs (ordP bs)).length (ints (zs (ordP bs))) ∧ Below w.heap.size w w' := by
  have R0 := R
  obtain ⟨ao, cap, rfl, _⟩ := R
  by_cases h0 : bs = []
  · subst h0
    clear R0
    go_enter Try.func18, Try.ntmps18
    go_wp2
    go_ret
    exact ⟨_, rfl, ⟨rfl, .inl ⟨rfl, rfl⟩⟩, Below.refl _ _⟩
  · obtain ⟨n, hn⟩ : ∃ n, bs.length = n := ⟨_, rfl⟩
    have hl := S.l
    have hn0 : 0 < n := by
      rw [← hn]; exact List.length_pos_iff.mpr h0
    have h512 : ∀ x, ∀ y ∈ goN bs x, y < 512 := fun x y hy => by have := goN_lt S x y hy; omega
    rw [hn] at R0 hl ⊢
    have r1 := run_bools w n (by omega)
    have V0 : Vis w (w.alloc (.cells (reps n (.bool false)) 4)) n w.heap.size (.slice none 0 0) (0, []) := ⟨⟨_, heap_new _ _ rfl, reps_size _ _, fun i hi => by rw [reps_get hi]; simp⟩, ⟨rfl, .inl ⟨rfl, rfl⟩⟩, (Below.refl _ _).alloc (Nat.le_refl _) _, Nat.le_refl _⟩
    have hu0 := un_max 0
    have hs0 : Sm 0 := fun i _ => Nat.zero_testBit i
    have hv := rvisit_any uu_un S hn R0 600 0 (0, []) _ _ (show un 0 < 600 by omega) hn0 (Nat.zero_testBit 0) hs0 (show 0 + un 0 ≤ 512 by omega) V0
    have hk := (vsF_keeps h512 600 0 (0, []) (by omega) hs0).2.2
    have hm : (zs (dnP bs)).length ≤ 512 := by
      rw [zs_len]; unfold dnP; simp only [List.length_nil] at hk; omega
    have HO : Hid (ordP bs = (dnP bs).reverse) := hide (by unfold ordP; rw [if_neg h0])
    have HD : Hid (vsF (goN bs) 600 0 (0, []) = ((vsF (goN bs) 600 0 (0, [])).1, dnP bs)) := hide rfl
    rw [HD.out] at hv
    generalize (vsF (goN bs) 600 0 (0, [])).1 = s1 at hv
    have bn : (n : Int) ≤ 512 := by omega
    have bn0 : ((n : Int) == 0) = false := by simp; omega
    clear HD hk V0 hu0 hs0 h512 h0 hn S R0
    generalize dnP bs = L at *
    obtain ⟨m, hml⟩ : ∃ m, (zs L).length = m := ⟨_, rfl⟩
    rw [hml] at hm
    have HM := hide hml
    clear hml
    go_enter Try.func18, Try.ntmps18
    go_wp2_with (go_at_call 27; refine hv.mono ?_; rintro e w5 ⟨vd, rfl, V5⟩; obtain ⟨ad, cd, rfl⟩ := (IntsAt.of_row (l := zs L) (by rw [zs_len]; exact V5.r) (by rw [HM.out]; omega)).slice; rw [HM.out] at V5; rw [HM.out]; have HV5 := hide V5; clear V5)
    have HI : Hid (IntsAt w5 (.slice ad m cd) (zs L)) := hide (IntsAt.of_row (by rw [zs_len]; exact HV5.out.r) (by rw [HM.out]; omega))
    have HA : Hid (Ow w5 (w5.alloc (.cells #[] 3)) (.slice (some ⟨w5.heap.size, 0, none⟩) 0 0) ((zs L).reverse.take 0)) := hide ⟨⟨rfl, .inr ⟨w5.heap.size, 0, #[], rfl, Nat.le_refl _, heap_new _ _ rfl, Nat.le_refl _, by simp, rfl, rfl⟩⟩, (Below.refl _ _).alloc (Nat.le_refl _) _⟩
    go_loopg [4, 5] m (fun G v4 v5 wr => ∃ (j : Nat) (vo : Value), v4 = vo ∧ v5 = .int .i64 ((m : Int) - 1 - j) ∧ j ≤ m ∧ m - j ≤ G ∧ Hid (Ow w5 wr vo ((zs L).reverse.take j)))
    case atStart => exact ⟨0, _, rfl, by go_num, Nat.zero_le _, Nat.le_refl _, HA⟩
    case round =>
      obtain ⟨j, vo, h4, rfl, hj, hkk, HV⟩ := hrel
      rw [h4]
      clear h4 HA
      obtain ⟨W1, rfl⟩ : ∃ X, X = wr := ⟨wr, rfl⟩
      by_cases hjl : j < m
      · obtain ⟨t, ht⟩ : ∃ t, t + j + 1 = m := ⟨m - 1 - j, by omega⟩
        have ei : (m : Int) - 1 - j = (t : Int) := by omega
        rw [ei]
        obtain ⟨x, hx⟩ : ∃ x, (zs L)[t]? = some x := ⟨(zs L)[t]'(by rw [HM.out]; omega), by simp⟩
        obtain ⟨gd, od, rfl, ld, kd⟩ := HI.out.cell hx
        rw [← keep_cell HV.out.b ld] at kd
        have ld2 := Nat.lt_of_lt_of_le ld HV.out.b.size
        have hnx : (zs L).reverse.take (j + 1) = (zs L).reverse.take j ++ [x] := by
          rw [List.take_add_one, List.getElem?_reverse (by rw [HM.out]; omega), HM.out, show m - 1 - j = t by omega, hx]
          rfl
        obtain ⟨g2, cp, w7, hr, O7⟩ := HV.out.push x (by rw [List.length_take]; omega)
        have hlen : ((zs L).reverse.take j).length = j := by rw [List.length_take, List.length_reverse, HM.out]; omega
        rw [hlen] at hr O7
        rw [← hnx] at O7
        have HRUN := hide hr
        have HO7 := hide O7
        have bt : (t : Int) < (m : Int) := by omega
        have bt0 : (0 : Int) ≤ (t : Int) := by omega
        have bm : (m : Int) ≤ 512 := by omega
        clear hr O7 hnx hx ld hlen
        go_wp2_with (refine wpList_append_eq (by rfl) _ _ 34 (by rfl) (by rfl) (by rfl) HRUN.out ?_)
        go_roundg (m - (j + 1))
        case measure => omega
        case rel => exact ⟨j + 1, _, rfl, by first | go_num | (congr 1; omega), by omega, Nat.le_refl _, HO7⟩
      · obtain rfl : m = j := by omega
        have ei : (m : Int) - 1 - m = -1 := by omega
        rw [ei]
        have htk : (zs L).reverse.take m = (zs L).reverse := List.take_of_length_le (by rw [List.length_reverse, HM.out]; exact Nat.le_refl _)
        go_wp2
        go_ret
        have O := HV.out
        rw [htk] at O
        have er : zs L.reverse = (zs L).reverse := by simp [zs]
        rw [HO.out, er]
        exact ⟨_, rfl, row_base O.r HV5.out.b.size, HV5.out.b.trans (O.b.mono HV5.out.b.size)⟩
end
end Go.Proofs.Ytaejhppfcmeopaa
