/- distinct: each member has a name of its own. -/
import Derived.Test.YtbejkphekfbfnaaGreatDcE
import Derived.Deep.RegionHeld3
namespace Go.Proofs.YtbejkphekfbfnaaGreat
open Go.RowKit Go.Maps
attribute [local go_sem ↓] Go.wp_at_zero Go.wp_at_succ

theorem Hb.drew {w W : World} {cs : Array Value} {T : TypeId} (h : Hb w cs T W) : Hb w cs T W.drew := h.next ⟨rfl, rfl, rfl, Nat.le_refl _, fun _ _ => rfl⟩
theorem Hb.nextB {w W W' : World} {cs : Array Value} {T : TypeId} {B : Nat} (h : Hb w cs T W) (hb : Below B W W') (hB : w.heap.size + 1 ≤ B) : Hb w cs T W' := ⟨Below.trans h.bel (hb.mono hB)⟩
theorem own_drew {w : World} {B n : Nat} {e : TypeId} {v : Value} {xs : List Value} (h : w.ownsRow B e 1 v n xs) : w.drew.ownsRow B e 1 v n xs := h
/-- Each member has a name of its own. -/
def distP (d : Dc) : Bool := decide ((d.fs.map Prod.fst ++ d.ms.map Prod.fst).Nodup)
theorem distP_eq (d : Dc) : (((Lib.compact ((d.fs.map Prod.fst ++ d.ms.map Prod.fst).mergeSort fun x y => decide (x ≤ y))).length : Int) == ((d.fs.length : Int) + (d.ms.length : Int))) = distP d := by
  have h := compact_sorted (d.fs.map Prod.fst ++ d.ms.map Prod.fst)
  rw [List.length_append, List.length_map, List.length_map] at h
  unfold distP
  rw [Bool.eq_iff_iff, beq_iff_eq, decide_eq_true_eq, ← h]
  omega
abbrev dcells (n : List UInt8) (ifc : Bool) (s1 s2 : Value) : Array Value := #[.string ⟨n.toArray⟩, .bool ifc, s1, s2]
set_option maxRecDepth 20000 in
set_option maxHeartbeats 4000000 in
theorem distinct_any (n : List UInt8) (ifc : Bool) (fs ms : List Fl) (a1 a2 : Option Addr) (c1 c2 : Nat) (w : World) (h1 : FL w fs (.slice a1 fs.length c1)) (h2 : FL w ms (.slice a2 ms.length c2)) (l1 : fs.length ≤ 100000) (l2 : ms.length ≤ 100000) :
    Calls Tryz.prog 115 #[.agg #[.string ⟨n.toArray⟩, .bool ifc, .slice a1 fs.length c1, .slice a2 ms.length c2]] w (OutB (distP ⟨n, ifc, fs, ms⟩) w) := by
  have HR := Lib.hid (distP_eq ⟨n, ifc, fs, ms⟩)
  have hX0 := (Hb.start (w := w) (cs := #[.string ⟨n.toArray⟩, .bool ifc, .slice a1 fs.length c1, .slice a2 ms.length c2]) (T := 60)).drew
  have hs0 : (w.alloc (.cells #[.string ⟨n.toArray⟩, .bool ifc, .slice a1 fs.length c1, .slice a2 ms.length c2] 60)).drew.cell? ⟨w.heap.size, 2, none⟩ = some (.slice a1 fs.length c1) ∧ (w.alloc (.cells #[.string ⟨n.toArray⟩, .bool ifc, .slice a1 fs.length c1, .slice a2 ms.length c2] 60)).drew.cell? ⟨w.heap.size, 3, none⟩ = some (.slice a2 ms.length c2) := ⟨hX0.cell 2 rfl, hX0.cell 3 rfl⟩
  have HE1 : Hid (∀ W, Hb w #[.string ⟨n.toArray⟩, .bool ifc, .slice a1 fs.length c1, .slice a2 ms.length c2] 60 W → Calls Tryz.prog 133 #[.slice a1 fs.length c1, .func (.func 134) #[] #[]] W fun e w' => ∃ a, e = .returned (.slice a fs.length fs.length) ∧ Below W.heap.size W w' ∧ SB w' (.slice a fs.length fs.length) (fs.map Prod.fst)) :=
    Lib.hid fun W hh => (eachFS_any fs _ W l1 (h1.later hh.out)).mono fun e w' ⟨v, h1, h2, h3⟩ => by
      obtain ⟨a, rfl⟩ := h3.slice
      rw [List.length_map] at h1 h3
      exact ⟨a, h1, h2, h3⟩
  have HE2 : Hid (∀ W, Hb w #[.string ⟨n.toArray⟩, .bool ifc, .slice a1 fs.length c1, .slice a2 ms.length c2] 60 W → Calls Tryz.prog 133 #[.slice a2 ms.length c2, .func (.func 134) #[] #[]] W fun e w' => ∃ a, e = .returned (.slice a ms.length ms.length) ∧ Below W.heap.size W w' ∧ SB w' (.slice a ms.length ms.length) (ms.map Prod.fst)) :=
    Lib.hid fun W hh => (eachFS_any ms _ W l2 (h2.later hh.out)).mono fun e w' ⟨v, h1, h2, h3⟩ => by
      obtain ⟨a, rfl⟩ := h3.slice
      rw [List.length_map] at h1 h3
      exact ⟨a, h1, h2, h3⟩
  clear h1 h2
  have HM1 : Hid ((fs.map Prod.fst).length ≤ 100000) := by rw [Hid, List.length_map]; exact l1
  have HM2 : Hid ((ms.map Prod.fst).length ≤ 100000) := by rw [Hid, List.length_map]; exact l2
  go_enter Tryz.func115, Tryz.ntmps115
  go_wp2_with fail
  go_region_held3 (fun WW => WW.cell? ⟨w.heap.size, 2, none⟩ = some (.slice a1 fs.length c1) ∧ WW.cell? ⟨w.heap.size, 3, none⟩ = some (.slice a2 ms.length c2)) (first | exact hs0 | exact hs1 | exact hs2 | exact hs3 | exact hs4 | go_keep) (first
    | (have kk := hs2; clear kk; go_simp; go_at_call 132; refine (concat_any (fs.map Prod.fst) (ms.map Prod.fst) _ _ _ _ (heap_alloc_new w2 _) HS31.out HS32.out HM1.out HM2.out).mono ?_; rintro e w4 ⟨v4, rfl, hb4, ho4⟩; have hX4 := hX3.next hb4; have HO4 := Lib.hid ho4; clear ho4; have hs4 : w4.cell? ⟨w.heap.size, 2, none⟩ = some (.slice a1 fs.length c1) ∧ w4.cell? ⟨w.heap.size, 3, none⟩ = some (.slice a2 ms.length c2) := ⟨hX4.cell 2 rfl, hX4.cell 3 rfl⟩)
    | (have kk := hs1; clear kk; go_simp; go_at_call 133; refine (HE2.out _ hX1).mono ?_; rintro e w2 ⟨b2, rfl, hb2, hsb2⟩; have hX2 := hX1.next hb2; have hs2 : w2.cell? ⟨w.heap.size, 2, none⟩ = some (.slice a1 fs.length c1) ∧ w2.cell? ⟨w.heap.size, 3, none⟩ = some (.slice a2 ms.length c2) := ⟨hX2.cell 2 rfl, hX2.cell 3 rfl⟩; have hb3 := (Below.refl w2.heap.size w2).alloc (Nat.le_refl _) (.cells #[.slice b1 fs.length fs.length, .slice b2 ms.length ms.length] 111); have HS31 := Lib.hid ((HSB1.out.later hb2).later hb3); have HS32 := Lib.hid (hsb2.later hb3); have hX3 := hX2.next hb3; have hs3 : (w2.alloc (.cells #[.slice b1 fs.length fs.length, .slice b2 ms.length ms.length] 111)).cell? ⟨w.heap.size, 2, none⟩ = some (.slice a1 fs.length c1) ∧ (w2.alloc (.cells #[.slice b1 fs.length fs.length, .slice b2 ms.length ms.length] 111)).cell? ⟨w.heap.size, 3, none⟩ = some (.slice a2 ms.length c2) := ⟨hX3.cell 2 rfl, hX3.cell 3 rfl⟩; clear hsb2 hb2 hb3)
    | (go_simp; go_at_call 133; refine (HE1.out _ hX0).mono ?_; rintro e w1 ⟨b1, rfl, hb1, hsb1⟩; have hX1 := hX0.next hb1; have HSB1 := Lib.hid hsb1; have hs1 : w1.cell? ⟨w.heap.size, 2, none⟩ = some (.slice a1 fs.length c1) ∧ w1.cell? ⟨w.heap.size, 3, none⟩ = some (.slice a2 ms.length c2) := ⟨hX1.cell 2 rfl, hX1.cell 3 rfl⟩; clear hsb1 hb1))
  all_goals
    have hz3 := hX3.size
    have hlen : (fs.map Prod.fst ++ ms.map Prod.fst).length ≤ 1000000 := by simp; omega
    have cS := sort_any _ _ _ _ _ HO4.out hlen
    clear hs0 hs1 hs2 hs3 hX0 hX1 hX2 HS31 HS32 HSB1
    go_wp2_with fail
    refine cS.mono ?_
    rintro e w5 ⟨rfl, hb5, ho5⟩
    have hX5 := (hX4.nextB hb5 hz3).drew
    have hs5 : w5.drew.cell? ⟨w.heap.size, 2, none⟩ = some (.slice a1 fs.length c1) ∧ w5.drew.cell? ⟨w.heap.size, 3, none⟩ = some (.slice a2 ms.length c2) := ⟨hX5.cell 2 rfl, hX5.cell 3 rfl⟩
    have cC := compact_any _ _ _ _ w5.drew (own_drew ho5) hlen
    have HC := Lib.hid cC
    clear cS cC hb5 ho5 hX4 hs4 hb4
    have k1 : wrap64 ((fs.length : Int) + (ms.length : Int)) = (fs.length : Int) + (ms.length : Int) := by unfold wrap64; omega
    have k3 : IntKind.i64.wrap ((fs.length : Int) + (ms.length : Int)) = (fs.length : Int) + (ms.length : Int) := by
      simp [IntKind.wrap, IntKind.signed, IntKind.bits] <;> omega
    go_wp2_with fail
    go_region_held3 (fun WW => WW.cell? ⟨w.heap.size, 2, none⟩ = some (.slice a1 fs.length c1) ∧ WW.cell? ⟨w.heap.size, 3, none⟩ = some (.slice a2 ms.length c2)) (first | exact hs5 | exact hs6 | go_keep) (first
      | (go_simp; go_at_call 136; refine HC.out.mono ?_; rintro e w6 ⟨⟨a6, c6, rfl⟩, hb6⟩; have hX6 := hX5.nextB hb6 hz3; have hs6 : w6.cell? ⟨w.heap.size, 2, none⟩ = some (.slice a1 fs.length c1) ∧ w6.cell? ⟨w.heap.size, 3, none⟩ = some (.slice a2 ms.length c2) := ⟨hX6.cell 2 rfl, hX6.cell 3 rfl⟩))
    all_goals
      go_wp2
      go_ret
      exact OutB.of (b := distP ⟨n, ifc, fs, ms⟩) rfl ⟨by rw [← HR.out]; rfl, hX6.out⟩
end Go.Proofs.YtbejkphekfbfnaaGreat
