/- holds: whose addresses come to the heap, and to each point. -/
import Derived.Test.YtlbildodjnjniaaEsH
namespace Go.Proofs.Ytlbildodjnjniaa
open Go.RowKit

/-- The list, so far as the roots below x. -/
structure Ho (w wr : World) (n : Nat) (fs : List Fl) (v : Value) (hs : List (Int × Int)) (x : Int) : Prop where
  own : wr.ownsRow w.heap.size 62 2 v hs.length (pcs hs)
  bel : Below w.heap.size w wr
  mem : ∀ p : Int × Int, p ∈ hs ↔ -1 ≤ p.1 ∧ p.1 < x ∧ 0 ≤ p.2 ∧ p.2 < n ∧ Hld fs p.1 p.2
  len : (hs.length : Int) ≤ (x + 1) * n
  rng : -1 ≤ x ∧ x ≤ n
/-- Within a root's round: k of its list were put. -/
structure Hi (w wr : World) (n : Nat) (fs : List Fl) (v : Value) (hs : List (Int × Int)) (x : Int) (l : List Int) (k : Nat) : Prop where
  own : wr.ownsRow w.heap.size 62 2 v (hs ++ (l.take k).map fun y => (x, y)).length (pcs (hs ++ (l.take k).map fun y => (x, y)))
  bel : Below w.heap.size w wr
section
variable {w wr w' : World} {n : Nat} {fs : List Fl} {v : Value} {hs : List (Int × Int)} {x : Int} {l : List Int} {k : Nat}
theorem Ho.begin (H : Ho w wr n fs v hs x) (hb : Below wr.heap.size wr w') : Hi w w' n fs v hs x l 0 := by
  refine ⟨?_, H.bel.trans (hb.mono H.bel.size)⟩
  simp only [List.take_zero, List.map_nil, List.append_nil]
  exact ownsRow_keep H.own fun g hg => hb.block g (H.own.lt g hg).2
theorem Hi.fin (H : Hi w wr n fs v hs x l k) (hx : -1 ≤ x ∧ x < n) (hm : ∀ p : Int × Int, p ∈ hs ↔ -1 ≤ p.1 ∧ p.1 < x ∧ 0 ≤ p.2 ∧ p.2 < n ∧ Hld fs p.1 p.2) (hlen : (hs.length : Int) ≤ (x + 1) * n) (hk : k = l.length) (hl : l.length ≤ n) (hl2 : ∀ y, y ∈ l ↔ 0 ≤ y ∧ y < n ∧ Hld fs x y) :
    ∃ hs', Ho w wr n fs v hs' (x + 1) := by
  refine ⟨_, H.own, H.bel, fun p => ?_, ?_, by omega⟩
  · rw [hk, List.take_length, List.mem_append, hm p, List.mem_map]
    constructor
    · rintro (⟨h1, h2, h3⟩ | ⟨y, hy, rfl⟩)
      · exact ⟨h1, by omega, h3⟩
      · obtain ⟨h1, h2, h3⟩ := (hl2 y).1 hy
        exact ⟨hx.1, by show x < x + 1; omega, h1, h2, h3⟩
    · rintro ⟨h1, h2, h3, h4, h5⟩
      by_cases e : p.1 = x
      · exact .inr ⟨p.2, (hl2 _).2 ⟨h3, h4, by rw [← e]; exact h5⟩, by rw [← e]⟩
      · exact .inl ⟨h1, by omega, h3, h4, h5⟩
  · rw [List.length_append, List.length_map, List.length_take]
    have : (x + 1 + 1) * (n : Int) = (x + 1) * n + n := by rw [Int.add_mul (x + 1)]; simp
    rw [this]
    omega
theorem Hi.push (H : Hi w wr n fs v hs x l k) {y : Int} (hy : l[k]? = some y) (hl : (hs.length : Int) ≤ 1000000) (hl2 : l.length ≤ 1000) {W3 : World} (hW3 : wr.alloc (.cells #[.int .i64 x, .int .i64 y] 62) = W3) :
    ∃ g c w4, (Builtin.append_ #[64, 64] 64 #[v, .slice (some ⟨wr.heap.size, 0, none⟩) 1 1]).run Try.prog W3 = .ok (.slice (some ⟨g, 0, none⟩) ((hs ++ (l.take k).map fun y => (x, y)).length + 1) c) w4 ∧ Hi w w4 n fs (.slice (some ⟨g, 0, none⟩) ((hs ++ (l.take k).map fun y => (x, y)).length + 1) c) hs x l (k + 1) ∧ ∀ (B0 : Nat) (e : TypeId) (sz : Nat) (u : Value) (m : Nat) (xs : List Value), wr.ownsRow B0 e sz u m xs → e ≠ 62 → w4.ownsRow B0 e sz u m xs := by
  have hb3 : Below wr.heap.size wr W3 := by rw [← hW3]; exact (Below.refl _ _).alloc (Nat.le_refl _) _
  have nb3 : W3.heap[wr.heap.size]? = some (.cells #[.int .i64 x, .int .i64 y] 62 (0, 0)) := by rw [← hW3]; exact heap_new _ _ rfl
  have hb23 := H.bel.trans (hb3.mono H.bel.size)
  have hll : (hs ++ (l.take k).map fun y => (x, y)).length < 1000000000 := by
    rw [List.length_append, List.length_map, List.length_take]; omega
  obtain ⟨ga, ca, w4, hrun, hown, hgrow, hat, hlt4⟩ := run_appH (C := w.heap.size) (ownsRow_keep (w' := W3) H.own fun g hg => hb3.block g (H.own.lt g hg).2) nb3 hll hb23.size
  refine ⟨ga, ca, w4, hrun, ⟨?_, hb23.grown hgrow hb23.size (fun q hq => (H.own.lt q hq).1)⟩, fun B0 e sz u m xs ho he => ownsRow_keep ho fun g hg => ?_⟩
  rotate_left
  · have hg2 := (ho.lt g hg).2
    rw [hgrow.block g (Nat.lt_of_lt_of_le hg2 hb3.size) (fun e2 => ?_)]
    · exact hb3.block g hg2
    · obtain ⟨c1, k1⟩ := row_type ho hg
      obtain ⟨c2, k2⟩ := row_type H.own e2.symm
      rw [k1] at k2; simp at k2; exact he k2.2
  have e : hs ++ (l.take (k + 1)).map (fun y => (x, y)) = (hs ++ (l.take k).map fun y => (x, y)) ++ [(x, y)] := by
    rw [List.take_add_one, hy]; simp
  rw [e]
  generalize (hs ++ (l.take k).map fun y => (x, y)) = L0 at hown ⊢
  rw [pcs_append, show (L0 ++ [(x, y)]).length = L0.length + 1 by rw [List.length_append]; rfl]
  exact hown
end
set_option maxHeartbeats 1000000 in
theorem holds_any {w : World} {vg : Value} {n : Nat} {fs : List Fl} (G : GrAt w vg n fs) (S : Snd n fs) (hn : n ≤ 512) (hf : fs.length ≤ 20000) :
    Calls Try.prog 29 #[vg] w fun e w' => ∃ (v : Value) (hs : List (Int × Int)), e = .returned v ∧ Hid (w'.ownsRow w.heap.size 62 2 v hs.length (pcs hs) ∧ hs.length ≤ 1000000 ∧ Hol n fs hs) ∧ Below w.heap.size w w' := by
  have HG := hide G
  obtain ⟨bg, cg, rfl, hbg, _⟩ := G
  have HS := hide S
  have b1 : (n : Int) ≤ 512 := by omega
  clear S
  go_enter Try.func29, Try.ntmps29
  go_wp2
  go_loopg [3, 4] (n + 1) (fun K v i wr => ∃ (x : Int) (hs : List (Int × Int)), i = .int .i64 x ∧ (n - x).toNat ≤ K ∧ Hid (Ho w wr n fs v hs x))
  case atStart => exact ⟨-1, [], rfl, by omega, ⟨⟨rfl, .inl ⟨rfl, rfl⟩⟩, Below.refl _ _, fun p => by simp; omega, by simp, by omega⟩⟩
  case round =>
    obtain ⟨x, hs, rfl, hk, HJ⟩ := hrel
    obtain ⟨G1, rfl⟩ : ∃ G1, G1 = gk := ⟨gk, rfl⟩
    obtain ⟨av, cv, hv⟩ := row_form HJ.out.own
    subst hv
    obtain ⟨r1, r2⟩ := HJ.out.rng
    have p1 : ∀ W : World, Calls Try.prog 26 #[.int .i64 x] W fun e w' => e = .returned (.int .i64 (x + 1)) ∧ W = w' := fun W => place_any (w := W) x (by omega) (by omega)
    by_cases hlt : x < n
    · have blt : x + 1 < (n : Int) + 1 := by omega
      have hc := addresses_any (HG.out.below HJ.out.bel) HS.out hn hf r1 hlt
      go_wp2_with (first
        | (go_at_call 26; refine (p1 _).mono ?_; rintro e w2 ⟨rfl, rfl⟩)
        | (go_at_call 33; refine hc.mono ?_; rintro e w3 ⟨vl, l, rfl, HL, hb3⟩; obtain ⟨hcl, hll, hlm⟩ := HL.out; obtain ⟨al, cl, hvl⟩ := row_form hcl; subst hvl; have HCL := hide hcl; have HLM := hide hlm; have HB3 := hide hb3; have HH := hide (HJ.out.begin (l := l) hb3); clear hcl hlm hb3))
      generalize hm : l.length = m at *
      have HMm := hide hm
      have bm : (m : Int) ≤ 512 := by omega
      have HMEM := hide (And.intro HJ.out.mem HJ.out.len)
      have hhs : (hs.length : Int) ≤ 1000000 := by
        have h1 := HJ.out.len
        have h2 : (x + 1) * n ≤ 513 * 512 := Int.mul_le_mul (by omega) (by omega) (by omega) (by omega)
        omega
      clear hm HJ hc p1
      generalize wr.heap.size = B0 at HCL
      go_loopg [3, 18] m (fun K2 v i wr2 => ∃ k : Nat, i = .int .i64 k ∧ k ≤ m ∧ m - k ≤ K2 ∧ Hid (Hi w wr2 n fs v hs x l k ∧ wr2.ownsRow B0 3 1 (.slice al m cl) m (ints l)))
      case atStart => exact ⟨0, rfl, Nat.zero_le _, Nat.le_refl _, HH, HCL⟩
      case round =>
        obtain ⟨k, rfl, hk2, hgk, HI⟩ := hrel
        obtain ⟨G2, rfl⟩ : ∃ G2, G2 = gk := ⟨gk, rfl⟩
        obtain ⟨a2, c2, hv2⟩ := row_form HI.out.1.own
        subst hv2
        by_cases hlt2 : k < m
        · obtain ⟨y, hy⟩ : ∃ y, l[k]? = some y := ⟨l[k]'(by rw [HMm.out]; exact hlt2), by simp⟩
          obtain ⟨g, cg2, hao, c0, _⟩ := row_cell HI.out.2 (ints_get hy)
          obtain rfl : al = some ⟨g, 0, none⟩ := (Value.slice.inj hao).1
          obtain ⟨W3, hW3⟩ : ∃ W3, wr.alloc (.cells #[.int .i64 x, .int .i64 y] 62) = W3 := ⟨_, rfl⟩
          obtain ⟨ga, ca, w4, hrun, hnx, hkp⟩ := HI.out.1.push hy hhs (by rw [HMm.out]; omega) hW3
          have HNX := hide (And.intro hnx (hkp _ _ _ _ _ _ HI.out.2 (by decide)))
          have bk : (k : Int) < (m : Int) := by omega
          generalize (hs ++ (l.take k).map fun y => (x, y)).length = nl at hrun HNX ⊢
          clear hnx hkp HI hy hao
          go_wp2_with (at_builtin; refine wpList_append_eq rfl _ _ 64 rfl rfl rfl hrun ?_)
          go_roundg (G2 - 1)
          case measure => omega
          case rel => exact ⟨k + 1, by go_num, by omega, by omega, HNX⟩
        · obtain rfl : k = m := by omega
          obtain ⟨hs', hfin⟩ := HI.out.1.fin ⟨r1, hlt⟩ HMEM.out.1 HMEM.out.2 HMm.out.symm (by rw [HMm.out]; exact hll) HLM.out
          have HF := hide hfin
          clear hfin HI
          go_wp2
          go_roundg (G1 - 1)
          case measure => omega
          case rel => exact ⟨x + 1, hs', rfl, by omega, HF⟩
    · obtain rfl : x = n := by omega
      have bge : ¬ ((n : Int) + 1 < (n : Int) + 1) := by omega
      go_wp2_with (go_at_call 26; refine (p1 _).mono ?_; rintro e w2 ⟨rfl, rfl⟩)
      go_ret
      refine ⟨_, hs, rfl, hide ⟨HJ.out.own, ?_, HJ.out.mem⟩, HJ.out.bel⟩
      have h1 := HJ.out.len
      have h2 : ((n : Int) + 1) * n ≤ 513 * 512 := Int.mul_le_mul (by omega) (by omega) (by omega) (by omega)
      omega
end Go.Proofs.Ytlbildodjnjniaa
