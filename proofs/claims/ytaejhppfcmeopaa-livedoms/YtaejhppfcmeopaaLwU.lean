/- The document's visit. -/
import Derived.Test.YtaejhppfcmeopaaLwT
namespace Go.Proofs.Ytaejhppfcmeopaa
open Go.RowKit
/-- A visit's memory: what is begun lies at g, what is done is a list of one's own. -/
structure Vis (w0 w : World) (n g : Nat) (vl : Value) (s : Nat × List Nat) : Prop where
  t : Tr1 w g n (fun i => s.1.testBit i)
  r : w.ownsRow w0.heap.size 3 1 vl s.2.length (ints (zs s.2))
  b : Below w0.heap.size w0 w
  lo : w0.heap.size ≤ g
section
variable {w0 w w' : World} {n g : Nat} {vl : Value} {s : Nat × List Nat}
theorem Vis.ne (V : Vis w0 w n g vl s) : vl.ownBlock ≠ some g := fun e => by
  obtain ⟨cur, h1⟩ := row_type V.r e
  obtain ⟨arr, h2, _⟩ := V.t.c
  rw [h1] at h2
  simp at h2
theorem Vis.mark (V : Vis w0 w n g vl s) (x : Nat) : Vis w0 (w.setCell ⟨g, x, none⟩ (.bool true)) n g vl (s.1 ||| 2 ^ x, s.2) := by
  refine ⟨?_, ownsRow_keep V.r (fun h hh => Below.heap_setCell _ _ _ _ (fun e => V.ne (by rw [hh]; exact congrArg some (show h = g from e)))), V.b.setCell V.lo _, V.lo⟩
  obtain ⟨arr, h1, h2, h3⟩ := V.t.set (i := x) true
  refine ⟨arr, h1, h2, fun i hi => ?_⟩
  rw [h3 i hi]
  by_cases e : i = x
  · subst e; rw [up_same, Nat.testBit_or, Nat.testBit_two_pow]; simp
  · have e2 : x ≠ i := fun h => e h.symm
    rw [up_other _ _ e, Nat.testBit_or, Nat.testBit_two_pow]; simp [e2]
theorem Vis.push (V : Vis w0 w n g vl s) (x : Nat) (hl : s.2.length ≤ 512) : ∃ g2 cap w', (Builtin.append_ #[34, 34] 34 #[vl, .slice (some ⟨w.heap.size, 0, none⟩) 1 1]).run Try.prog (w.alloc (.cells #[.int .i64 x] 3)) = .ok (.slice (some ⟨g2, 0, none⟩) (s.2.length + 1) cap) w' ∧ Vis w0 w' n g (.slice (some ⟨g2, 0, none⟩) (s.2.length + 1) cap) (s.1, s.2 ++ [x]) := by
  have hB1 := (Below.refl w.heap.size w).alloc (Nat.le_refl _) (.cells #[.int .i64 x] 3)
  obtain ⟨g2, cap, w3, hr, hown, hgrow, _, _⟩ := run_appI (x := (x : Int)) (ownsRow_keep V.r (fun h hh => hB1.block h (V.r.lt h hh).2)) (heap_new w (.cells #[.int .i64 x] 3) rfl) (by omega) (Nat.le_trans V.b.size hB1.size)
  have hne := V.ne
  refine ⟨g2, cap, w3, hr, V.t.keep ?_, ?_, ?_, V.lo⟩
  · exact (hgrow.block g (Nat.lt_of_lt_of_le V.t.lt hB1.size) (fun e => hne e.symm)).trans (hB1.block g V.t.lt)
  · have e1 : zs (s.2 ++ [x]) = zs s.2 ++ [(x : Int)] := by simp [zs]
    have e2 : ints (zs s.2 ++ [(x : Int)]) = ints (zs s.2) ++ [.int .i64 x] := by simp [ints]
    rw [e1, e2]
    simp only [List.length_append, List.length_cons, List.length_nil]
    exact hown
  · refine ⟨hgrow.os.trans (hB1.os.trans V.b.os), hgrow.tape.trans (hB1.tape.trans V.b.tape), hgrow.output.trans (hB1.output.trans V.b.output), Nat.le_trans V.b.size (Nat.le_trans hB1.size hgrow.size), fun j hj => ?_⟩
    have hj2 := Nat.lt_of_lt_of_le hj V.b.size
    exact ((hgrow.block j (Nat.lt_of_lt_of_le hj2 hB1.size) (fun e => by have := (V.r.lt j e.symm).1; omega)).trans (hB1.block j hj2)).trans (V.b.block j hj)
end
section
variable {w0 : World} {n g cap : Nat} {ao : Option Addr} {bs : List Blk} {K : Nat}
set_option maxRecDepth 100000 in
set_option maxHeartbeats 2000000 in
theorem rvisit_any {u : Nat → Nat} (uu : (∀ a b, Sbs a b → u b ≤ u a) ∧ ∀ a x, x < 512 → a.testBit x = false → u (a ||| 2 ^ x) < u a) (S : Snd bs K) (hn : bs.length = n) (R : BlksAt w0 (.slice ao n cap) bs) : ∀ (k x : Nat) (s : Nat × List Nat) (vl : Value) (w : World), u s.1 < k → x < n → s.1.testBit x = false → Sm s.1 → s.2.length + un s.1 ≤ 512 → Vis w0 w n g vl s →
    Calls Try.prog 27 #[.slice ao n cap, .int .i64 x, .slice (some ⟨g, 0, none⟩) n n, vl] w fun e w' => ∃ v', e = .returned v' ∧ Vis w0 w' n g v' (vsF (goN bs) k x s)
  | 0, _, _, _, _, h, _, _, _, _, _ => absurd h (Nat.not_lt_zero _)
  | k + 1, x, s, vl, w, hu, hx, hb, sm, hlen, V => by
    have HI := hide (fun (y : Nat) (s' : Nat × List Nat) (vl' : Value) (w' : World) (h1 : u s'.1 < k) (h2 : y < n) (h3 : s'.1.testBit y = false) (h4 : Sm s'.1) (h5 : s'.2.length + un s'.1 ≤ 512) (h6 : Vis w0 w' n g vl' s') => rvisit_any uu S hn R k y s' vl' w' h1 h2 h3 h4 h5 h6)
    have hl := S.l
    obtain ⟨b, hbb⟩ : ∃ b, bs[x]? = some b := ⟨bs[x]'(by omega), by simp⟩
    rw [vsF_new hb, goN_of hbb]
    have h512 : ∀ x, ∀ y ∈ goN bs x, y < 512 := fun x y hy => by have := goN_lt S x y hy; omega
    have hu1 : u (s.1 ||| 2 ^ x) < u s.1 := uu.2 _ _ (by omega) hb
    have hun := un_add (show x < 512 by omega) hb
    have V1 := V.mark x
    have HK := hide (fun (q : Nat) => show u (vsL (goN bs) k ((b.n.map Int.toNat).take q) (s.1 ||| 2 ^ x, s.2)).1 < k ∧ Sm (vsL (goN bs) k ((b.n.map Int.toNat).take q) (s.1 ||| 2 ^ x, s.2)).1 ∧ (vsL (goN bs) k ((b.n.map Int.toNat).take q) (s.1 ||| 2 ^ x, s.2)).2.length + un (vsL (goN bs) k ((b.n.map Int.toNat).take q) (s.1 ||| 2 ^ x, s.2)).1 ≤ 511 from by
      obtain ⟨a1, a2, a3⟩ := vsL_keeps h512 k ((b.n.map Int.toNat).take q) (s.1 ||| 2 ^ x, s.2) (fun y hy => h512 x y (by rw [goN_of hbb]; exact List.mem_of_mem_take hy)) (sm.add (show x < 512 by omega))
      have a4 := uu.1 _ _ a2
      exact ⟨by simp only at a4; omega, a1, by simp only at a3; omega⟩)
    obtain ⟨g', o, au, cu, ad, cd, an, cn, rfl, hg, e0, e1, e2, IU, ID, IN⟩ := R.get hbb
    have HC := hide (fun (W : World) (hW : Below w0.heap.size w0 W) => show W.cell? ⟨g', o + x * 3 + 2, none⟩ = some (.slice an b.n.length cn) ∧ IntsAt W (.slice an b.n.length cn) b.n ∧ g' < W.heap.size from ⟨by rw [keep_cell hW hg]; exact e2, IN.below hW, Nat.lt_of_lt_of_le hg hW.size⟩)
    have HS := hide S
    have HN := hide hn
    have HB := hide hbb
    have HV1 := hide V1
    have HR := hide R
    obtain ⟨ct, ft⟩ := V.t.cell hx
    have hlt := V.t.lt
    have hlen2 := IN.len
    generalize hmn : b.n.length = mn at *
    have HMN := hide hmn
    have bx : (x : Int) < (n : Int) := by omega
    have bn : (n : Int) ≤ 512 := by omega
    clear V V1 IU ID IN e0 e1 e2 hmn hbb S sm hb hun hu1 h512 hlen hu R hn
    go_enter Try.func27, Try.ntmps27
    go_wp2
    go_loopg [3, 9, 10] mn (fun G v3 v9 _ wr => ∃ (q : Nat) (v3' : Value), v3 = v3' ∧ v9 = .int .i64 q ∧ q ≤ mn ∧ mn - q ≤ G ∧ Hid (Vis w0 wr n g v3' (vsL (goN bs) k ((b.n.map Int.toNat).take q) (s.1 ||| 2 ^ x, s.2))))
    case atStart => exact ⟨0, _, rfl, rfl, Nat.zero_le _, Nat.le_refl _, HV1⟩
    case round =>
      
      obtain ⟨q, v3, h3, rfl, hq, hkk, HV⟩ := hrel
      rw [h3]
      clear h3
      obtain ⟨W1, rfl⟩ : ∃ X, X = wr := ⟨wr, rfl⟩
      clear HV1 ct ft hlt
      obtain ⟨c2, IN, hgl⟩ := HC.out W1 HV.out.b
      obtain ⟨hk1, hk2, hk3⟩ := HK.out q
      by_cases hql : q < mn
      · obtain ⟨y0, hy0⟩ : ∃ y, b.n[q]? = some y := ⟨b.n[q]'(by rw [HMN.out]; exact hql), by simp⟩
        obtain ⟨y, rfl, hyn⟩ := HS.out.n x b HB.out y0 (List.mem_of_getElem? hy0)
        rw [HN.out] at hyn
        obtain ⟨gn, on, rfl, ln, kn⟩ := IN.cell hy0
        have hnx : vsL (goN bs) k ((b.n.map Int.toNat).take (q + 1)) (s.1 ||| 2 ^ x, s.2) = vsF (goN bs) k y (vsL (goN bs) k ((b.n.map Int.toNat).take q) (s.1 ||| 2 ^ x, s.2)) := by
          rw [List.take_add_one, List.getElem?_map, hy0]
          simp only [Option.map_some, Option.toList_some, Int.toNat_natCast]
          rw [vsL_snoc]
        have HX := hide hnx
        have bq : (q : Int) < (mn : Int) := by omega
        have byn : (y : Int) < (n : Int) := by omega
        have ky := (HV.out.t.cell hyn).1
        have ly := HV.out.t.lt
        have bm : (mn : Int) ≤ 9223372036854775807 := by omega
        clear hnx hy0 IN
        generalize vsL (goN bs) k ((b.n.map Int.toNat).take q) (s.1 ||| 2 ^ x, s.2) = s' at *
        cases hf : s'.1.testBit y with
        | true =>
          rw [hf] at ky
          have HV2 : Hid (Vis w0 W1 n g v3 (vsF (goN bs) k y s')) := hide (by
            obtain ⟨k', rfl⟩ : ∃ k', k = k' + 1 := ⟨k - 1, by omega⟩
            rw [vsF_in hf]; exact HV.out)
          rw [← HX.out] at HV2
          go_wp2
          go_roundg (mn - (q + 1))
          case measure => omega
          case rel => exact ⟨q + 1, _, rfl, by go_num, by omega, Nat.le_refl _, HV2⟩
        | false =>
          rw [hf] at ky
          have hcall := HI.out y s' v3 W1 hk1 hyn hf hk2 (by omega) HV.out
          rw [← HX.out] at hcall
          go_wp2_with (go_at_call 27; (with_reducible refine hcall.mono ?_); rintro e w5 ⟨v', rfl, V5⟩; have HV5 := hide V5; clear V5)
          go_roundg (mn - (q + 1))
          case measure => omega
          case rel => exact ⟨q + 1, _, rfl, by go_num, by omega, Nat.le_refl _, HV5⟩
      · obtain rfl : mn = q := by omega
        obtain ⟨g2, cp, w7, hr, V7⟩ := HV.out.push x (by omega)
        rw [List.take_of_length_le (by rw [List.length_map, HMN.out]; exact Nat.le_refl _)] at hr V7
        have HRUN := hide hr
        have HV7 := hide V7
        clear hr V7
        go_wp2_with (refine wpList_append_eq (by rfl) _ _ 34 (by rfl) (by rfl) (by rfl) HRUN.out ?_)
        go_ret
        exact ⟨_, rfl, HV7.out⟩
end
end Go.Proofs.Ytaejhppfcmeopaa
