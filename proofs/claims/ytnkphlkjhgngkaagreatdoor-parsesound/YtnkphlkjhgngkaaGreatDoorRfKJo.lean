/- The document's Sound. -/
import Derived.Test.YtnkphlkjhgngkaaGreatDoorRfGJo
import Derived.Test.YtnkphlkjhgngkaaGreatDoorRfIJo
import Derived.Test.YtnkphlkjhgngkaaGreatDoorRfJJo
namespace Go.Proofs.YtnkphlkjhgngkaaGreatDoor
open Go.RowKit
attribute [local go_sem ↓] Go.wp_at_zero Go.wp_at_succ

theorem isS_any : ∀ (n : Nat) (k : Int) (x : List UInt8) (m : Int) (ks : List Tr) (ao : Option Addr) (c : Nat) (s : Int) (S : Nat → Prop) (w : World), Fit n (.mk k x m ks) → (∀ b, S b → b < w.heap.size) → KT w S (.mk k x m ks) (.slice ao ks.length c) →
    Calls Tryz.prog 28 #[.agg #[.int .i64 k, .string ⟨x.toArray⟩, .int .i64 m, .slice ao ks.length c], .int .i64 s] w fun e w' => e = .returned (.bool (isP n (.mk k x m ks) s)) ∧ Below w.heap.size w w' := by
  intro n
  induction n with
  | zero => intro k x m ks ao c s S w h; exact h.elim
  | succ n ih =>
    intro k x m ks ao c s S w hF hS hk
    obtain ⟨hF1, hF2, hF3⟩ := hF
    replace hF1 : ks.length ≤ 20000 := hF1
    replace hF3 : ∀ t ∈ ks, Fit n t := hF3
    have hL := Lst.of hk
    have hxm : (⟨x.toArray⟩ : ByteArray).size ≤ maxLen := by
      show x.toArray.size ≤ maxLen
      rw [List.size_toArray]; exact hF2
    obtain ⟨⟨xs, rest, tx, ok⟩, hsh⟩ : ∃ sh, shp (.mk k x m ks) s = sh := ⟨_, rfl⟩
    have HR : isP (n + 1) (.mk k x m ks) s = chk (isP n) (xs, rest, tx, ok) (.mk k x m ks) := by
      show chk (isP n) (shp (.mk k x m ks) s) _ = _
      rw [hsh]
    have cSh : ∀ W, Below w.heap.size w W → Calls Tryz.prog 48 #[.agg #[.int .i64 k, .string ⟨x.toArray⟩, .int .i64 m, .slice ao ks.length c], .int .i64 s] W (OutH W (xs, rest, tx, ok)) := fun W hb => by
      have h := shape_any s k x m ks ao c S W (fun b h => Nat.lt_of_lt_of_le (hS b h) hb.size) (hk.fr (fun b h => hb.block b (hS b h)) (fun _ h => h))
      rw [hsh] at h; exact h
    cases ok with
    | false => exact isF_ok n k x m ks ao c s w hxm xs rest tx (Lib.hid (HR.trans (chk_no _ _ _ _ _))) cSh
    | true =>
      by_cases h1 : ks.length < xs.length
      · exact isF_len n k x m ks ao c s w hxm xs rest tx h1 (Lib.hid (HR.trans (chk_len h1))) cSh
      by_cases hr : rest = 0
      · by_cases h2 : xs.length < ks.length
        · exact isF_more n k x m ks ao c s w hxm xs rest tx hr h2 (Lib.hid (HR.trans (by rw [hr]; exact chk_more h2))) cSh
        · have h3 : xs.length = ks.length := by omega
          by_cases hm : m = 0
          · have HG := HR.trans (chk_go (by omega) (.inr (by omega)) (.inl hm))
            by_cases t0 : tx = 0
            · by_cases hx : x = []
              · exact is_000 n (Lib.hid ih) k x m ks ao c s S w hF1 hxm hF3 hS hL xs rest tx hr h3 hm t0 hx (Lib.hid (by rw [HG, t0, hx]; rfl)) cSh
              · exact isF_tx00 n k x m ks ao c s w hxm xs rest tx hr h3 hm t0 hx (Lib.hid (by rw [HG, t0, show (x == []) = false from by simpa using hx]; rfl)) cSh
            · by_cases t1 : tx = 1
              · cases hx : nameP x with
                | true => exact is_001 n (Lib.hid ih) k x m ks ao c s S w hF1 hxm hF3 hS hL xs rest tx hr h3 hm t1 hx (Lib.hid (by rw [HG, t1, hx]; rfl)) cSh
                | false => exact isF_nm00 n k x m ks ao c s w hxm xs rest tx hr h3 hm t1 hx (Lib.hid (by rw [HG, t1, hx]; rfl)) cSh
              · exact is_002 n (Lib.hid ih) k x m ks ao c s S w hF1 hxm hF3 hS hL xs rest tx hr h3 hm (beq_false_of_ne t0) (beq_false_of_ne t1) (Lib.hid (by rw [HG, show (tx != 0) = true from bne_iff_ne.2 t0, show (tx != 1) = true from bne_iff_ne.2 t1]; rfl)) cSh
          · cases hk2 : numK k with
            | false => exact isF_num0 n k x m ks ao c s w hxm xs rest tx hr h3 hm hk2 (Lib.hid (HR.trans (chk_num hm hk2))) cSh
            | true =>
              have HG := HR.trans (chk_go (by omega) (.inr (by omega)) (.inr hk2))
              by_cases t0 : tx = 0
              · by_cases hx : x = []
                · exact is_010 n (Lib.hid ih) k x m ks ao c s S w hF1 hxm hF3 hS hL xs rest tx hr h3 hm hk2 t0 hx (Lib.hid (by rw [HG, t0, hx]; rfl)) cSh
                · exact isF_tx01 n k x m ks ao c s w hxm xs rest tx hr h3 hm hk2 t0 hx (Lib.hid (by rw [HG, t0, show (x == []) = false from by simpa using hx]; rfl)) cSh
              · by_cases t1 : tx = 1
                · cases hx : nameP x with
                  | true => exact is_011 n (Lib.hid ih) k x m ks ao c s S w hF1 hxm hF3 hS hL xs rest tx hr h3 hm hk2 t1 hx (Lib.hid (by rw [HG, t1, hx]; rfl)) cSh
                  | false => exact isF_nm01 n k x m ks ao c s w hxm xs rest tx hr h3 hm hk2 t1 hx (Lib.hid (by rw [HG, t1, hx]; rfl)) cSh
                · exact is_012 n (Lib.hid ih) k x m ks ao c s S w hF1 hxm hF3 hS hL xs rest tx hr h3 hm hk2 (beq_false_of_ne t0) (beq_false_of_ne t1) (Lib.hid (by rw [HG, show (tx != 0) = true from bne_iff_ne.2 t0, show (tx != 1) = true from bne_iff_ne.2 t1]; rfl)) cSh
      · have h3 : xs.length ≤ ks.length := by omega
        by_cases hm : m = 0
        · have HG := HR.trans (chk_go (by omega) (.inl hr) (.inl hm))
          by_cases t0 : tx = 0
          · by_cases hx : x = []
            · exact is_100 n (Lib.hid ih) k x m ks ao c s S w hF1 hxm hF3 hS hL xs rest tx hr h3 hm t0 hx (Lib.hid (by rw [HG, t0, hx]; rfl)) cSh
            · exact isF_tx10 n k x m ks ao c s w hxm xs rest tx hr h3 hm t0 hx (Lib.hid (by rw [HG, t0, show (x == []) = false from by simpa using hx]; rfl)) cSh
          · by_cases t1 : tx = 1
            · cases hx : nameP x with
              | true => exact is_101 n (Lib.hid ih) k x m ks ao c s S w hF1 hxm hF3 hS hL xs rest tx hr h3 hm t1 hx (Lib.hid (by rw [HG, t1, hx]; rfl)) cSh
              | false => exact isF_nm10 n k x m ks ao c s w hxm xs rest tx hr h3 hm t1 hx (Lib.hid (by rw [HG, t1, hx]; rfl)) cSh
            · exact is_102 n (Lib.hid ih) k x m ks ao c s S w hF1 hxm hF3 hS hL xs rest tx hr h3 hm (beq_false_of_ne t0) (beq_false_of_ne t1) (Lib.hid (by rw [HG, show (tx != 0) = true from bne_iff_ne.2 t0, show (tx != 1) = true from bne_iff_ne.2 t1]; rfl)) cSh
        · cases hk2 : numK k with
          | false => exact isF_num1 n k x m ks ao c s w hxm xs rest tx hr h3 hm hk2 (Lib.hid (HR.trans (chk_num hm hk2))) cSh
          | true =>
            have HG := HR.trans (chk_go (by omega) (.inl hr) (.inr hk2))
            by_cases t0 : tx = 0
            · by_cases hx : x = []
              · exact is_110 n (Lib.hid ih) k x m ks ao c s S w hF1 hxm hF3 hS hL xs rest tx hr h3 hm hk2 t0 hx (Lib.hid (by rw [HG, t0, hx]; rfl)) cSh
              · exact isF_tx11 n k x m ks ao c s w hxm xs rest tx hr h3 hm hk2 t0 hx (Lib.hid (by rw [HG, t0, show (x == []) = false from by simpa using hx]; rfl)) cSh
            · by_cases t1 : tx = 1
              · cases hx : nameP x with
                | true => exact is_111 n (Lib.hid ih) k x m ks ao c s S w hF1 hxm hF3 hS hL xs rest tx hr h3 hm hk2 t1 hx (Lib.hid (by rw [HG, t1, hx]; rfl)) cSh
                | false => exact isF_nm11 n k x m ks ao c s w hxm xs rest tx hr h3 hm hk2 t1 hx (Lib.hid (by rw [HG, t1, hx]; rfl)) cSh
              · exact is_112 n (Lib.hid ih) k x m ks ao c s S w hF1 hxm hF3 hS hL xs rest tx hr h3 hm hk2 (beq_false_of_ne t0) (beq_false_of_ne t1) (Lib.hid (by rw [HG, show (tx != 0) = true from bne_iff_ne.2 t0, show (tx != 1) = true from bne_iff_ne.2 t1]; rfl)) cSh
set_option maxRecDepth 20000 in
set_option maxHeartbeats 4000000 in
theorem within_any (k : Int) (x : List UInt8) (m : Int) (ks : List Tr) (ao : Option Addr) (c : Nat) (S : Nat → Prop) (w : World) (hn : cntN (.mk k x m ks) ≤ 10000000) (hS : ∀ b, S b → b < w.heap.size) (hk : KT w S (.mk k x m ks) (.slice ao ks.length c)) :
    Calls Tryz.prog 27 #[.agg #[.int .i64 k, .string ⟨x.toArray⟩, .int .i64 m, .slice ao ks.length c], .int .i64 0, .int .i64 0] w fun e w' => e = .returned (.bool (smallT (.mk k x m ks))) ∧ Below w.heap.size w w' := by
  have hX0 := Hx.start (w := w) (c0 := .int .i64 k) (c1 := .string ⟨x.toArray⟩) (c2 := .int .i64 m) (c3 := .slice ao ks.length c)
  have cZ := size_any 10000000 k x m ks ao c S _ hn (Nat.le_refl _) (fun b hb => Nat.lt_of_lt_of_le (hS b hb) hX0.out.size) (hk.fr (fun b hb => hX0.out.block b (hS b hb)) (fun _ h => h))
  have hs : smallT (.mk k x m ks) = (decide (1 + cntNL ks ≤ 20000) && decide (depNL ks + 1 ≤ 100)) := smallT_iff (.mk k x m ks)
  have hd : depNL ks + 1 ≤ 1 + cntNL ks := depN_le (.mk k x m ks)
  replace hn : 1 + cntNL ks ≤ 10000000 := hn
  obtain ⟨N, hN⟩ : ∃ N, 1 + cntNL ks = N := ⟨_, rfl⟩
  obtain ⟨D, hD⟩ : ∃ D, depNL ks + 1 = D := ⟨_, rfl⟩
  rw [hN] at hs hn hd cZ
  rw [hD] at hs hd cZ
  clear hN hD
  by_cases h1 : N ≤ 20000
  · have HX : Hid (smallT (.mk k x m ks) = decide ((D : Int) ≤ 100)) := Lib.hid (by rw [hs, decide_eq_true h1, Bool.true_and]; exact decide_eq_decide.2 (by omega))
    clear hs
    go_enter Tryz.func27, Tryz.ntmps27
    go_wp2_with (go_at_call 25; refine cZ.mono ?_; rintro e w1 ⟨rfl, hb1⟩)
    go_ret
    exact ⟨congrArg (fun b => Ending.returned (Value.bool b)) HX.out.symm, (hX0.next hb1).out⟩
  · have HX : Hid (smallT (.mk k x m ks) = false) := Lib.hid (by rw [hs, decide_eq_false h1]; rfl)
    clear hs
    go_enter Tryz.func27, Tryz.ntmps27
    go_wp2_with (go_at_call 25; refine cZ.mono ?_; rintro e w1 ⟨rfl, hb1⟩)
    go_ret
    exact ⟨congrArg (fun b => Ending.returned (Value.bool b)) HX.out.symm, (hX0.next hb1).out⟩
set_option maxRecDepth 20000 in
set_option maxHeartbeats 4000000 in
theorem refSound_any (k : Int) (x : List UInt8) (m : Int) (ks : List Tr) (ao : Option Addr) (c : Nat) (S : Nat → Prop) (w : World) (hn : cntN (.mk k x m ks) ≤ 10000000) (ht : ∀ n, txtT n (.mk k x m ks)) (hS : ∀ b, S b → b < w.heap.size) (hk : KT w S (.mk k x m ks) (.slice ao ks.length c)) :
    Calls Tryz.prog 13 #[.agg #[.int .i64 k, .string ⟨x.toArray⟩, .int .i64 m, .slice ao ks.length c]] w fun e w' => e = .returned (.bool (soundT (.mk k x m ks))) ∧ Below w.heap.size w w' := by
  have HR : Hid (soundT (.mk k x m ks) = (smallT (.mk k x m ks) && ((k == 1) && (((x == []) && (m == 0)) && ks.all (decB 97))))) := rfl
  have hX0 := Hx.start (w := w) (c0 := .int .i64 k) (c1 := .string ⟨x.toArray⟩) (c2 := .int .i64 m) (c3 := .slice ao ks.length c)
  by_cases h1 : k = 1
  · subst h1
    by_cases h2 : x = []
    · subst h2
      by_cases h3 : m = 0
      · subst h3
        have cW := within_any 1 [] 0 ks ao c S _ hn (fun b hb => Nat.lt_of_lt_of_le (hS b hb) hX0.out.size) (hk.fr (fun b hb => hX0.out.block b (hS b hb)) (fun _ h => h))
        have hL := Lst.of hk
        cases hs : smallT (.mk 1 [] 0 ks) with
        | false =>
          have HX : Hid (soundT (.mk 1 [] 0 ks) = false) := HR.out.trans (by rw [hs]; rfl)
          rw [hs] at cW
          clear hs HR hn ht hk
          go_enter Tryz.func13, Tryz.ntmps13
          go_wp2_with (go_at_call 27; refine cW.mono ?_; rintro e w1 ⟨rfl, hb1⟩)
          go_ret
          exact ⟨congrArg (fun b => Ending.returned (Value.bool b)) HX.out.symm, (hX0.next hb1).out⟩
        | true =>
          have HR1 : Hid (soundT (.mk 1 [] 0 ks) = ks.all (decB 97)) := HR.out.trans (by rw [hs]; rfl)
          have hF3 : ∀ t ∈ ks, Fit 99 t := (fit_of_small hs ht).2.2
          have hF1 : ks.length ≤ 20000 := (fit_of_small hs ht).1
          rw [hs] at cW
          clear hs HR hn ht hk
          go_enter Tryz.func13, Tryz.ntmps13
          go_wp2_with (go_at_call 27; refine cW.mono ?_; rintro e w1 ⟨rfl, hb1⟩; have hX1 := hX0.next hb1; obtain ⟨x0, x1, x2, x3⟩ := hX1.cells)
          go_loopw [3] (fun v3 wr => ∃ j : Nat, j ≤ ks.length ∧ v3 = .int .i64 j ∧ Below w1.heap.size w1 wr ∧ Hid (∀ (i : Nat) a, i < j → ks[i]? = some a → decB 97 a = true)) (fun v3 _ => ks.length - (intOf v3).toNat)
          case atStart => exact ⟨0, Nat.zero_le _, rfl, Below.refl _ _, Lib.hid fun i a h => absurd h (Nat.not_lt_zero _)⟩
          case round =>
            obtain ⟨j, hj, rfl, hbr, HP⟩ := hrel
            have hX := hX1.next hbr
            clear x0 x1 x2 x3
            obtain ⟨x0, x1, x2, x3⟩ := hX.cells
            by_cases hlt : j < ks.length
            · obtain ⟨a, ha⟩ : ∃ t, ks[j]? = some t := ⟨_, List.getElem?_eq_getElem hlt⟩
              obtain ⟨g, o, a0, n0, q0, hao, y0, y1, y2, y3, hg, hka⟩ := hL.kid ha hS
              subst hao
              have z0 := (hX.out.cell (p := ⟨g, o + j * 4, none⟩) hg).trans y0
              have z1 := (hX.out.cell (p := ⟨g, o + j * 4 + 1, none⟩) hg).trans y1
              have z2 := (hX.out.cell (p := ⟨g, o + j * 4 + 2, none⟩) hg).trans y2
              have z3 := (hX.out.cell (p := ⟨g, o + j * 4 + 3, none⟩) hg).trans y3
              have hFa := hF3 a (List.mem_of_getElem? ha)
              have HA := Lib.hid ha
              have hka' : KT wr S a (.slice a0 n0 q0) := hka.fr (fun b hb => hX.out.block b (hS b hb)) (fun _ h => h)
              obtain ⟨ak, av, am, aks⟩ := a
              obtain ⟨_, _, e⟩ := (Lst.of hka').slice
              injection e with e4 e5 e7
              clear e4 e7
              subst e5
              have cI := isS_any 99 ak av am aks a0 q0 1 S wr hFa (fun b hb => Nat.lt_of_lt_of_le (hS b hb) hX.out.size) hka'
              rw [isP_dec 97 _ hFa] at cI
              simp only [Tr.kind, Tr.text, Tr.num] at z0 z1 z2
              clear ha hka hka' hFa y0 y1 y2 y3
              cases hp : decB 97 (.mk ak av am aks) with
              | false =>
                have HX : Hid (soundT (.mk 1 [] 0 ks) = false) := HR1.out.trans (by
                  rw [List.all_eq_false]
                  exact ⟨_, List.mem_of_getElem? HA.out, by rw [hp]; simp⟩)
                rw [hp] at cI
                clear hp
                go_wp2_with (go_at_call 28; refine cI.mono ?_; rintro e w4 ⟨rfl, hb4⟩)
                go_ret
                exact ⟨congrArg (fun b => Ending.returned (Value.bool b)) HX.out.symm, (hX.next hb4).out⟩
              | true =>
                have HP2 : Hid (∀ (i : Nat) a, i < j + 1 → ks[i]? = some a → decB 97 a = true) := Lib.hid (fun i a hi hia => by
                  rcases Nat.lt_succ_iff_lt_or_eq.1 hi with h | h
                  · exact HP.out i a h hia
                  · subst h
                    rw [HA.out] at hia
                    injection hia with e
                    subst e
                    exact hp)
                rw [hp] at cI
                clear hp HP HA
                go_wp2_with (go_at_call 28; refine cI.mono ?_; rintro e w4 ⟨rfl, hb4⟩)
                go_roundw
                case rel => exact ⟨j + 1, by omega, by go_num, hbr.trans (hb4.mono hbr.size), HP2⟩
                case measure => simp [intOf]; omega
            · have HX : Hid (soundT (.mk 1 [] 0 ks) = true) := HR1.out.trans (List.all_eq_true.2 fun a ha => by
                obtain ⟨i, hi⟩ := List.getElem?_of_mem ha
                exact HP.out i a (by have := (List.getElem?_eq_some_iff.1 hi).1; omega) hi)
              go_wp2
              go_ret
              exact ⟨congrArg (fun b => Ending.returned (Value.bool b)) HX.out.symm, hX.out⟩
      · have HX : Hid (soundT (.mk 1 [] m ks) = false) := HR.out.trans (by rw [show (m == 0) = false from beq_false_of_ne h3]; simp)
        clear HR hn ht hk
        go_enter Tryz.func13, Tryz.ntmps13
        go_wp2
        go_ret
        exact ⟨congrArg (fun b => Ending.returned (Value.bool b)) HX.out.symm, hX0.out⟩
    · have HX : Hid (soundT (.mk 1 x m ks) = false) := HR.out.trans (by rw [show (x == []) = false from by simpa using h2]; simp)
      clear HR hn ht hk
      go_enter Tryz.func13, Tryz.ntmps13
      go_wp2
      go_ret
      exact ⟨congrArg (fun b => Ending.returned (Value.bool b)) HX.out.symm, hX0.out⟩
  · have HX : Hid (soundT (.mk k x m ks) = false) := HR.out.trans (by rw [show (k == 1) = false from beq_false_of_ne h1]; simp)
    clear HR hn ht hk
    go_enter Tryz.func13, Tryz.ntmps13
    go_wp2
    go_ret
    exact ⟨congrArg (fun b => Ending.returned (Value.bool b)) HX.out.symm, hX0.out⟩
end Go.Proofs.YtnkphlkjhgngkaaGreatDoor
