/- The document's Size, and the limits by it. -/
import Derived.Test.YtnkphlkjhgngkaaGreatDoorLawAJo
namespace Go.Proofs.YtnkphlkjhgngkaaGreatDoor
open Go.RowKit
attribute [local go_sem ↓] Go.wp_at_zero Go.wp_at_succ

mutual
def cntN : Tr → Nat
  | .mk _ _ _ ks => 1 + cntNL ks
def cntNL : List Tr → Nat
  | [] => 0
  | t :: ts => cntN t + cntNL ts
end
mutual
def depN : Tr → Nat
  | .mk _ _ _ ks => depNL ks + 1
def depNL : List Tr → Nat
  | [] => 0
  | t :: ts => max (depN t) (depNL ts)
end
theorem cntNL_append : ∀ a b, cntNL (a ++ b) = cntNL a + cntNL b
  | [], b => by simp [cntNL]
  | t :: a, b => by simp only [List.cons_append, cntNL, cntNL_append a b]; omega
theorem depNL_append : ∀ a b, depNL (a ++ b) = max (depNL a) (depNL b)
  | [], b => by simp [depNL]
  | t :: a, b => by simp only [List.cons_append, depNL, depNL_append a b]; omega
theorem cntNL_len : ∀ ts : List Tr, ts.length ≤ cntNL ts
  | [] => Nat.le_refl _
  | .mk _ _ _ ks :: ts => by simp only [cntNL, cntN, List.length_cons]; have := cntNL_len ts; omega
theorem cntNL_mem : ∀ {ts : List Tr} {t : Tr}, t ∈ ts → cntN t ≤ cntNL ts
  | u :: ts, t, h => by
    rcases List.mem_cons.1 h with rfl | h
    · simp only [cntNL]; omega
    · have := cntNL_mem h; simp only [cntNL]; omega
mutual
theorem depN_le : ∀ t, depN t ≤ cntN t
  | .mk _ _ _ ks => by simp only [depN, cntN]; have := depNL_le ks; omega
theorem depNL_le : ∀ ts, depNL ts ≤ cntNL ts
  | [] => Nat.le_refl _
  | t :: ts => by simp only [depNL, cntNL]; have := depN_le t; have := depNL_le ts; omega
end
mutual
/-- The program's count and the document's. -/
theorem cntT_iff : ∀ (t : Tr) (deep left : Nat), (cntN t ≤ left → depN t ≤ deep → cntT t deep left = some (left - cntN t)) ∧ (left < cntN t ∨ deep < depN t → cntT t deep left = none)
  | .mk _ _ _ ks, deep, left => by
    have h := cntL_iff ks (deep - 1) (left - 1)
    simp only [cntT, cntN, depN]
    by_cases h0 : deep = 0 ∨ left = 0
    · rw [if_pos h0]
      exact ⟨fun h1 h2 => by omega, fun _ => rfl⟩
    · rw [if_neg h0]
      refine ⟨fun h1 h2 => ?_, fun h1 => ?_⟩
      · rw [h.1 (by omega) (by omega)]; congr 1; omega
      · exact h.2 (by omega)
theorem cntL_iff : ∀ (ts : List Tr) (deep left : Nat), (cntNL ts ≤ left → depNL ts ≤ deep → cntL ts deep left = some (left - cntNL ts)) ∧ (left < cntNL ts ∨ deep < depNL ts → cntL ts deep left = none)
  | [], deep, left => by
    simp only [cntL, cntNL, depNL]
    exact ⟨fun _ _ => rfl, fun h => by omega⟩
  | t :: ts, deep, left => by
    have ht := cntT_iff t deep left
    simp only [cntL, cntNL, depNL]
    by_cases h : cntN t ≤ left ∧ depN t ≤ deep
    · rw [ht.1 h.1 h.2]
      have hl := cntL_iff ts deep (left - cntN t)
      refine ⟨fun h1 h2 => ?_, fun h1 => ?_⟩
      · simp only; rw [hl.1 (by omega) (by omega)]; congr 1; omega
      · exact hl.2 (by omega)
    · have hn := ht.2 (by omega)
      rw [hn]
      exact ⟨fun h1 h2 => by omega, fun _ => rfl⟩
end
theorem smallT_iff (t : Tr) : smallT t = (decide (cntN t ≤ 20000) && decide (depN t ≤ 100)) := by
  unfold smallT
  have h := cntT_iff t 100 20000
  by_cases h1 : cntN t ≤ 20000
  · by_cases h2 : depN t ≤ 100
    · rw [h.1 h1 h2]; simp [h1, h2]
    · rw [h.2 (by omega)]; simp [h2]
  · rw [h.2 (by omega)]; simp [h1]

set_option maxRecDepth 20000 in
set_option maxHeartbeats 4000000 in
theorem size_any : ∀ (n : Nat) (k : Int) (s : List UInt8) (m : Int) (ks : List Tr) (ao : Option Addr) (c : Nat) (S : Nat → Prop) (w : World), cntN (.mk k s m ks) ≤ n → n ≤ 10000000 → (∀ b, S b → b < w.heap.size) → KT w S (.mk k s m ks) (.slice ao ks.length c) →
    Calls Tryz.prog 25 #[.agg #[.int .i64 k, .string ⟨s.toArray⟩, .int .i64 m, .slice ao ks.length c]] w fun e w' => e = .returned (.tuple #[.int .i64 (1 + cntNL ks : Nat), .int .i64 (depNL ks + 1 : Nat)]) ∧ Below w.heap.size w w' := by
  intro n
  induction n with
  | zero => intro k s m ks ao c S w h; simp only [cntN] at h; omega
  | succ n ih =>
    intro k s m ks ao c S w hn hn2 hS hk
    have HI := Lib.hid ih
    clear ih
    simp only [cntN] at hn
    have hL := Lst.of hk
    have hlen := cntNL_len ks
    have hX0 := Hx.start (w := w) (c0 := .int .i64 k) (c1 := .string ⟨s.toArray⟩) (c2 := .int .i64 m) (c3 := .slice ao ks.length c)
    clear hk
    go_enter Tryz.func25, Tryz.ntmps25
    go_wp2_with fail
    go_loopw [4, 5, 6] (fun v4 v5 v6 wr => ∃ j : Nat, j ≤ ks.length ∧ v6 = .int .i64 j ∧ v4 = .int .i64 (1 + cntNL (ks.take j) : Nat) ∧ v5 = .int .i64 (depNL (ks.take j) : Nat) ∧ Hx w (.int .i64 k) (.string ⟨s.toArray⟩) (.int .i64 m) (.slice ao ks.length c) wr) (fun _ _ v6 _ => ks.length - (intOf v6).toNat)
    case atStart => exact ⟨0, Nat.zero_le _, rfl, rfl, rfl, hX0⟩
    case round =>
      obtain ⟨j, hj, rfl, rfl, rfl, hX⟩ := hrel
      obtain ⟨x0, x1, x2, x3⟩ := hX.cells
      by_cases hlt : j < ks.length
      · obtain ⟨a, ha⟩ : ∃ t, ks[j]? = some t := ⟨_, List.getElem?_eq_getElem hlt⟩
        obtain ⟨g, o, a0, n0, q0, hao, y0, y1, y2, y3, hg, hka⟩ := hL.kid ha hS
        subst hao
        have z0 := (hX.out.cell (p := ⟨g, o + j * 4, none⟩) hg).trans y0
        have z1 := (hX.out.cell (p := ⟨g, o + j * 4 + 1, none⟩) hg).trans y1
        have z2 := (hX.out.cell (p := ⟨g, o + j * 4 + 2, none⟩) hg).trans y2
        have z3 := (hX.out.cell (p := ⟨g, o + j * 4 + 3, none⟩) hg).trans y3
        have hcm := cntNL_mem (List.mem_of_getElem? ha)
        have hka' : KT wr S a (.slice a0 n0 q0) := hka.fr (fun b hb => hX.out.block b (hS b hb)) (fun _ h => h)
        have et : ks.take (j + 1) = ks.take j ++ [a] := by rw [List.take_add_one, ha]; rfl
        have e1 : cntNL (ks.take (j + 1)) = cntNL (ks.take j) + cntN a := by rw [et, cntNL_append]; simp [cntNL]
        have e2 : depNL (ks.take (j + 1)) = max (depNL (ks.take j)) (depN a) := by rw [et, depNL_append]; simp [depNL]
        have b1 : cntNL (ks.take (j + 1)) ≤ cntNL ks := by
          have := cntNL_append (ks.take (j + 1)) (ks.drop (j + 1)); rw [List.take_append_drop] at this; omega
        have b2 := depNL_le (ks.take (j + 1))
        obtain ⟨ak, av, am, aks⟩ := a
        obtain ⟨_, _, e⟩ := (Lst.of hka').slice
        injection e with e4 e5 e7
        clear e4 e7
        subst e5
        have cS := HI.out ak av am aks a0 q0 S wr (by omega) (by omega) (fun b hb => Nat.lt_of_lt_of_le (hS b hb) hX.out.size) hka'
        have E1 := Lib.hid e1
        have E2 := Lib.hid e2
        have bn : 1 + cntNL aks ≤ 10000000 := by simp only [cntN] at hcm; omega
        have bd : depNL aks + 1 ≤ 10000000 := by have := depNL_le aks; omega
        have bt : cntNL (ks.take j) ≤ 10000000 := by omega
        have bu : depNL (ks.take j) ≤ 10000000 := by have := depNL_le (ks.take j); omega
        simp only [Tr.kind, Tr.text, Tr.num] at z0 z1 z2
        clear e1 e2 et ha hka hka' hcm y0 y1 y2 y3
        go_wp2_with fail
        refine cS.mono ?_
        rintro e w2 ⟨rfl, hb2⟩
        have hX2 := hX.next hb2
        clear cS
        by_cases hgt : ((depNL aks + 1 : Nat) : Int) > (depNL (ks.take j) : Nat)
        · have hd : decide (((depNL aks + 1 : Nat) : Int) > (depNL (ks.take j) : Nat)) = true := by simpa using hgt
          have e3 : depNL (ks.take (j + 1)) = depNL aks + 1 := by rw [E2.out]; simp only [depN]; omega
          have E3 := Lib.hid e3
          clear e3
          go_wp2
          go_roundw
          case rel => exact ⟨j + 1, by omega, by go_num, by rw [E1.out]; simp only [cntN]; congr 1; omega, by rw [E3.out]; simp, hX2⟩
          case measure => simp [intOf]; omega
        · have hd : decide (((depNL aks + 1 : Nat) : Int) > (depNL (ks.take j) : Nat)) = false := by simpa using hgt
          have e3 : depNL (ks.take (j + 1)) = depNL (ks.take j) := by rw [E2.out]; simp only [depN]; omega
          have E3 := Lib.hid e3
          clear e3
          go_wp2
          go_roundw
          case rel => exact ⟨j + 1, by omega, by go_num, by rw [E1.out]; simp only [cntN]; congr 1; omega, by rw [E3.out], hX2⟩
          case measure => simp [intOf]; omega
      · have ht : ks.take j = ks := List.take_of_length_le (by omega)
        have b2 := depNL_le ks
        have e1 : cntNL (ks.take j) = cntNL ks := by rw [ht]
        have e2 : depNL (ks.take j) = depNL ks := by rw [ht]
        rw [e1, e2]
        have b3 : cntNL ks ≤ 10000000 := by omega
        have b4 : depNL ks ≤ 10000000 := by omega
        clear ht e1 e2
        go_wp2
        exact bodyPost_ret (v := .tuple #[.int .i64 (1 + cntNL ks : Nat), .int .i64 (depNL ks + 1 : Nat)]) (by simp [results, Tryz.results25, go_sem]) rfl ⟨rfl, hX.out⟩
end Go.Proofs.YtnkphlkjhgngkaaGreatDoor

namespace Go.Proofs.YtnkphlkjhgngkaaGreatDoor
open Go.RowKit
attribute [local go_sem ↓] Go.wp_at_zero Go.wp_at_succ

def numK (k : Int) : Bool := k == 7 || k == 13 || k == 22 || k == 23 || k == 40 || k == 42 || k == 50
set_option maxRecDepth 20000 in
theorem numK_any (k : Int) (w : World) : Calls Tryz.prog 49 #[.int .i64 k] w fun e w' => e = .returned (.bool (numK k)) ∧ w' = w := by
  have HR : Hid (numK k = (k == 7 || k == 13 || k == 22 || k == 23 || k == 40 || k == 42 || k == 50)) := rfl
  by_cases h7 : k = 7
  · have HX : Hid (numK k = true) := HR.out.trans (by simp [h7])
    subst h7
    go_enter Tryz.func49, Tryz.ntmps49
    go_wp2
    go_ret
    exact ⟨by simp [HX.out], rfl⟩
  by_cases h13 : k = 13
  · have HX : Hid (numK k = true) := HR.out.trans (by simp [h13])
    subst h13
    go_enter Tryz.func49, Tryz.ntmps49
    go_wp2
    go_ret
    exact ⟨by simp [HX.out], rfl⟩
  by_cases h22 : k = 22
  · have HX : Hid (numK k = true) := HR.out.trans (by simp [h22])
    subst h22
    go_enter Tryz.func49, Tryz.ntmps49
    go_wp2
    go_ret
    exact ⟨by simp [HX.out], rfl⟩
  by_cases h23 : k = 23
  · have HX : Hid (numK k = true) := HR.out.trans (by simp [h23])
    subst h23
    go_enter Tryz.func49, Tryz.ntmps49
    go_wp2
    go_ret
    exact ⟨by simp [HX.out], rfl⟩
  by_cases h40 : k = 40
  · have HX : Hid (numK k = true) := HR.out.trans (by simp [h40])
    subst h40
    go_enter Tryz.func49, Tryz.ntmps49
    go_wp2
    go_ret
    exact ⟨by simp [HX.out], rfl⟩
  by_cases h42 : k = 42
  · have HX : Hid (numK k = true) := HR.out.trans (by simp [h42])
    subst h42
    go_enter Tryz.func49, Tryz.ntmps49
    go_wp2
    go_ret
    exact ⟨by simp [HX.out], rfl⟩
  by_cases h50 : k = 50
  · have HX : Hid (numK k = true) := HR.out.trans (by simp [h50])
    subst h50
    go_enter Tryz.func49, Tryz.ntmps49
    go_wp2
    go_ret
    exact ⟨by simp [HX.out], rfl⟩
  have HX : Hid (numK k = false) := HR.out.trans (by simp [h7, h13, h22, h23, h40, h42, h50])
  have e7 : (k == 7) = false := by simpa using h7
  have e13 : (k == 13) = false := by simpa using h13
  have e22 : (k == 22) = false := by simpa using h22
  have e23 : (k == 23) = false := by simpa using h23
  have e40 : (k == 40) = false := by simpa using h40
  have e42 : (k == 42) = false := by simpa using h42
  have e50 : (k == 50) = false := by simpa using h50
  clear HR h7 h13 h22 h23 h40 h42 h50
  go_enter Tryz.func49, Tryz.ntmps49
  go_wp2
  go_ret
  exact ⟨by simp [HX.out], rfl⟩
/-- How often a sort is repeated. -/
def repN (n : Int) : Nat := if n ≤ 0 then 0 else if n ≤ 20001 then n.toNat else 20001
def intCells (xs : List Int) : List Value := xs.map fun x => .int .i64 x
theorem ownsRow_alloc {W : World} {B : Nat} {e : TypeId} {z : Nat} {v : Value} {n : Nat} {xs : List Value} (h : W.ownsRow B e z v n xs) (o : Obj) : (W.alloc o).ownsRow B e z v n xs := by
  refine ⟨h.1, ?_⟩
  rcases h.2 with h | ⟨g, cap, cur, rfl, hb, hg, rest⟩
  · exact .inl h
  · exact .inr ⟨g, cap, cur, rfl, hb, (Below.heap_alloc W o g (lt_of_block hg)).trans hg, rest⟩
set_option maxRecDepth 20000 in
theorem info_int : ∃ i, Tryz.prog.info? 3 = some i ∧ i.zero = some (.int .i64 0) ∧ i.size = 1 ∧ i.bytes = 8 := by
  have h : (Tryz.prog.info? 3).map (fun i => (i.zero, i.size, i.bytes)) = some (some (.int .i64 0), 1, 8) := by kernel_rfl
  cases hi : Tryz.prog.info? 3 with
  | none => rw [hi] at h; cases h
  | some i =>
    rw [hi] at h
    injection h with h
    injection h with h1 h
    injection h with h2 h3
    exact ⟨i, rfl, h1, h2, h3⟩
theorem rep_cells (j : Nat) (s : Int) : intCells (List.replicate j s) ++ [.int .i64 s] = intCells (List.replicate (j + 1) s) := by
  rw [List.replicate_succ', intCells, intCells, List.map_append]; rfl
set_option maxRecDepth 20000 in
set_option maxHeartbeats 4000000 in
theorem repeat_any (sort n : Int) (w : World) : Calls Tryz.prog 85 #[.int .i64 sort, .int .i64 n] w fun e w' => ∃ ao c, e = .returned (.slice ao (repN n) c) ∧ w'.ownsRow w.heap.size 3 1 (.slice ao (repN n) c) (repN n) (intCells (List.replicate (repN n) sort)) ∧ Below w.heap.size w w' := by
  have h0 : (w.alloc (.cells #[] 3)).ownsRow w.heap.size 3 1 (.slice (some ⟨w.heap.size, 0, none⟩) 0 0) 0 [] := World.ownsRow_lit (base := w.heap.size) (e := 3) (size := 1) w #[] 0 (Nat.le_refl _) (by decide) rfl
  have hb0 := (Below.refl w.heap.size w).alloc (Nat.le_refl _) (.cells #[] 3)
  go_enter Tryz.func85, Tryz.ntmps85
  go_wp2_with fail
  go_loopw [5, 6] (fun v5 v6 wr => ∃ (j : Nat) (ao : Option Addr) (c : Nat), j ≤ 20001 ∧ (j = 0 ∨ (j : Int) ≤ n) ∧ v6 = .int .i64 j ∧ v5 = .slice ao j c ∧ wr.ownsRow w.heap.size 3 1 (.slice ao j c) j (intCells (List.replicate j sort)) ∧ Below w.heap.size w wr) (fun _ v6 _ => 20001 - (intOf v6).toNat)
  case atStart => exact ⟨0, _, _, by omega, .inl rfl, rfl, rfl, h0, hb0⟩
  case round =>
    obtain ⟨j, ao, c, hj, hjn, rfl, rfl, hO, hb⟩ := hrel
    by_cases hlt : (j : Int) < n
    · by_cases hle : j ≤ 20000
      · obtain ⟨i0, hi, hz0, hz1, hz2⟩ := info_int
        have hO1 := ownsRow_alloc hO (.cells #[.int .i64 sort] 3)
        have hb1 := hb.alloc hb.size (.cells #[.int .i64 sort] 3)
        have hlt1 := hO1.lt
        go_wp2_with (at_builtin; refine wpList_append_own_at _ rfl _ _ 67 rfl w.heap.size 3 i0 _ 1 8 Tryz.underlying67 hi hz0 hz1 hz2 rfl (by decide) _ _ _ rfl hO1 ⟨wr.heap.size, 0, none⟩ 1 1 [.int .i64 sort] rfl rfl (cell_one_new _ _ _) (by simp [Value.oneCell']) (by unfold maxLen; omega) (by omega) hb1.size ?_)
        intro v' w' hO' hg' _ _
        have hb2 : Below w.heap.size w w' := hb1.trans ⟨hg'.os, hg'.tape, hg'.output, hg'.size, fun k hk => hg'.block k (by have := hb1.size; omega) (fun e => by have := hlt1 k e.symm; omega)⟩
        rw [rep_cells] at hO'
        obtain ⟨ao', c', rfl⟩ : ∃ ao' c', v' = .slice ao' (j + 1) c' := by
          rcases hO'.2 with ⟨rfl, e⟩ | ⟨g, cap, cur, rfl, _⟩
          · omega
          · exact ⟨_, cap, rfl⟩
        go_wp2
        go_roundw
        case rel => exact ⟨j + 1, ao', c', by omega, .inr (by omega), by go_num, rfl, hO', hb2⟩
        case measure => simp [intOf]; omega
      · have e : repN n = j := by unfold repN; rw [if_neg (by omega)]; split <;> omega
        have E := Lib.hid e
        clear e
        go_wp2
        go_ret
        rw [E.out]
        exact ⟨ao, c, rfl, hO, hb⟩
    · have e : repN n = j := by
        unfold repN
        rcases hjn with h | h
        · rw [if_pos (by omega), h]
        · by_cases h1 : n ≤ 0
          · rw [if_pos h1]; omega
          · rw [if_neg h1, if_pos (by omega)]; omega
      have E := Lib.hid e
      clear e
      go_wp2
      go_ret
      rw [E.out]
      exact ⟨ao, c, rfl, hO, hb⟩
end Go.Proofs.YtnkphlkjhgngkaaGreatDoor
