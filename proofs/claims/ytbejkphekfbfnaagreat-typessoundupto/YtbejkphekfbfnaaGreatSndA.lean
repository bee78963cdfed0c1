/- The tests' helpers: bare, named, numbered, cutKids, every, row, parted. -/
import Derived.Test.YtbejkphekfbfnaaGreatSndM
namespace Go.Proofs.YtbejkphekfbfnaaGreat
open Go.RowKit
attribute [local go_sem ↓] Go.wp_at_zero Go.wp_at_succ

theorem bareS_any (t : Tr) (ao : Option Addr) (n c : Nat) (w : World) : Calls Tryz.prog 102 #[tv t (.slice ao n c)] w fun e w' => e = .returned (.bool (bareT t)) ∧ Below w.heap.size w w' := by
  obtain ⟨k, s, m, ks⟩ := t
  have HR : Hid (bareT (.mk k s m ks) = (s == [] && m == 0)) := rfl
  change Calls Tryz.prog 102 #[.agg #[.int .i64 k, .string ⟨s.toArray⟩, .int .i64 m, .slice ao n c]] w _
  cases hs : (s == ([] : List UInt8)) with
  | false =>
    have HX : Hid (bareT (.mk k s m ks) = false) := HR.out.trans (by rw [hs]; rfl)
    go_enter Tryz.func102, Tryz.ntmps102
    go_wp2
    go_ret
    exact ⟨by simp [HX.out], (Below.refl _ _).alloc (Nat.le_refl _) _⟩
  | true =>
    have HX : Hid (bareT (.mk k s m ks) = (m == 0)) := HR.out.trans (by rw [hs]; rfl)
    go_enter Tryz.func102, Tryz.ntmps102
    go_wp2
    go_ret
    exact ⟨by simp [HX.out], (Below.refl _ _).alloc (Nat.le_refl _) _⟩
theorem numberedS_any (t : Tr) (ao : Option Addr) (n c : Nat) (w : World) : Calls Tryz.prog 138 #[tv t (.slice ao n c)] w fun e w' => e = .returned (.bool (numberedT t)) ∧ Below w.heap.size w w' := by
  obtain ⟨k, s, m, ks⟩ := t
  have HX : Hid (numberedT (.mk k s m ks) = (s == [])) := rfl
  change Calls Tryz.prog 138 #[.agg #[.int .i64 k, .string ⟨s.toArray⟩, .int .i64 m, .slice ao n c]] w _
  go_enter Tryz.func138, Tryz.ntmps138
  go_wp2
  go_ret
  exact ⟨by simp [HX.out], (Below.refl _ _).alloc (Nat.le_refl _) _⟩
theorem namedS_any (t : Tr) (ao : Option Addr) (n c : Nat) (w : World) (hG : Gl w) (ht : t.text.length ≤ maxLen) : Calls Tryz.prog 120 #[tv t (.slice ao n c)] w fun e w' => e = .returned (.bool (namedT t)) ∧ Below w.heap.size w w' := by
  obtain ⟨k, s, m, ks⟩ := t
  have HR : Hid (namedT (.mk k s m ks) = (m == 0 && nameP s)) := rfl
  change Calls Tryz.prog 120 #[.agg #[.int .i64 k, .string ⟨s.toArray⟩, .int .i64 m, .slice ao n c]] w _
  cases hm : (m == (0 : Int)) with
  | false =>
    have HX : Hid (namedT (.mk k s m ks) = false) := HR.out.trans (by rw [hm]; rfl)
    go_enter Tryz.func120, Tryz.ntmps120
    go_wp2
    go_ret
    exact ⟨by simp [HX.out], (Below.refl _ _).alloc (Nat.le_refl _) _⟩
  | true =>
    have HX : Hid (namedT (.mk k s m ks) = nameP s) := HR.out.trans (by rw [hm]; rfl)
    have hb0 := (Below.refl w.heap.size w).alloc (Nat.le_refl _) (.cells #[.int .i64 k, .string ⟨s.toArray⟩, .int .i64 m, .slice ao n c] 24)
    have cN := isName_any ⟨s.toArray⟩ (by simpa [ByteArray.size, Tr.text] using ht) _ (hG.later hb0)
    clear HR
    go_enter Tryz.func120, Tryz.ntmps120
    go_wp2_with fail
    refine cN.mono ?_
    rintro e w1 ⟨rfl, hb1⟩
    clear cN
    go_wp2
    go_ret
    exact ⟨by simp [HX.out], hb0.trans (hb1.mono (by simp))⟩
theorem cutKids_any (n : Int) (w : World) : Calls Tryz.prog 168 #[.int .i64 n] w fun e w' => e = .returned (.int .i64 (cutN n)) ∧ w' = w := by
  have HR : Hid (cutN n = if n == 0 then 1 else if n == 1 || n == 2 then 2 else if n == 3 then 3 else -1) := rfl
  by_cases h0 : n = 0
  · have HX : Hid (cutN n = 1) := HR.out.trans (by simp [h0])
    subst h0
    go_enter Tryz.func168, Tryz.ntmps168
    go_wp2
    go_ret
    exact ⟨by simp [HX.out], rfl⟩
  by_cases h1 : n = 1
  · have HX : Hid (cutN n = 2) := HR.out.trans (by simp [h1])
    subst h1
    go_enter Tryz.func168, Tryz.ntmps168
    go_wp2
    go_ret
    exact ⟨by simp [HX.out], rfl⟩
  by_cases h2 : n = 2
  · have HX : Hid (cutN n = 2) := HR.out.trans (by simp [h2])
    subst h2
    go_enter Tryz.func168, Tryz.ntmps168
    go_wp2
    go_ret
    exact ⟨by simp [HX.out], rfl⟩
  by_cases h3 : n = 3
  · have HX : Hid (cutN n = 3) := HR.out.trans (by simp [h3])
    subst h3
    go_enter Tryz.func168, Tryz.ntmps168
    go_wp2
    go_ret
    exact ⟨by simp [HX.out], rfl⟩
  have HX : Hid (cutN n = -1) := HR.out.trans (by simp [h0, h1, h2, h3])
  have e0 : (n == 0) = false := by simpa using h0
  have e1 : (n == 1) = false := by simpa using h1
  have e2 : (n == 2) = false := by simpa using h2
  have e3 : (n == 3) = false := by simpa using h3
  clear h0 h1 h2 h3 HR
  go_enter Tryz.func168, Tryz.ntmps168
  go_wp2
  go_ret
  exact ⟨by simp [HX.out], rfl⟩

/-- every of a list that lies. -/
theorem everyL {g n : Nat} {p : Tr → Bool} (he : Enters Tryz.prog g) (hT : Tst g n p) {ts : List Tr} {sl : Value} {S : Nat → Prop} {w : World} (hG : Gl w) (hS : ∀ b, S b → b < w.heap.size) (hF : ∀ t ∈ ts, Fit n t) (hn : ts.length ≤ 20000) (hL : Lst w S ts sl) :
    Calls Tryz.prog 103 #[sl, .func (.func g) #[] #[]] w fun e w' => e = .returned (.bool (ts.all p)) ∧ Below w.heap.size w w' := by
  obtain ⟨sls, h1, h2⟩ := hL
  rcases h1 with ⟨h0, ao, cap, rfl⟩ | ⟨gb, o, cap, rfl, _, hg, hc⟩
  · have hu : ts = [] := List.eq_nil_of_length_eq_zero h0
    subst hu
    exact (every_nil _ ao cap w).mono fun e w' ⟨h1, h2⟩ => ⟨h1, h2 ▸ Below.refl _ _⟩
  · refine every_any p g #[] he ts sls h2.length w gb o cap (by omega) hc h2.slices (fun k t sl w1 ht hs hb => ?_)
    rw [Array.append_empty]
    exact hT t sl S w1 (hG.later hb) (fun b hb' => Nat.lt_of_lt_of_le (hS b hb') hb.size) (hF t (List.mem_of_getElem? ht)) ((h2.get ht hs).fr (fun b hb' => hb.block b (hS b hb')) (fun _ h => h))

/-- row, where there are other numbers of nodes and of tests. -/
theorem row_ne (ao fo : Option Addr) (n m c fc : Nat) (h : n ≠ m) (w : World) :
    Calls Tryz.prog 123 #[.slice ao n c, .slice fo m fc] w fun e w' => e = .returned (.bool false) ∧ w' = w := by
  have hne : ((n : Int) != (m : Int)) = true := by simp; omega
  go_enter Tryz.func123, Tryz.ntmps123
  go_wp2
  go_ret
  exact ⟨rfl, rfl⟩
/-- row of nothing by no tests. -/
theorem row_nil (ao fo : Option Addr) (c fc : Nat) (w : World) :
    Calls Tryz.prog 123 #[.slice ao 0 c, .slice fo 0 fc] w fun e w' => e = .returned (.bool true) ∧ w' = w := by
  go_enter Tryz.func123, Tryz.ntmps123
  go_wp2_with fail
  go_loopw [14] (fun v wr => v = .int .i64 0 ∧ wr = w) (fun _ _ => 0)
  case atStart => exact ⟨rfl, rfl⟩
  case round =>
    obtain ⟨rfl, rfl⟩ := hrel
    go_wp2
    go_ret
    exact ⟨rfl, rfl⟩
set_option maxRecDepth 20000 in
set_option maxHeartbeats 1600000 in
theorem row_any (gs : List (Nat × (Tr → Bool))) (ts : List Tr) (sls : List Value) (hsl : sls.length = ts.length) (hl : ts.length = gs.length) (w : World) (b o cap fb fc : Nat) (hn : ts.length ≤ 1000000)
    (hc : ∀ (j : Nat) u, (cellsOf ts sls)[j]? = some u → w.cell? ⟨b, o + j, none⟩ = some u) (hsh : ∀ s ∈ sls, ∃ ao n c, s = .slice ao n c)
    (hg : ∀ (i g : Nat) p, gs[i]? = some (g, p) → Enters Tryz.prog g ∧ w.cell? ⟨fb, i, none⟩ = some (.func (.func g) #[] #[]))
    (hI : ∀ (k g : Nat) p t sl w1, gs[k]? = some (g, p) → ts[k]? = some t → sls[k]? = some sl → Below w.heap.size w w1 → Calls Tryz.prog g #[tv t sl] w1 fun e w' => e = .returned (.bool (p t)) ∧ Below w1.heap.size w1 w') :
    Calls Tryz.prog 123 #[.slice (some ⟨b, o, none⟩) ts.length cap, .slice (some ⟨fb, 0, none⟩) gs.length fc] w fun e w' => e = .returned (.bool (rowB (gs.map (·.2)) ts)) ∧ Below w.heap.size w w' := by
  have HI := Lib.hid hI
  have HC := Lib.hid hc
  have HS := Lib.hid hsh
  have HG := Lib.hid hg
  have HL := Lib.hid hl
  have hne : ((ts.length : Int) != (gs.length : Int)) = false := by simp; omega
  have hgn : gs.length ≤ 1000000 := by omega
  have hl1 : ts.length ≤ gs.length := by omega
  have hl2 : gs.length ≤ ts.length := by omega
  clear hI hc hsh hg hl
  go_enter Tryz.func123, Tryz.ntmps123
  go_wp2_with fail
  go_loopw [14] (fun v wr => ∃ k : Nat, k ≤ gs.length ∧ v = .int .i64 k ∧ Below w.heap.size w wr ∧ Hid (∀ (i : Nat) q t, i < k → gs[i]? = some q → ts[i]? = some t → q.2 t = true)) (fun v _ => gs.length - (intOf v).toNat)
  case atStart => exact ⟨0, Nat.zero_le _, rfl, Below.refl _ _, Lib.hid (fun i q t hi => by omega)⟩
  case round =>
    obtain ⟨k, hk, rfl, hb, HA⟩ := hrel
    have hz := hb.size
    by_cases hlt : k < gs.length
    · have hlt2 : k < ts.length := by omega
      obtain ⟨t, ht⟩ : ∃ t, ts[k]? = some t := ⟨_, List.getElem?_eq_getElem hlt2⟩
      obtain ⟨⟨g, p⟩, hq⟩ : ∃ q, gs[k]? = some q := ⟨_, List.getElem?_eq_getElem hlt⟩
      obtain ⟨sl, hs⟩ : ∃ sl, sls[k]? = some sl := ⟨_, List.getElem?_eq_getElem (by omega)⟩
      obtain ⟨ao, nn, c, rfl⟩ := HS.out sl (List.mem_of_getElem? hs)
      obtain ⟨q0, q1, q2, q3⟩ := cellsOf_get ht hs
      obtain ⟨he, hf⟩ := HG.out k g p hq
      have eg : ∀ args w, (callFunc g args).run Tryz.prog w = .ok (.enter g args) w := he
      have a0 := HC.out _ _ q0
      have bl := lt_of_cell a0
      have fl := lt_of_cell hf
      have r : ∀ o, wr.cell? ⟨b, o, none⟩ = w.cell? ⟨b, o, none⟩ := fun o => hb.cell (p := ⟨b, o, none⟩) bl
      have xf : wr.cell? ⟨fb, k, none⟩ = some (.func (.func g) #[] #[]) := (hb.cell (p := ⟨fb, k, none⟩) fl).trans hf
      have x0 : wr.cell? ⟨b, o + k * 4, none⟩ = some (.int .i64 t.kind) := (r _).trans a0
      have x1 : wr.cell? ⟨b, o + k * 4 + 1, none⟩ = some (.string ⟨t.text.toArray⟩) := (r _).trans (HC.out _ _ q1)
      have x2 : wr.cell? ⟨b, o + k * 4 + 2, none⟩ = some (.int .i64 t.num) := (r _).trans (HC.out _ _ q2)
      have x3 : wr.cell? ⟨b, o + k * 4 + 3, none⟩ = some (.slice ao nn c) := (r _).trans (HC.out _ _ q3)
      have cT := HI.out k g p t (.slice ao nn c) wr hq ht hs hb
      have HT := Lib.hid ht
      have HQ := Lib.hid hq
      clear ht hs q0 q1 q2 q3 a0 r hq he hf
      go_wp2_with fail
      refine cT.mono ?_
      rintro e w2 ⟨rfl, hb2⟩
      have hb3 : Below w.heap.size w w2 := hb.trans (hb2.mono hz)
      clear cT
      cases hp : p t with
      | false =>
        have HX : Hid (rowB (gs.map (·.2)) ts = false) := rowB_take (i := k) (by rw [List.getElem?_map, HQ.out]; rfl) HT.out hp
        clear hp
        go_wp2
        go_ret
        exact ⟨by simp [HX.out], hb3⟩
      | true =>
        have HX : Hid (∀ (i : Nat) q t, i < k + 1 → gs[i]? = some q → ts[i]? = some t → q.2 t = true) := by
          refine Lib.hid ?_
          intro i q u hi h1 h2
          rcases Nat.lt_or_ge i k with h3 | h3
          · exact HA.out i q u h3 h1 h2
          · have : i = k := by omega
            subst this
            rw [HQ.out] at h1; rw [HT.out] at h2
            cases h1; cases h2; exact hp
        clear hp
        go_wp2
        go_roundw
        case rel => exact ⟨k + 1, by omega, by go_num, hb3, HX⟩
        case measure => simp [intOf]; omega
    · have HX : Hid (rowB (gs.map (·.2)) ts = true) := by
        refine rowB_all (by simpa using HL.out) fun i p t h1 h2 => ?_
        rw [List.getElem?_map] at h1
        cases h3 : gs[i]? with
        | none => rw [h3] at h1; cases h1
        | some q =>
          rw [h3] at h1; cases h1
          have : i < gs.length := by
            rcases Nat.lt_or_ge i gs.length with h | h
            · exact h
            · rw [List.getElem?_eq_none h] at h3; cases h3
          exact HA.out i q t (by omega) h3 h2
      go_wp2
      go_ret
      exact ⟨by simp [HX.out], hb⟩
/-- row of a list that lies, by tests that lie. -/
theorem rowL {n : Nat} (gs : List (Nat × (Tr → Bool))) {ts : List Tr} {sl : Value} {S : Nat → Prop} {w : World} (fb fc : Nat) (hG : Gl w) (hS : ∀ b, S b → b < w.heap.size) (hF : ∀ t ∈ ts, Fit n t) (hgn : 0 < gs.length ∧ gs.length ≤ 1000) (hL : Lst w S ts sl)
    (hg : ∀ (i g : Nat) p, gs[i]? = some (g, p) → Enters Tryz.prog g ∧ w.cell? ⟨fb, i, none⟩ = some (.func (.func g) #[] #[]) ∧ Tst g n p) :
    Calls Tryz.prog 123 #[sl, .slice (some ⟨fb, 0, none⟩) gs.length fc] w fun e w' => e = .returned (.bool (rowB (gs.map (·.2)) ts)) ∧ Below w.heap.size w w' := by
  by_cases hl : ts.length = gs.length
  · obtain ⟨sls, h1, h2⟩ := hL
    rcases h1 with ⟨h0, ao, cap, rfl⟩ | ⟨gb, o, cap, rfl, _, hgb, hc⟩
    · omega
    · refine row_any gs ts sls h2.length hl w gb o cap fb fc (by omega) hc h2.slices (fun i g p h => ⟨(hg i g p h).1, (hg i g p h).2.1⟩) (fun k g p t sl w1 hq ht hs hb => ?_)
      exact (hg k g p hq).2.2 t sl S w1 (hG.later hb) (fun b hb' => Nat.lt_of_lt_of_le (hS b hb') hb.size) (hF t (List.mem_of_getElem? ht)) ((h2.get ht hs).fr (fun b hb' => hb.block b (hS b hb')) (fun _ h => h))
  · obtain ⟨ao, cap, rfl⟩ := hL.slice
    have e : rowB (gs.map (·.2)) ts = false := rowB_ne (by simpa using hl)
    rw [e]
    exact (row_ne ao _ _ _ cap fc hl w).mono fun e w' ⟨h1, h2⟩ => ⟨h1, h2 ▸ Below.refl _ _⟩
end Go.Proofs.YtbejkphekfbfnaaGreat
