/- The document's arena in memory. -/
import Derived.Test.YtimpmgbahgganaaArRm
import Derived.Test.YtimpmgbahgganaaArV
namespace Go.Proofs.Ytimpmgbahgganaa
open Go.RowKit Go.Maps

theorem Try.info116 : (Try.prog.info? 116).map (fun i => (i.zero, i.size, i.bytes)) = some (some (.agg #[.int .i64 0, .int .i64 0, .bool false, .int .i64 0]), 4, 32) := by kernel_rfl
def rcells : List Rp → List Value
  | [] => []
  | p :: r => .int .i64 p.a :: .int .i64 p.n :: .bool p.f :: .int .i64 p.t :: rcells r
theorem rcells_length : ∀ ps : List Rp, (rcells ps).length = ps.length * 4
  | [] => rfl
  | p :: r => by simp [rcells, rcells_length r]; omega
theorem rcells_append : ∀ ps qs : List Rp, rcells (ps ++ qs) = rcells ps ++ rcells qs
  | [], _ => rfl
  | p :: r, qs => by simp [rcells, rcells_append r qs]
theorem rcells_get : ∀ {ps : List Rp} {i : Nat} {p : Rp}, ps[i]? = some p → (rcells ps)[i * 4]? = some (.int .i64 p.a) ∧ (rcells ps)[i * 4 + 1]? = some (.int .i64 p.n) ∧ (rcells ps)[i * 4 + 2]? = some (.bool p.f) ∧ (rcells ps)[i * 4 + 3]? = some (.int .i64 p.t)
  | [], i, p, h => by simp at h
  | q :: r, 0, p, h => by simp at h; subst h; exact ⟨rfl, rfl, rfl, rfl⟩
  | q :: r, i + 1, p, h => by
    have := rcells_get (ps := r) (i := i) (p := p) (by simpa using h)
    rw [show (i + 1) * 4 = i * 4 + 1 + 1 + 1 + 1 from by omega]
    simpa [rcells, Nat.add_assoc] using this
theorem rcells_set : ∀ {ps : List Rp} {i : Nat} (q : Rp), i < ps.length → rcells (ps.set i q) = ((((rcells ps).set (i * 4) (.int .i64 q.a)).set (i * 4 + 1) (.int .i64 q.n)).set (i * 4 + 2) (.bool q.f)).set (i * 4 + 3) (.int .i64 q.t)
  | [], i, q, h => by simp at h
  | p :: r, 0, q, h => by simp [rcells]
  | p :: r, i + 1, q, h => by
    have h1 := rcells_set (ps := r) (i := i) q (by simpa using h)
    rw [show (i + 1) * 4 = i * 4 + 1 + 1 + 1 + 1 from by omega]
    simp [rcells, h1, Nat.add_assoc]
theorem rcells_one (ps : List Rp) : ∀ u ∈ rcells ps, u.oneCell' = true := by
  induction ps with
  | nil => simp [rcells]
  | cons p r ih =>
    intro u hu
    simp only [rcells, List.mem_cons] at hu
    rcases hu with rfl | rfl | rfl | rfl | hu
    · rfl
    · rfl
    · rfl
    · rfl
    · exact ih u hu
theorem ints_one (l : List Int) : ∀ u ∈ ints l, u.oneCell' = true := by
  intro u hu
  simp only [ints, List.mem_map] at hu
  obtain ⟨x, _, rfl⟩ := hu
  rfl
/-- The document's arena as a value. -/
abbrev rv (r : Rs) (vp vs : Value) : Value := .agg #[.int .i64 r.wd, .int .i64 r.ln, vp, .int .i64 r.fd, vs]
/-- The document's arena r lies in w, its lists at vp and vs, from block B on. -/
structure RL (B : Nat) (w : World) (r : Rs) (vp vs : Value) : Prop where
  pcs : w.ownsRow B 116 4 vp r.ps.length (rcells r.ps)
  sto : w.ownsRow B 3 1 vs r.st.length (ints r.st)
  bw : r.wd ≤ 65536
  bl : r.ln ≤ 65537
  bp : r.ps.length ≤ 65536
  bs : r.st.length ≤ 65537
  bf : r.fd ≤ 60000
  ba : ∀ (i : Nat) (p : Rp), r.ps[i]? = some p → p.a ≤ 65537 ∧ p.n ≤ 65536 ∧ p.t ≤ 60000
  hB : B ≤ w.heap.size
section
variable {B : Nat} {w w' : World} {r : Rs} {vp vs : Value}
theorem RL.keep (R : RL B w r vp vs) (h1 : ∀ g, vp.ownBlock = some g → w'.heap[g]? = w.heap[g]?) (h2 : ∀ g, vs.ownBlock = some g → w'.heap[g]? = w.heap[g]?) (hz : w.heap.size ≤ w'.heap.size) : RL B w' r vp vs :=
  ⟨ownsRow_keep R.pcs h1, ownsRow_keep R.sto h2, R.bw, R.bl, R.bp, R.bs, R.bf, R.ba, Nat.le_trans R.hB hz⟩
theorem RL.below (R : RL B w r vp vs) (hb : Below w.heap.size w w') : RL B w' r vp vs :=
  R.keep (fun g hg => hb.block g (R.pcs.lt g hg).2) (fun g hg => hb.block g (R.sto.lt g hg).2) hb.size
theorem RL.alloc (R : RL B w r vp vs) (o : Obj) : RL B (w.alloc o) r vp vs := R.below ((Below.refl _ _).alloc (Nat.le_refl _) _)
theorem RL.pform (R : RL B w r vp vs) : ∃ ao cap, vp = .slice ao r.ps.length cap := by
  rcases R.pcs.2 with ⟨h1, h0⟩ | ⟨g, cap, cur, h1, _⟩
  · exact ⟨none, 0, by rw [h0]; exact h1⟩
  · exact ⟨_, cap, h1⟩
theorem RL.sform (R : RL B w r vp vs) : ∃ ao cap, vs = .slice ao r.st.length cap := row_form R.sto
theorem RL.piece (R : RL B w r vp vs) {i : Nat} {p : Rp} (hp : r.ps[i]? = some p) : ∃ g cap, vp = .slice (some ⟨g, 0, none⟩) r.ps.length cap ∧ g < w.heap.size ∧ w.cell? ⟨g, i * 4, none⟩ = some (.int .i64 p.a) ∧ w.cell? ⟨g, i * 4 + 1, none⟩ = some (.int .i64 p.n) ∧ w.cell? ⟨g, i * 4 + 2, none⟩ = some (.bool p.f) ∧ w.cell? ⟨g, i * 4 + 3, none⟩ = some (.int .i64 p.t) ∧ (∀ o, w.frozen? ⟨g, o, none⟩ = false) := by
  have hi := get_lt hp
  rcases R.pcs.2 with ⟨_, h0⟩ | ⟨g, cap, cur, h1, _, h2, _, _, _, h3⟩
  · omega
  · have key : ∀ {o : Nat} {u : Value}, (rcells r.ps)[o]? = some u → w.cell? ⟨g, o, none⟩ = some u := fun {o u} h => by
      rw [← h3, List.getElem?_take] at h
      split at h
      · simpa [World.cell?, h2] using h
      · cases h
    obtain ⟨e1, e2, e3, e4⟩ := rcells_get hp
    exact ⟨g, cap, h1, lt_of_block h2, key e1, key e2, key e3, key e4, fun o => by simp [World.frozen?, h2]⟩
theorem ints_get {l : List Int} {j : Nat} {a : Int} (h : l[j]? = some a) : (ints l)[j]? = some (.int .i64 a) := by simp [ints, h]
end
end Go.Proofs.Ytimpmgbahgganaa

namespace Go.Proofs.Ytimpmgbahgganaa
open Go.RowKit Go.Maps

theorem rnew_any (n : Nat) (w : World) (h : n ≤ 65536) (B : Nat) (hB : B ≤ w.heap.size) :
    Calls Try.prog 27 #[.int .i64 n] w fun e w' => ∃ vp vs, e = .returned (rv (newR n) vp vs) ∧ RL B w' (newR n) vp vs ∧ Below w.heap.size w w' ∧ (∀ g, vp.ownBlock = some g → w.heap.size ≤ g) ∧ (∀ g, vs.ownBlock = some g → w.heap.size ≤ g) := by
  have b1 : (n : Int) ≤ 65536 := by omega
  obtain ⟨W1, hW1⟩ : ∃ W1, w.alloc (.cells #[.int .i64 0, .int .i64 0, .slice none 0 0, .int .i64 0, .slice none 0 0] 33) = W1 := ⟨_, rfl⟩
  have z1 : W1.heap.size = w.heap.size + 1 := by rw [← hW1]; simp
  obtain ⟨i0, hi, hz0, hz1, hz2⟩ := info_parts Try.info3
  have hmk := run_make (P := Try.prog) W1 31 3 i0 (.int .i64 0) Try.underlying31 hi hz0 .i64 .i64 ((n : Int) + 1) ((n : Int) + 1) (by omega) (Int.le_refl _) (by rw [hz2]; omega) (by omega)
  rw [hz1, show ((n : Int) + 1).toNat = n + 1 from by omega, z1] at hmk
  simp only [Nat.mul_one] at hmk
  rw [show (Value.int .i64 0).cells = #[Value.int .i64 0] from rfl, made_ints] at hmk
  clear hz0 hz1 hz2 hi
  subst hW1
  go_enter Try.func27, Try.ntmps27
  go_wp2
  refine bodyPost_ret (v := rv (newR n) (.slice none 0 0) (.slice (some ⟨w.heap.size + 1, 0, none⟩) (n + 1) (n + 1))) (by simp [results, Try.results27, go_sem, newR]) rfl ⟨_, _, rfl, ⟨⟨rfl, .inl ⟨rfl, rfl⟩⟩, ?_, h, by simp [newR], by simp [newR], by simp [newR]; omega, by simp [newR], by simp [newR], by simp; omega⟩, ((Below.refl _ _).alloc (Nat.le_refl _) _).alloc (by simp) _, ?_, ?_⟩
  · rw [show (newR n).st.length = n + 1 by simp [newR]]
    exact ⟨by simp [ints, newR], .inr ⟨w.heap.size + 1, n + 1, _, rfl, by omega, heap_new _ _ (by simp), Nat.le_refl _, by unfold maxLen; omega, by simp [ints], by simp [ints, newR]⟩⟩
  · intro g hg; simp [Value.ownBlock] at hg
  · intro g hg; simp [Value.ownBlock] at hg; omega
/-- The first piece that begins at an address and is given. -/
theorem rat_any {B : Nat} {r : Rs} {vp vs : Value} (x : Int) (w : World) (R : RL B w r vp vs) :
    Calls Try.prog 59 #[rv r vp vs, .int .i64 x] w fun e w' => (∃ o : Option Nat, AtR r.ps x o ∧ e = .returned (.int .i64 (match o with | some j => (j : Int) | none => -1))) ∧ Below w.heap.size w w' := by
  obtain ⟨ao, cp, hv⟩ := R.pform
  have hlen := R.bp
  have RH := hide R
  have HV := hide hv
  subst hv
  obtain ⟨W1, hW1⟩ : ∃ W1, w.alloc (.cells #[.int .i64 r.wd, .int .i64 r.ln, .slice ao r.ps.length cp, .int .i64 r.fd, vs] 33) = W1 := ⟨_, rfl⟩
  have cc : W1.cell? ⟨w.heap.size, 2, none⟩ = some (.slice ao r.ps.length cp) := by rw [← hW1]; simp
  have R1 := hide (show RL B W1 r (.slice ao r.ps.length cp) vs by rw [← hW1]; exact R.alloc _)
  have HB := hide (show Below w.heap.size w W1 by rw [← hW1]; exact (Below.refl _ _).alloc (Nat.le_refl _) _)
  have HM := hide (show r.ps.length = r.ps.length from rfl)
  clear R HM
  generalize hn : r.ps.length = n at *
  have HN := hide hn
  clear hn
  subst hW1
  go_enter Try.func59, Try.ntmps59
  go_wp2
  go_loop [5] (fun i => ∃ j : Nat, j ≤ n ∧ i = .int .i64 j ∧ Hid (∀ (q : Nat) (p : Rp), q < j → r.ps[q]? = some p → ¬ ((p.a : Int) = x ∧ p.f = false))) (fun i => n - (intOf i).toNat)
  case atStart => exact ⟨0, Nat.zero_le _, rfl, fun q p h => absurd h (Nat.not_lt_zero _)⟩
  case round =>
    obtain ⟨j, hj, rfl, hno⟩ := hrel
    by_cases hlt : j < n
    · obtain ⟨p, hp⟩ : ∃ p, r.ps[j]? = some p := ⟨r.ps[j]'(by rw [HN.out]; exact hlt), by simp⟩
      obtain ⟨g, cap, hv, hg, d1, d2, d3, d4, _⟩ := R1.out.piece hp
      obtain rfl : ao = some ⟨g, 0, none⟩ := (Value.slice.inj hv).1
      have bj : (j : Int) < (n : Int) := by omega
      have HP := hide hp
      clear hv hp
      by_cases hx : (p.a : Int) = x
      · have e1 : ((p.a : Int) == x) = true := by simpa using hx
        have HX := hide hx
        clear hx
        cases hf : p.f with
        | false =>
          rw [hf] at d3
          have HF := hide hf
          clear hf
          go_wp2
          go_ret
          exact ⟨⟨some j, ⟨p, HP.out, HX.out, HF.out⟩, rfl⟩, HB.out⟩
        | true =>
          rw [hf] at d3
          have HF := hide hf
          clear hf
          go_wp2
          go_round
          case rel =>
            refine ⟨j + 1, by omega, by go_num, fun q p' hq hp' => ?_⟩
            rcases Nat.lt_or_ge q j with h | h
            · exact hno.out q p' h hp'
            · obtain rfl : q = j := by omega
              rw [HP.out] at hp'; cases hp'
              rw [HF.out]; simp
          case measure => simp [intOf]; omega
      · have e1 : ((p.a : Int) == x) = false := by simpa using hx
        have HX := hide hx
        clear hx
        go_wp2
        go_round
        case rel =>
          refine ⟨j + 1, by omega, by go_num, fun q p' hq hp' => ?_⟩
          rcases Nat.lt_or_ge q j with h | h
          · exact hno.out q p' h hp'
          · obtain rfl : q = j := by omega
            rw [HP.out] at hp'; cases hp'
            exact fun h => HX.out h.1
        case measure => simp [intOf]; omega
    · obtain rfl : j = n := by omega
      go_wp2
      go_ret
      exact ⟨⟨none, fun q p hp => hno.out q p (by rw [← HN.out]; exact get_lt hp) hp, rfl⟩, HB.out⟩
section
variable {B : Nat} {r : Rs} {vp vs : Value} {w : World}
set_option maxHeartbeats 1000000 in
theorem rfind_any (x : Int) (R : RL B w r vp vs) :
    Calls Try.prog 55 #[rv r vp vs, .int .i64 x] w fun e w' => ((FindR r.ps x none ∧ e = two (0, 6)) ∨ ∃ j p, FindR r.ps x (some j) ∧ r.ps[j]? = some p ∧ e = two ((p.a : Int), 0)) ∧ Below w.heap.size w w' := by
  obtain ⟨ao, cp, rfl⟩ := R.pform
  have hlen := R.bp
  obtain ⟨W1, hW1⟩ : ∃ W1, w.alloc (.cells #[.int .i64 r.wd, .int .i64 r.ln, .slice ao r.ps.length cp, .int .i64 r.fd, vs] 33) = W1 := ⟨_, rfl⟩
  have R1 := hide (show RL B W1 r (.slice ao r.ps.length cp) vs by rw [← hW1]; exact R.alloc _)
  have HB := hide (show Below w.heap.size w W1 by rw [← hW1]; exact (Below.refl _ _).alloc (Nat.le_refl _) _)
  have HC := hide (show W1.cell? ⟨w.heap.size, 2, none⟩ = some (.slice ao r.ps.length cp) by rw [← hW1]; simp)
  have HZ := hide (show w.heap.size < W1.heap.size by rw [← hW1]; simp)
  clear R
  generalize hn : r.ps.length = n at *
  have HN := hide hn
  clear hn
  subst hW1
  go_enter Try.func55, Try.ntmps55
  go_wp2
  go_loopw [6] (fun i wr => ∃ j : Nat, j ≤ n ∧ i = .int .i64 j ∧ Hid (∀ (q : Nat) (p : Rp), q < j → r.ps[q]? = some p → ¬ (p.f = false ∧ (p.a : Int) ≤ x ∧ x ≤ (p.a : Int) + p.n - 1)) ∧ Hid (RL B wr r (.slice ao n cp) vs) ∧ Hid (Below w.heap.size w wr) ∧ wr.cell? ⟨w.heap.size, 2, none⟩ = some (.slice ao n cp) ∧ w.heap.size < wr.heap.size) (fun i _ => n - (intOf i).toNat)
  case atStart => exact ⟨0, Nat.zero_le _, rfl, fun q p h => absurd h (Nat.not_lt_zero _), R1, HB, HC.out, HZ.out⟩
  case round =>
    obtain ⟨j, hj, rfl, hno, RR, BB, cc, zz⟩ := hrel
    clear R1 HB HC HZ
    by_cases hlt : j < n
    · obtain ⟨p, hp⟩ : ∃ p, r.ps[j]? = some p := ⟨r.ps[j]'(by rw [HN.out]; exact hlt), by simp⟩
      obtain ⟨g, cap, hv, hg, d1, d2, d3, d4, _⟩ := RR.out.piece hp
      obtain ⟨ba1, ba2, _⟩ := RR.out.ba j p hp
      obtain rfl : ao = some ⟨g, 0, none⟩ := (Value.slice.inj hv).1
      have bj : (j : Int) < (n : Int) := by omega
      have bp1 : (p.a : Int) ≤ 65537 := by omega
      have bp2 : (p.n : Int) ≤ 65536 := by omega
      have bp3 : 0 ≤ (p.a : Int) := by omega
      have bp4 : 0 ≤ (p.n : Int) := by omega
      have HP := hide hp
      clear hv hp
      have stepno : ¬ (p.f = false ∧ (p.a : Int) ≤ x ∧ x ≤ (p.a : Int) + p.n - 1) → (∀ (q : Nat) (p' : Rp), q < j + 1 → r.ps[q]? = some p' → ¬ (p'.f = false ∧ (p'.a : Int) ≤ x ∧ x ≤ (p'.a : Int) + p'.n - 1)) := by
        intro hc q p' hq hp'
        rcases Nat.lt_or_ge q j with h | h
        · exact hno.out q p' h hp'
        · obtain rfl : q = j := by omega
          rw [HP.out] at hp'; cases hp'; exact hc
      have SN := hide stepno
      clear stepno
      have fin : Hid (∀ o : Obj, Hid (RL B (wr.alloc o) r (.slice (some ⟨g, 0, none⟩) n cp) vs) ∧ Hid (Below w.heap.size w (wr.alloc o))) := fun o => ⟨RR.out.alloc o, BB.out.alloc (by omega) o⟩
      cases hf : p.f with
      | true =>
        rw [hf] at d3
        have HF := hide hf
        clear hf
        go_wp2
        go_roundw
        case rel => exact ⟨j + 1, by omega, by go_num, SN.out (fun h => by rw [HF.out] at h; cases h.1), (fin.out _).1, (fin.out _).2, by rw [Lib.cell?_alloc_some _ cc], by simp; omega⟩
        case measure => simp [intOf]; omega
      | false =>
        rw [hf] at d3
        have HF := hide hf
        clear hf
        by_cases h1 : (p.a : Int) ≤ x
        · have e1 : decide ((p.a : Int) ≤ x) = true := by simpa using h1
          by_cases h2 : x ≤ (p.a : Int) + p.n - 1
          · have e2 : decide (x ≤ (p.a : Int) + p.n - 1) = true := by simpa using h2
            have HI := hide (And.intro h1 h2)
            clear h1 h2
            go_wp2
            go_ret2
            exact ⟨.inr ⟨j, p, ⟨p, HP.out, HF.out, HI.out.1, HI.out.2⟩, HP.out, rfl⟩, (fin.out _).2⟩
          · have e2 : decide (x ≤ (p.a : Int) + p.n - 1) = false := by simpa using h2
            have HI := hide h2
            clear h2
            go_wp2
            go_roundw
            case rel => exact ⟨j + 1, by omega, by go_num, SN.out (fun h => HI.out h.2.2), (fin.out _).1, (fin.out _).2, by rw [Lib.cell?_alloc_some _ cc], by simp; omega⟩
            case measure => simp [intOf]; omega
        · have e1 : decide ((p.a : Int) ≤ x) = false := by simpa using h1
          have HI := hide h1
          clear h1
          go_wp2
          go_roundw
          case rel => exact ⟨j + 1, by omega, by go_num, SN.out (fun h => HI.out h.2.1), (fin.out _).1, (fin.out _).2, by rw [Lib.cell?_alloc_some _ cc], by simp; omega⟩
          case measure => simp [intOf]; omega
    · obtain rfl : j = n := by omega
      go_wp2
      go_ret2
      exact ⟨.inl ⟨fun q p hp => hno.out q p (by rw [← HN.out]; exact get_lt hp) hp, rfl⟩, BB.out⟩
end
end Go.Proofs.Ytimpmgbahgganaa

namespace Go.Proofs.Ytimpmgbahgganaa
open Go.RowKit Go.Maps

section
variable {B : Nat} {r : Rs} {vp vs : Value} {w : World}
/-- A list that is appended to an empty one of one's own is a copy. -/
theorem run_copy {W : World} {b : Nat} (t e : TypeId) (i : TypeInfo) (z : Value) (size bytes : Nat) (ht : Try.prog.underlying t = some (.slice e)) (hi : Try.prog.info? e = some i) (hz : i.zero = some z) (hsize : i.size = size) (hby : i.bytes = bytes) (hzs : z.cells.size = size) (hsz : 0 < size) (hbig : bytes ≤ 32)
    {v : Value} {n : Nat} {xs : List Value} (h0 : W.heap[b]? = some (.cells #[] e (0, 0))) (hown : W.ownsRow B e size v n xs) (h1 : ∀ u ∈ xs, u.oneCell' = true) (hn : n ≤ 70000) :
    ∃ v' w', (Builtin.append_ #[t, t] t #[.slice (some ⟨b, 0, none⟩) 0 0, v]).run Try.prog W = .ok v' w' ∧ w'.ownsRow b e size v' n xs ∧ W.grownBy w' (some b) ∧ (v'.ownBlock = some b ∨ v'.ownBlock = some W.heap.size) := by
  have hlt := lt_of_block h0
  have hemp : W.ownsRow b e size (.slice (some ⟨b, 0, none⟩) 0 0) 0 [] := ⟨by simp, .inr ⟨b, 0, #[], rfl, Nat.le_refl _, h0, Nat.le_refl _, by decide, by simp, by simp⟩⟩
  rcases hown.2 with ⟨rfl, rfl⟩ | ⟨g, cap, cur, rfl, hb, hg, hcap, _, hcs, htk⟩
  · refine ⟨_, W, run_append_owned_none W b t t e i size ht hi _ _ _ hemp, ?_, ⟨rfl, rfl, rfl, Nat.le_refl _, fun _ _ _ => rfl⟩, .inl rfl⟩
    have : xs = [] := List.eq_nil_of_length_eq_zero (by rw [hown.1]; simp)
    rw [this]; exact hemp
  · have hnews : ∀ j u, xs[j]? = some u → W.cell? ((⟨g, 0, none⟩ : Addr).add j) = some u := by
      intro j u hj
      rw [← htk] at hj
      have hj' : cur[j]? = some u := by
        rw [List.getElem?_take] at hj
        split at hj
        · simpa using hj
        · cases hj
      have ha : (⟨g, 0, none⟩ : Addr).add j = ⟨g, j, none⟩ := by cases j <;> simp [Addr.add]
      rw [ha]; simp [World.cell?, hg, hj']
    obtain ⟨v', w', hr, ho, hgr, _, hat⟩ := run_append_own_at (P := Try.prog) W b t t e i z size bytes ht hi hz hsize hby hzs hsz _ 0 [] hemp ⟨g, 0, none⟩ n cap xs hown.1 hnews h1 (by unfold maxLen; omega) (by
      have : (0 + n) * bytes ≤ 70000 * 32 := Nat.mul_le_mul (by omega) hbig
      omega) (by omega)
    exact ⟨v', w', hr, by simpa using ho, hgr, hat⟩
theorem six_cells (w6 : World) (b j : Nat) (v0 v1 v2 v3 v4 v5 : Value) (h1 : j ≠ b) (h2 : j ≠ b + 1) :
    ((((((w6.setCell ⟨b, 4, none⟩ v0).setCell ⟨b + 1, 0, none⟩ v1).setCell ⟨b + 1, 1, none⟩ v2).setCell ⟨b + 1, 2, none⟩ v3).setCell ⟨b + 1, 3, none⟩ v4).setCell ⟨b + 1, 4, none⟩ v5).heap[j]? = w6.heap[j]? := by
  rw [Below.heap_setCell _ _ _ _ h2, Below.heap_setCell _ _ _ _ h2, Below.heap_setCell _ _ _ _ h2, Below.heap_setCell _ _ _ _ h2, Below.heap_setCell _ _ _ _ h2, Below.heap_setCell _ _ _ _ h1]
theorem owns_form {e : TypeId} {size n : Nat} {v : Value} {xs : List Value} (h : w.ownsRow B e size v n xs) : ∃ ao cap, v = .slice ao n cap := by
  rcases h.2 with ⟨h1, h0⟩ | ⟨g, cap, cur, h1, _⟩
  · exact ⟨none, 0, by rw [h0]; exact h1⟩
  · exact ⟨_, cap, h1⟩
set_option maxHeartbeats 1000000 in
/-- The document's copy of an arena. -/
theorem rcopied_any (R : RL B w r vp vs) :
    Calls Try.prog 53 #[rv r vp vs] w fun e w' => ∃ vp' vs', e = .returned (rv r vp' vs') ∧ RL w.heap.size w' r vp' vs' ∧ Below w.heap.size w w' := by
  obtain ⟨aop0, cpp0, rfl⟩ := R.pform
  obtain ⟨aos0, cps0, rfl⟩ := R.sform
  obtain ⟨W3, hW3⟩ : ∃ W3, ((w.alloc (.cells #[.int .i64 r.wd, .int .i64 r.ln, .slice aop0 r.ps.length cpp0, .int .i64 r.fd, .slice aos0 r.st.length cps0] 33)).alloc (.cells #[.int .i64 0, .int .i64 0, .slice none 0 0, .int .i64 0, .slice none 0 0] 33)).alloc (.cells #[] 116) = W3 := ⟨_, rfl⟩
  have z3 : W3.heap.size = w.heap.size + 1 + 1 + 1 := by rw [← hW3]; simp
  have b3 : Below w.heap.size w W3 := by rw [← hW3]; exact (((Below.refl _ _).alloc (Nat.le_refl _) _).alloc (by simp) _).alloc (by simp; omega) _
  have R3 := R.below b3
  have n3 : W3.heap[w.heap.size + 1 + 1]? = some (.cells #[] 116 (0, 0)) := by rw [← hW3, heap_new _ _ (by simp)]
  obtain ⟨ip, hip, hp0, hp1, hp2⟩ := info_parts Try.info116
  obtain ⟨ii, hii, hi0, hi1, hi2⟩ := info_parts Try.info3
  obtain ⟨vp', w4, r4, o4, g4, at4⟩ := run_copy 30 116 ip _ 4 32 Try.underlying30 hip hp0 hp1 hp2 rfl (by decide) (by decide) n3 R3.pcs (rcells_one _) (by have := R.bp; omega)
  obtain ⟨aop, cpp, rfl⟩ := owns_form o4
  have zz4 := g4.size
  have k4 : ∀ j, j < W3.heap.size → j ≠ w.heap.size + 1 + 1 → w4.heap[j]? = W3.heap[j]? := fun j hj hn => g4.block j hj (fun e => hn (by simpa using e))
  have box3 : W3.heap[w.heap.size]? = some (.cells #[.int .i64 r.wd, .int .i64 r.ln, .slice aop0 r.ps.length cpp0, .int .i64 r.fd, .slice aos0 r.st.length cps0] 33 (0, 0)) := by
    rw [← hW3, Below.heap_alloc _ _ _ (by simp; omega), Below.heap_alloc _ _ _ (by simp), heap_new _ _ rfl]
  have box4 : w4.heap[w.heap.size]? = some (.cells #[.int .i64 r.wd, .int .i64 r.ln, .slice aop0 r.ps.length cpp0, .int .i64 r.fd, .slice aos0 r.st.length cps0] 33 (0, 0)) := (k4 _ (by omega) (by omega)).trans box3
  have res3 : W3.heap[w.heap.size + 1]? = some (.cells #[.int .i64 0, .int .i64 0, .slice none 0 0, .int .i64 0, .slice none 0 0] 33 (0, 0)) := by
    rw [← hW3, Below.heap_alloc _ _ _ (by simp), heap_new _ _ (by simp)]
  have res4 := (k4 (w.heap.size + 1) (by omega) (by omega)).trans res3
  -- the store of the pieces, then the words
  obtain ⟨W5, hW5⟩ : ∃ W5, (w4.setCell ⟨w.heap.size, 2, none⟩ (.slice aop r.ps.length cpp)).alloc (.cells #[] 3) = W5 := ⟨_, rfl⟩
  have z5 : W5.heap.size = w4.heap.size + 1 := by rw [← hW5]; simp
  have k5 : ∀ j, j < w4.heap.size → j ≠ w.heap.size → W5.heap[j]? = w4.heap[j]? := fun j hj hn => by rw [← hW5, Below.heap_alloc _ _ _ (by simpa using hj), Below.heap_setCell _ _ _ _ hn]
  have n5 : W5.heap[w4.heap.size]? = some (.cells #[] 3 (0, 0)) := by rw [← hW5, heap_new _ _ (by simp)]
  have s5 : W5.ownsRow B 3 1 (.slice aos0 r.st.length cps0) r.st.length (ints r.st) := ownsRow_keep R.sto fun g hg => by
    have hl := (R.sto.lt g hg).2
    rw [k5 g (by omega) (by omega), k4 g (by omega) (by omega)]; exact b3.block g hl
  obtain ⟨vs', w6, r6, o6, g6, at6⟩ := run_copy 31 3 ii _ 1 8 Try.underlying31 hii hi0 hi1 hi2 rfl (by decide) (by decide) n5 s5 (ints_one _) (by have := R.bs; omega)
  obtain ⟨aos, cps, rfl⟩ := owns_form o6
  have zz6 := g6.size
  have k6 : ∀ j, j < W5.heap.size → j ≠ w4.heap.size → w6.heap[j]? = W5.heap[j]? := fun j hj hn => g6.block j hj (fun e => hn (by simpa using e))
  have box5 : W5.heap[w.heap.size]? = some (.cells #[.int .i64 r.wd, .int .i64 r.ln, (.slice aop r.ps.length cpp), .int .i64 r.fd, .slice aos0 r.st.length cps0] 33 (0, 0)) := by
    rw [← hW5, Below.heap_alloc _ _ _ (by simp; omega), heap_setCell_same w4 _ 2 _ box4]; rfl
  have box6 := (k6 _ (by omega) (by omega)).trans box5
  have res6 := (k6 (w.heap.size + 1) (by omega) (by omega)).trans ((k5 (w.heap.size + 1) (by omega) (by omega)).trans res4)
  have c42 : w4.cell? ⟨w.heap.size, 2, none⟩ = some (.slice aop0 r.ps.length cpp0) := by simp [World.cell?, box4]
  have c44 : w4.cell? ⟨w.heap.size, 4, none⟩ = some (.slice aos0 r.st.length cps0) := by simp [World.cell?, box4]
  have f42 : w4.frozen? ⟨w.heap.size, 2, none⟩ = false := by simp [World.frozen?, box4]
  have c60 : w6.cell? ⟨w.heap.size, 0, none⟩ = some (.int .i64 r.wd) := by simp [World.cell?, box6]
  have c61 : w6.cell? ⟨w.heap.size, 1, none⟩ = some (.int .i64 r.ln) := by simp [World.cell?, box6]
  have c62 : w6.cell? ⟨w.heap.size, 2, none⟩ = some (.slice aop r.ps.length cpp) := by simp [World.cell?, box6]
  have c63 : w6.cell? ⟨w.heap.size, 3, none⟩ = some (.int .i64 r.fd) := by simp [World.cell?, box6]
  have c64 : w6.cell? ⟨w.heap.size, 4, none⟩ = some (.slice aos0 r.st.length cps0) := by simp [World.cell?, box6]
  have f64 : w6.frozen? ⟨w.heap.size, 4, none⟩ = false := by simp [World.frozen?, box6]
  have d60 : w6.cell? ⟨w.heap.size + 1, 0, none⟩ = some (.int .i64 0) := by simp [World.cell?, res6]
  have d61 : w6.cell? ⟨w.heap.size + 1, 1, none⟩ = some (.int .i64 0) := by simp [World.cell?, res6]
  have d62 : w6.cell? ⟨w.heap.size + 1, 2, none⟩ = some (.slice none 0 0) := by simp [World.cell?, res6]
  have d63 : w6.cell? ⟨w.heap.size + 1, 3, none⟩ = some (.int .i64 0) := by simp [World.cell?, res6]
  have d64 : w6.cell? ⟨w.heap.size + 1, 4, none⟩ = some (.slice none 0 0) := by simp [World.cell?, res6]
  have df : ∀ o, w6.frozen? ⟨w.heap.size + 1, o, none⟩ = false := fun o => by simp [World.frozen?, res6]
  have df0 := df 0
  have df1 := df 1
  have df2 := df 2
  have df3 := df 3
  have df4 := df 4
  have hne : ¬ w.heap.size + 1 = w.heap.size := by omega
  -- what is kept for the end
  have HP := hide (show w6.ownsRow w.heap.size 116 4 (.slice aop r.ps.length cpp) r.ps.length (rcells r.ps) by
    have hg : ∀ g, (Value.slice aop r.ps.length cpp).ownBlock = some g → w.heap.size ≤ g ∧ g < w4.heap.size ∧ g ≠ w.heap.size := fun g hg => by
      have := o4.lt g hg
      exact ⟨by omega, this.2, by omega⟩
    have h1 : w6.ownsRow (w.heap.size + 1 + 1) 116 4 (.slice aop r.ps.length cpp) r.ps.length (rcells r.ps) := ownsRow_keep o4 fun g hgg => by
      obtain ⟨a, b, c⟩ := hg g hgg
      rw [k6 g (by omega) (by omega), k5 g b c]
    exact ⟨h1.1, h1.2.imp id (fun ⟨g, cap, cur, e, hb, rest⟩ => ⟨g, cap, cur, e, by omega, rest⟩)⟩)
  have HS := hide (show w6.ownsRow w.heap.size 3 1 (.slice aos r.st.length cps) r.st.length (ints r.st) from ⟨o6.1, o6.2.imp id (fun ⟨g, cap, cur, e, hb, rest⟩ => ⟨g, cap, cur, e, by omega, rest⟩)⟩)
  have HG := hide (show (∀ g, (Value.slice aop r.ps.length cpp).ownBlock = some g → w.heap.size + 1 < g) ∧ (∀ g, (Value.slice aos r.st.length cps).ownBlock = some g → w.heap.size + 1 < g) from ⟨fun g hg => by have := (o4.lt g hg).1; omega, fun g hg => by have := (o6.lt g hg).1; omega⟩)
  have HB := hide (show Below w.heap.size w w6 from ⟨by rw [g6.os, ← hW5]; show w4.os = _; rw [g4.os]; exact b3.os, by rw [g6.tape, ← hW5]; show w4.tape = _; rw [g4.tape]; exact b3.tape, by rw [g6.output, ← hW5]; show w4.output = _; rw [g4.output]; exact b3.output, by omega, fun j hj => by rw [k6 j (by omega) (by omega), k5 j (by omega) (by omega), k4 j (by omega) (by omega)]; exact b3.block j hj⟩)
  have h4 : w.heap.size < w4.heap.size := by omega
  have HR := hide R
  have HZ := hide (show w.heap.size ≤ w6.heap.size by omega)
  clear R R3 b3 n3 n5 s5 o4 o6 at4 at6 k4 k5 k6 box3 box4 box5 box6 res3 res4 res6 hip hp0 hp1 hp2 hii hi0 hi1 hi2 df g4 g6 z3 z5 zz4 zz6
  subst hW3
  subst hW5
  go_enter Try.func53, Try.ntmps53
  go_wp2_with (at_builtin; first | (refine wpList_append_eq rfl _ _ 30 rfl rfl rfl r4 ?_; clear r4) | (refine wpList_append_eq rfl _ _ 31 rfl rfl rfl r6 ?_; clear r6))
  refine bodyPost_ret (v := rv r (.slice aop r.ps.length cpp) (.slice aos r.st.length cps)) ?_ rfl ⟨_, _, rfl, ?_, ?_⟩
  · simp [results, Try.results53, go_sem, d60, d61, d62, d63, d64]
  · have kf := fun j (h1 : j ≠ w.heap.size) (h2 : j ≠ w.heap.size + 1) => six_cells w6 w.heap.size j (.slice aos r.st.length cps) (.int .i64 r.wd) (.int .i64 r.ln) (.slice aop r.ps.length cpp) (.int .i64 r.fd) (.slice aos r.st.length cps) h1 h2
    refine ⟨ownsRow_keep HP.out fun g hg => kf g (by have := HG.out.1 g hg; omega) (by have := HG.out.1 g hg; omega), ownsRow_keep HS.out fun g hg => kf g (by have := HG.out.2 g hg; omega) (by have := HG.out.2 g hg; omega), HR.out.bw, HR.out.bl, HR.out.bp, HR.out.bs, HR.out.bf, HR.out.ba, by simp; exact HZ.out⟩
  · have hz := HZ.out
    exact (((((HB.out.setCell (Nat.le_refl _) _).setCell (Nat.le_succ _) _).setCell (Nat.le_succ _) _).setCell (Nat.le_succ _) _).setCell (Nat.le_succ _) _).setCell (Nat.le_succ _) _
end
end Go.Proofs.Ytimpmgbahgganaa

namespace Go.Proofs.Ytimpmgbahgganaa
open Go.RowKit Go.Maps

theorem liveR_snoc {ps : List Rp} {j : Nat} {p : Rp} (h : ps[j]? = some p) : liveR (ps.take (j + 1)) = liveR (ps.take j) ++ if p.f then [] else [p.a] := by
  have : ps.take (j + 1) = ps.take j ++ [p] := by rw [List.take_add_one, h]; rfl
  rw [this]
  unfold liveR
  cases hf : p.f <;> simp [hf]
theorem liveR_le (ps : List Rp) (j : Nat) : (liveR (ps.take j)).length ≤ j := by
  unfold liveR
  rw [List.length_map]
  exact Nat.le_trans (List.length_filter_le _ _) (by simp; omega)
section
variable {B : Nat} {r : Rs} {vp vs : Value} {w : World}
set_option maxHeartbeats 1000000 in
theorem rlive_any (R : RL B w r vp vs) :
    Calls Try.prog 45 #[rv r vp vs] w fun e w' => ∃ v, e = .returned v ∧ w'.ownsRow w.heap.size 3 1 v (liveR r.ps).length (addrs (liveR r.ps)) ∧ Below w.heap.size w w' := by
  obtain ⟨ao, cp, rfl⟩ := R.pform
  have hlen := R.bp
  obtain ⟨W1, hW1⟩ : ∃ W1, (w.alloc (.cells #[.int .i64 r.wd, .int .i64 r.ln, .slice ao r.ps.length cp, .int .i64 r.fd, vs] 33)).alloc (.cells #[] 3) = W1 := ⟨_, rfl⟩
  have R1 := hide (show RL B W1 r (.slice ao r.ps.length cp) vs by rw [← hW1]; exact (R.alloc _).alloc _)
  have HB := hide (show Below w.heap.size w W1 by rw [← hW1]; exact ((Below.refl _ _).alloc (Nat.le_refl _) _).alloc (by simp) _)
  have HC := hide (show W1.cell? ⟨w.heap.size, 2, none⟩ = some (.slice ao r.ps.length cp) by rw [← hW1]; simp)
  have HZ := hide (show w.heap.size < W1.heap.size by rw [← hW1]; simp; omega)
  have HO := hide (show W1.ownsRow w.heap.size 3 1 (.slice (some ⟨w.heap.size + 1, 0, none⟩) 0 0) 0 [] by
    rw [← hW1]
    exact ⟨rfl, .inr ⟨w.heap.size + 1, 0, #[], rfl, by omega, heap_new _ _ (by simp), Nat.le_refl _, by decide, rfl, rfl⟩⟩)
  have HO2 := hide (show ∀ g, (Value.slice (some ⟨w.heap.size + 1, 0, none⟩) 0 0).ownBlock = some g → g ≠ w.heap.size by intro g hg; simp [Value.ownBlock] at hg; omega)
  have HLT := hide (show (∀ g, (Value.slice ao r.ps.length cp).ownBlock = some g → g < w.heap.size) ∧ (∀ g, vs.ownBlock = some g → g < w.heap.size) from ⟨fun g hg => (R.pcs.lt g hg).2, fun g hg => (R.sto.lt g hg).2⟩)
  clear R
  generalize hn : r.ps.length = n at *
  have HN := hide hn
  clear hn
  subst hW1
  go_enter Try.func45, Try.ntmps45
  go_wp2
  go_loopw [3, 4] (fun l i wr => ∃ j : Nat, j ≤ n ∧ i = .int .i64 j ∧ Hid (wr.ownsRow w.heap.size 3 1 l (liveR (r.ps.take j)).length (addrs (liveR (r.ps.take j)))) ∧ Hid (∀ g, l.ownBlock = some g → g ≠ w.heap.size) ∧ Hid (RL B wr r (.slice ao n cp) vs) ∧ Hid (Below w.heap.size w wr) ∧ wr.cell? ⟨w.heap.size, 2, none⟩ = some (.slice ao n cp) ∧ w.heap.size < wr.heap.size) (fun _ i _ => n - (intOf i).toNat)
  case atStart => exact ⟨0, Nat.zero_le _, rfl, HO, HO2, R1, HB, HC.out, HZ.out⟩
  case round =>
    obtain ⟨j, hj, rfl, hown, hne, RR, BB, cc, zz⟩ := hrel
    clear R1 HB HC HZ HO HO2
    by_cases hlt : j < n
    · obtain ⟨p, hp⟩ : ∃ p, r.ps[j]? = some p := ⟨r.ps[j]'(by rw [HN.out]; exact hlt), by simp⟩
      obtain ⟨g, cap, hv, hg, d1, d2, d3, d4, _⟩ := RR.out.piece hp
      obtain rfl : ao = some ⟨g, 0, none⟩ := (Value.slice.inj hv).1
      have bj : (j : Int) < (n : Int) := by omega
      have hll := liveR_le r.ps j
      have HS := hide (liveR_snoc hp)
      clear hv hp
      generalize liveR (r.ps.take j) = ls at *
      cases hf : p.f with
      | true =>
        rw [hf] at d3
        have HF := hide hf
        clear hf
        go_wp2
        go_roundw
        case rel => exact ⟨j + 1, by omega, by go_num, by rw [HS.out, HF.out]; simpa using hown, hne, RR, BB, cc, zz⟩
        case measure => simp [intOf]; omega
      | false =>
        rw [hf] at d3
        have HF := hide hf
        clear hf
        obtain ⟨W3, hW3⟩ : ∃ W3, wr.alloc (.cells #[.int .i64 (p.a : Int)] 3) = W3 := ⟨_, rfl⟩
        have z3 : W3.heap.size = wr.heap.size + 1 := by rw [← hW3]; simp
        have hnb : W3.heap[wr.heap.size]? = some (.cells #[.int .i64 (p.a : Int)] 3 (0, 0)) := by rw [← hW3, heap_new _ _ rfl]
        have own3 := hown.out.alloc (.cells #[.int .i64 (p.a : Int)] 3)
        rw [hW3] at own3
        obtain ⟨ga, capa, w4, hrun, hown4, hgrow, hat, hltg⟩ := run_app1 own3 hnb (by omega) (by omega)
        have B3 : Below w.heap.size w W3 := by rw [← hW3]; exact BB.out.alloc (by omega) _
        have HO4 := hide hown4
        have hgne : ga ≠ w.heap.size := by
          rcases hat with e | e
          · exact hne.out ga e
          · omega
        have HB4 := hide (show Below w.heap.size w w4 from B3.grown hgrow (by omega) (fun q hq => (hown.out.lt q hq).1))
        have R3 : RL B W3 r (.slice (some ⟨g, 0, none⟩) n cp) vs := by rw [← hW3]; exact RR.out.alloc _
        have hlow : ∀ q, q < w.heap.size → w4.heap[q]? = W3.heap[q]? := fun q hq => hgrow.block q (by omega) (fun e => by have := (hown.out.lt q e.symm).1; omega)
        have HR4 := hide (R3.keep (w' := w4) (fun q hq => hlow q (HLT.out.1 q hq)) (fun q hq => hlow q (HLT.out.2 q hq)) hgrow.size)
        have cc4 : w4.cell? ⟨w.heap.size, 2, none⟩ = some (.slice (some ⟨g, 0, none⟩) n cp) := by
          rw [hgrow.cell_far ⟨w.heap.size, 2, none⟩ (by show w.heap.size < _; omega) (fun e => hne.out _ e.symm rfl), ← hW3, Lib.cell?_alloc_some _ cc]
        have zz4 : w.heap.size < w4.heap.size := by have := hgrow.size; omega
        have HNE := hide (show ∀ q, (Value.slice (some ⟨ga, 0, none⟩) (ls.length + 1) capa).ownBlock = some q → q ≠ w.heap.size by intro q hq; simp [Value.ownBlock] at hq; omega)
        clear hown4 hgrow hat own3 hnb B3 R3 hlow hgne
        subst hW3
        go_wp2_with (at_builtin; refine wpList_append_eq rfl _ _ 31 rfl rfl rfl hrun ?_)
        go_wp2
        go_roundw
        case rel => exact ⟨j + 1, by omega, by go_num, by rw [HS.out, HF.out]; simp only [Bool.false_eq_true, if_false, List.length_append, List.length_singleton]; rw [show addrs (ls ++ [p.a]) = addrs ls ++ [.int .i64 (p.a : Int)] by simp [addrs]]; exact HO4, HNE, HR4, HB4, cc4, zz4⟩
        case measure => simp [intOf]; omega
    · obtain rfl : j = n := by omega
      go_wp2
      go_ret
      rw [← HN.out, List.take_length] at hown
      exact ⟨_, rfl, hown.out, BB.out⟩
set_option maxHeartbeats 1000000 in
theorem same_any {B1 B2 : Nat} {va vb : Value} {l : List Nat} (h1 : w.ownsRow B1 3 1 va l.length (addrs l)) (h2 : w.ownsRow B2 3 1 vb l.length (addrs l)) (hl : l.length ≤ 70000) :
    Calls Try.prog 21 #[va, vb] w fun e w' => e = .returned (.bool true) ∧ Below w.heap.size w w' := by
  obtain ⟨aa, ca, rfl⟩ := row_form h1
  obtain ⟨ab, cb, rfl⟩ := row_form h2
  have H1 := hide h1
  have H2 := hide h2
  clear h1 h2
  generalize hn : l.length = n at *
  have HN := hide hn
  clear hn
  go_enter Try.func21, Try.ntmps21
  go_wp2
  go_loopw [5] (fun i wr => ∃ j q : Nat, j ≤ n ∧ i = .int .i64 j ∧ wr = w.drewN q) (fun i _ => n - (intOf i).toNat)
  case atStart => exact ⟨0, 0, Nat.zero_le _, rfl, rfl⟩
  case round =>
    obtain ⟨j, q, hj, rfl, rfl⟩ := hrel
    by_cases hlt : j < n
    · obtain ⟨u, hu⟩ : ∃ u, l[j]? = some u := ⟨l[j]'(by rw [HN.out]; exact hlt), by simp⟩
      obtain ⟨ga, capa, hva, c1, _, _⟩ := row_cell H1.out (addrs_get hu)
      obtain ⟨gb, capb, hvb, c2, _, _⟩ := row_cell H2.out (addrs_get hu)
      obtain rfl : aa = some ⟨ga, 0, none⟩ := (Value.slice.inj hva).1
      obtain rfl : ab = some ⟨gb, 0, none⟩ := (Value.slice.inj hvb).1
      have bj : (j : Int) < (n : Int) := by omega
      clear hva hvb hu
      go_wp2
      go_quiet (fail)
      go_wp2
      go_roundw
      case rel => exact ⟨j + 1, q + nq, by omega, by go_num, rfl⟩
      case measure => simp [intOf]; omega
    · obtain rfl : j = n := by omega
      go_wp2
      go_ret
      exact ⟨rfl, below_drewN (Below.refl _ _) q⟩
end
end Go.Proofs.Ytimpmgbahgganaa

namespace Go.Proofs.Ytimpmgbahgganaa
open Go.RowKit Go.Maps

theorem box_cells {w : World} {b : Nat} {v0 v1 v2 v3 v4 : Value} {t : TypeId} (h : w.heap[b]? = some (.cells #[v0, v1, v2, v3, v4] t (0, 0))) :
    w.cell? ⟨b, 0, none⟩ = some v0 ∧ w.cell? ⟨b, 1, none⟩ = some v1 ∧ w.cell? ⟨b, 2, none⟩ = some v2 ∧ w.cell? ⟨b, 3, none⟩ = some v3 ∧ w.cell? ⟨b, 4, none⟩ = some v4 ∧
    w.frozen? ⟨b, 0, none⟩ = false ∧ w.frozen? ⟨b, 1, none⟩ = false ∧ w.frozen? ⟨b, 2, none⟩ = false ∧ w.frozen? ⟨b, 3, none⟩ = false ∧ w.frozen? ⟨b, 4, none⟩ = false := by
  simp [World.cell?, World.frozen?, h]
theorem five_cells (w : World) (b j : Nat) (v1 v2 v3 v4 v5 : Value) (h2 : j ≠ b) :
    (((((w.setCell ⟨b, 0, none⟩ v1).setCell ⟨b, 1, none⟩ v2).setCell ⟨b, 2, none⟩ v3).setCell ⟨b, 3, none⟩ v4).setCell ⟨b, 4, none⟩ v5).heap[j]? = w.heap[j]? := by
  rw [Below.heap_setCell _ _ _ _ h2, Below.heap_setCell _ _ _ _ h2, Below.heap_setCell _ _ _ _ h2, Below.heap_setCell _ _ _ _ h2, Below.heap_setCell _ _ _ _ h2]
theorem below_five {B : Nat} {a w : World} (h : Below B a w) {b : Nat} (hb : B ≤ b) (v1 v2 v3 v4 v5 : Value) :
    Below B a (((((w.setCell ⟨b, 0, none⟩ v1).setCell ⟨b, 1, none⟩ v2).setCell ⟨b, 2, none⟩ v3).setCell ⟨b, 3, none⟩ v4).setCell ⟨b, 4, none⟩ v5) :=
  ((((h.setCell hb _).setCell hb _).setCell hb _).setCell hb _).setCell hb _
theorem box_five {w : World} {b : Nat} {a0 a1 a2 a3 a4 : Value} {t : TypeId} (h : w.heap[b]? = some (.cells #[a0, a1, a2, a3, a4] t (0, 0))) (v1 v2 v3 v4 v5 : Value) :
    (((((w.setCell ⟨b, 0, none⟩ v1).setCell ⟨b, 1, none⟩ v2).setCell ⟨b, 2, none⟩ v3).setCell ⟨b, 3, none⟩ v4).setCell ⟨b, 4, none⟩ v5).heap[b]? = some (.cells #[v1, v2, v3, v4, v5] t (0, 0)) := by
  have h1 := heap_setCell_same w b 0 v1 h
  have h2 := heap_setCell_same _ b 1 v2 h1
  have h3 := heap_setCell_same _ b 2 v3 h2
  have h4 := heap_setCell_same _ b 3 v4 h3
  have h5 := heap_setCell_same _ b 4 v5 h4
  rw [h5]; rfl
theorem row_set {w : World} {B n cap g m : Nat} {e : TypeId} {xs : List Value} (h : w.ownsRow B e 1 (.slice (some ⟨g, 0, none⟩) n cap) n xs) (u : Value) : (w.setCell ⟨g, m, none⟩ u).ownsRow B e 1 (.slice (some ⟨g, 0, none⟩) n cap) n (xs.set m u) := by
  refine ⟨by rw [List.length_set]; exact h.1, ?_⟩
  rcases h.2 with ⟨h1, _⟩ | ⟨g', cap', cur, h1, h2, h3, h4, h5, h6, h7⟩
  · cases h1
  · cases h1
    refine .inr ⟨g, cap, _, rfl, h2, heap_setCell_same w g m u h3, h4, h5, by simpa using h6, ?_⟩
    rw [← h7]
    simp [List.take_set]
section
variable {B : Nat} {r : Rs} {vp vs : Value} {w : World}
theorem RL.five (R : RL B w r vp vs) {b : Nat} (h1 : ∀ g, vp.ownBlock = some g → g ≠ b) (h2 : ∀ g, vs.ownBlock = some g → g ≠ b) (v1 v2 v3 v4 v5 : Value) :
    RL B (((((w.setCell ⟨b, 0, none⟩ v1).setCell ⟨b, 1, none⟩ v2).setCell ⟨b, 2, none⟩ v3).setCell ⟨b, 3, none⟩ v4).setCell ⟨b, 4, none⟩ v5) r vp vs :=
  R.keep (fun g hg => five_cells w b g v1 v2 v3 v4 v5 (h1 g hg)) (fun g hg => five_cells w b g v1 v2 v3 v4 v5 (h2 g hg)) (by simp)
theorem RL.drew (R : RL B w r vp vs) : RL B w.drew r vp vs := R.keep (fun _ _ => rfl) (fun _ _ => rfl) (Nat.le_refl _)
theorem RL.mono (R : RL B w r vp vs) {C : Nat} (h : C ≤ B) : RL C w r vp vs :=
  ⟨⟨R.pcs.1, R.pcs.2.imp id (fun ⟨g, cap, cur, e, hb, rest⟩ => ⟨g, cap, cur, e, by omega, rest⟩)⟩, ⟨R.sto.1, R.sto.2.imp id (fun ⟨g, cap, cur, e, hb, rest⟩ => ⟨g, cap, cur, e, by omega, rest⟩)⟩, R.bw, R.bl, R.bp, R.bs, R.bf, R.ba, Nat.le_trans h R.hB⟩
theorem RL.set (R : RL B w r vp vs) {g cap m : Nat} (hv : vs = .slice (some ⟨g, 0, none⟩) r.st.length cap) (v : Int) : RL B (w.setCell ⟨g, m, none⟩ (.int .i64 v)) (rSet r m v) vp vs := by
  subst hv
  refine ⟨ownsRow_keep R.pcs fun q hq => Below.heap_setCell _ _ _ _ (fun e => ?_), ?_, R.bw, R.bl, R.bp, by show (r.st.set m v).length ≤ _; rw [List.length_set]; exact R.bs, R.bf, R.ba, by simp; exact R.hB⟩
  · rcases R.pcs.2 with ⟨h1, _⟩ | ⟨g', cap', cur, h1, _, h2, _⟩
    · rw [h1] at hq; cases hq
    · rw [h1] at hq; cases hq
      rcases R.sto.2 with ⟨h3, _⟩ | ⟨g2, cap2, cur2, h3, _, h4, _⟩
      · cases h3
      · cases h3; rw [show g' = g from e, h4] at h2; simp at h2
  · have h1 := row_set (m := m) R.sto (.int .i64 v)
    show (w.setCell ⟨g, m, none⟩ (.int .i64 v)).ownsRow B 3 1 _ (r.st.set m v).length (ints (r.st.set m v))
    rw [List.length_set, show ints (r.st.set m v) = (ints r.st).set m (.int .i64 v) by simp [ints, List.map_set]]
    exact h1
/-- What a call of the document's leaves: a new arena beside the old one. -/
structure ROut (B : Nat) (w : World) (vp vs : Value) (r' : Rs) (vp' vs' : Value) (w' : World) : Prop where
  rl : RL B w' r' vp' vs'
  below : Below w.heap.size w w'
  fp : ∀ g, vp'.ownBlock = some g → vp.ownBlock = some g ∨ w.heap.size ≤ g
  fs : ∀ g, vs'.ownBlock = some g → vs.ownBlock = some g ∨ w.heap.size ≤ g
set_option maxHeartbeats 1000000 in
theorem rset_any (x v : Int) (R : RL B w r vp vs) (hin : ∀ j, FindR r.ps x (some j) → ∃ m : Nat, x = m ∧ m < r.st.length) :
    Calls Try.prog 37 #[rv r vp vs, .int .i64 x, .int .i64 v] w fun e w' => (FindR r.ps x none ∧ e = .returned (.tuple #[.int .i64 6, rv r vp vs]) ∧ Below w.heap.size w w') ∨
      ∃ (j m : Nat) (vp' vs' : Value), FindR r.ps x (some j) ∧ x = m ∧ e = .returned (.tuple #[.int .i64 0, rv (rSet r m v) vp' vs']) ∧ ROut B w vp vs (rSet r m v) vp' vs' w' := by
  obtain ⟨aop, cpp, rfl⟩ := R.pform
  obtain ⟨aos, cps, rfl⟩ := R.sform
  obtain ⟨W1, hW1⟩ : ∃ W1, (w.alloc (.cells #[.int .i64 r.wd, .int .i64 r.ln, .slice aop r.ps.length cpp, .int .i64 r.fd, .slice aos r.st.length cps] 33)).alloc (.cells #[.int .i64 0, .int .i64 0, .slice none 0 0, .int .i64 0, .slice none 0 0] 33) = W1 := ⟨_, rfl⟩
  have z1 : W1.heap.size = w.heap.size + 1 + 1 := by rw [← hW1]; simp
  have HB := hide (show Below w.heap.size w W1 by rw [← hW1]; exact ((Below.refl _ _).alloc (Nat.le_refl _) _).alloc (by simp) _)
  have R1 := hide (R.below HB.out)
  have bx1 : W1.heap[w.heap.size]? = some (.cells #[.int .i64 r.wd, .int .i64 r.ln, .slice aop r.ps.length cpp, .int .i64 r.fd, .slice aos r.st.length cps] 33 (0, 0)) := by rw [← hW1, Below.heap_alloc _ _ _ (by simp), heap_new _ _ rfl]
  have bz1 : W1.heap[w.heap.size + 1]? = some (.cells #[.int .i64 0, .int .i64 0, .slice none 0 0, .int .i64 0, .slice none 0 0] 33 (0, 0)) := by rw [← hW1, heap_new _ _ (by simp)]
  have ha := rfind_any (w := W1) x R1.out
  have HIN := hide hin
  have HBX := hide bx1
  have HBZ := hide bz1
  have HRB := hide R.hB
  clear R hin bx1 bz1
  have Z1 := hide z1
  clear z1
  subst hW1
  go_enter Try.func37, Try.ntmps37
  go_wp2_with fail
  refine ha.mono ?_
  rintro e w1 ⟨ho, hb⟩
  have bx := hide ((hb.block w.heap.size (by rw [Z1.out]; omega)).trans HBX.out)
  have bz := hide ((hb.block (w.heap.size + 1) (by rw [Z1.out]; omega)).trans HBZ.out)
  have R2 := hide (R1.out.below hb)
  have B2 := hide (HB.out.trans (hb.mono (by rw [Z1.out]; omega)))
  have zz1 : w.heap.size + 1 < w1.heap.size := by have h1 := hb.size; rw [Z1.out] at h1; omega
  clear hb ha R1 HB HBX HBZ Z1
  rcases ho with ⟨ho, rfl⟩ | ⟨j, p, ho, hp, rfl⟩
  · have HO := hide ho
    clear ho
    obtain ⟨c0, c1, c2, c3, c4, _⟩ := box_cells bx.out
    obtain ⟨d0, d1, d2, d3, d4, f0, f1, f2, f3, f4⟩ := box_cells bz.out
    go_wp2
    go_region
    all_goals go_wp2
    all_goals exact bodyPost_ret (v := .tuple #[.int .i64 6, rv r (.slice aop r.ps.length cpp) (.slice aos r.st.length cps)]) (by simp [results, Try.results37, go_sem, d0, d1, d2, d3, d4]) rfl (.inl ⟨HO.out, rfl, (below_five B2.out (Nat.le_succ _) _ _ _ _ _).drew⟩)
  · obtain ⟨m, hx, hm⟩ := HIN.out j ho
    have HO := hide ho
    have hc := rcopied_any R2.out
    obtain ⟨c0, c1, c2, c3, c4, _⟩ := box_cells bx.out
    clear ho hp
    go_wp2_with fail
    refine hc.mono ?_
    rintro e w2 ⟨vp', vs', rfl, RC, bc⟩
    clear hc c0 c1 c2 c3 c4
    obtain ⟨aop', cpp', rfl⟩ := RC.pform
    obtain ⟨aos', cps', rfl⟩ := RC.sform
    obtain ⟨u, hu⟩ : ∃ u, r.st[m]? = some u := ⟨r.st[m], by simp⟩
    obtain ⟨g, cap, hvs, hcell, hfz, _⟩ := row_cell RC.sto (ints_get hu)
    obtain rfl : aos' = some ⟨g, 0, none⟩ := (Value.slice.inj hvs).1
    have hbs := RC.bs
    have bm : (m : Int) < (r.st.length : Int) := by omega
    have hgl := (RC.sto.lt g rfl)
    have bx2 := hide ((bc.block w.heap.size (by omega)).trans bx.out)
    have bz2 := hide ((bc.block (w.heap.size + 1) (by omega)).trans bz.out)
    obtain ⟨c0, c1, c2, c3, c4, e0, e1, e2, e3, e4⟩ := box_cells bx2.out
    obtain ⟨d0, d1, d2, d3, d4, f0, f1, f2, f3, f4⟩ := box_cells bz2.out
    have zz2 := bc.size
    have hg1 : g ≠ w.heap.size := by omega
    have hg2 : g ≠ w.heap.size + 1 := by omega
    have RCH := hide RC
    have BCH := hide (B2.out.trans (bc.mono (by omega)))
    subst hx
    clear hvs hu R2 B2 bx bz RC bc
    go_wp2
    obtain ⟨W5, hW5⟩ : ∃ W5, (((((w2.setCell ⟨w.heap.size, 0, none⟩ (.int .i64 r.wd)).setCell ⟨w.heap.size, 1, none⟩ (.int .i64 r.ln)).setCell ⟨w.heap.size, 2, none⟩ (.slice aop' r.ps.length cpp')).setCell ⟨w.heap.size, 3, none⟩ (.int .i64 r.fd)).setCell ⟨w.heap.size, 4, none⟩ (.slice (some ⟨g, 0, none⟩) r.st.length cps')).setCell ⟨g, m, none⟩ (.int .i64 v) = W5 := ⟨_, rfl⟩
    rw [hW5]
    have hfar : ∀ q, (Value.slice aop' r.ps.length cpp').ownBlock = some q → q ≠ w.heap.size := fun q hq => by have := (RCH.out.pcs.lt q hq).1; omega
    have hfar2 : ∀ q, (Value.slice (some ⟨g, 0, none⟩) r.st.length cps').ownBlock = some q → q ≠ w.heap.size := fun q hq => by simp [Value.ownBlock] at hq; omega
    have R5 := hide (show RL w1.heap.size W5 (rSet r m v) (.slice aop' r.ps.length cpp') (.slice (some ⟨g, 0, none⟩) r.st.length cps') by
      rw [← hW5]; exact (RCH.out.five hfar hfar2 _ _ _ _ _).set rfl v)
    have x5 : W5.heap[w.heap.size]? = some (.cells #[.int .i64 r.wd, .int .i64 r.ln, .slice aop' r.ps.length cpp', .int .i64 r.fd, .slice (some ⟨g, 0, none⟩) r.st.length cps'] 33 (0, 0)) := by
      rw [← hW5, Below.heap_setCell _ _ _ _ (Ne.symm hg1)]; exact box_five bx2.out _ _ _ _ _
    have y5 : W5.heap[w.heap.size + 1]? = some (.cells #[.int .i64 0, .int .i64 0, .slice none 0 0, .int .i64 0, .slice none 0 0] 33 (0, 0)) := by
      rw [← hW5, Below.heap_setCell _ _ _ _ (Ne.symm hg2), five_cells _ _ _ _ _ _ _ _ (by omega)]; exact bz2.out
    have B5 := hide (show Below w.heap.size w W5 by rw [← hW5]; exact (below_five BCH.out (Nat.le_refl _) _ _ _ _ _).setCell (by show w.heap.size ≤ g; omega) _)
    obtain ⟨x0, x1, x2, x3, x4, _⟩ := box_cells x5
    obtain ⟨y0, y1, y2, y3, y4, z0, z1, z2, z3, z4⟩ := box_cells y5
    have HF1 := hide (show ∀ q, (Value.slice aop' r.ps.length cpp').ownBlock = some q → (Value.slice aop r.ps.length cpp).ownBlock = some q ∨ w.heap.size ≤ q from fun q hq => by have := (RCH.out.pcs.lt q hq).1; right; omega)
    have HF2 := hide (show ∀ q, (Value.slice (some ⟨g, 0, none⟩) r.st.length cps').ownBlock = some q → (Value.slice aos r.st.length cps).ownBlock = some q ∨ w.heap.size ≤ q from fun q hq => by simp [Value.ownBlock] at hq; right; omega)
    have HF3 := hide (show ∀ v1 v2 v3 v4 v5, RL B (((((W5.setCell ⟨w.heap.size + 1, 0, none⟩ v1).setCell ⟨w.heap.size + 1, 1, none⟩ v2).setCell ⟨w.heap.size + 1, 2, none⟩ v3).setCell ⟨w.heap.size + 1, 3, none⟩ v4).setCell ⟨w.heap.size + 1, 4, none⟩ v5).drew (rSet r m v) (.slice aop' r.ps.length cpp') (.slice (some ⟨g, 0, none⟩) r.st.length cps') from fun v1 v2 v3 v4 v5 =>
      (RL.five (b := w.heap.size + 1) (R5.out.mono (by have := HRB.out; omega)) (fun q hq => by have := (RCH.out.pcs.lt q hq).1; omega) (fun q hq => by simp [Value.ownBlock] at hq; omega) v1 v2 v3 v4 v5).drew)
    clear hfar hfar2 x5 y5 c0 c1 c2 c3 c4 e0 e1 e2 e3 e4 d0 d1 d2 d3 d4 f0 f1 f2 f3 f4 hcell hfz hW5 bx2 bz2 R5 RCH
    go_region
    all_goals go_wp2
    all_goals exact bodyPost_ret (v := .tuple #[.int .i64 0, rv (rSet r m v) (.slice aop' r.ps.length cpp') (.slice (some ⟨g, 0, none⟩) r.st.length cps')]) (by simp [results, Try.results37, go_sem, y0, y1, y2, y3, y4, rSet]) rfl (.inr ⟨j, m, _, _, HO.out, rfl, rfl, ⟨HF3.out _ _ _ _ _, (below_five B5.out (Nat.le_succ _) _ _ _ _ _).drew, HF1.out, HF2.out⟩⟩)
end
end Go.Proofs.Ytimpmgbahgganaa
