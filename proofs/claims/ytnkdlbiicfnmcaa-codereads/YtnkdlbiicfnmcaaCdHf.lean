/- The document's Decode: a function that is read. -/
import Derived.Test.YtnkdlbiicfnmcaaCdHd
namespace Go.Proofs.Ytnkdlbiicfnmcaa
open Go.RowKit
def set5 (w : World) (b : Nat) (u0 u1 u2 u3 u4 : Value) : World := ((((w.setCell ⟨b, 0, none⟩ u0).setCell ⟨b, 1, none⟩ u1).setCell ⟨b, 2, none⟩ u2).setCell ⟨b, 3, none⟩ u3).setCell ⟨b, 4, none⟩ u4
def set3 (w : World) (b : Nat) (u1 u2 u3 : Value) : World := ((w.setCell ⟨b, 1, none⟩ u1).setCell ⟨b, 2, none⟩ u2).setCell ⟨b, 3, none⟩ u3
theorem set5_other {w : World} {b j : Nat} (u0 u1 u2 u3 u4 : Value) (h : j ≠ b) : (set5 w b u0 u1 u2 u3 u4).heap[j]? = w.heap[j]? := by
  unfold set5
  rw [Below.heap_setCell _ _ _ j h, Below.heap_setCell _ _ _ j h, Below.heap_setCell _ _ _ j h, Below.heap_setCell _ _ _ j h, Below.heap_setCell _ _ _ j h]
theorem set3_other {w : World} {b j : Nat} (u1 u2 u3 : Value) (h : j ≠ b) : (set3 w b u1 u2 u3).heap[j]? = w.heap[j]? := by
  unfold set3
  rw [Below.heap_setCell _ _ _ j h, Below.heap_setCell _ _ _ j h, Below.heap_setCell _ _ _ j h]
theorem sc_os (w : World) (a : Addr) (u : Value) : (w.setCell a u).os = w.os := rfl
theorem sc_tape (w : World) (a : Addr) (u : Value) : (w.setCell a u).tape = w.tape := rfl
theorem sc_output (w : World) (a : Addr) (u : Value) : (w.setCell a u).output = w.output := rfl
theorem set5_rest (w : World) (b : Nat) (u0 u1 u2 u3 u4 : Value) : (set5 w b u0 u1 u2 u3 u4).os = w.os ∧ (set5 w b u0 u1 u2 u3 u4).tape = w.tape ∧ (set5 w b u0 u1 u2 u3 u4).output = w.output ∧ (set5 w b u0 u1 u2 u3 u4).heap.size = w.heap.size := by
  unfold set5
  simp only [sc_os, sc_tape, sc_output, World.size_setCell, and_self]
theorem set5_cells {w : World} {b : Nat} {x0 x1 x2 x3 x4 : Value} {t : TypeId} (h : w.heap[b]? = some (.cells #[x0, x1, x2, x3, x4] t (0, 0))) (u0 u1 u2 u3 u4 : Value) : (set5 w b u0 u1 u2 u3 u4).heap[b]? = some (.cells #[u0, u1, u2, u3, u4] t (0, 0)) :=
  heap_setCell_same _ _ 4 _ (heap_setCell_same _ _ 3 _ (heap_setCell_same _ _ 2 _ (heap_setCell_same _ _ 1 _ (heap_setCell_same _ _ 0 _ h))))
section
/-- A function that is being read, in a box of its own. -/
structure FS (B A fb : Nat) (wr : World) (pa : Int) (v1 v2 v3 v4 : Value) (lo re ar : List Int) (co : List In3) (s : Rs) (wx : World) : Prop where
  rd : Rd B A wx s
  rl : s.rest.length ≤ MB
  bx : wx.heap[fb]? = some (.cells #[.int .i64 pa, v1, v2, v3, v4] 58 (0, 0))
  r1 : RowP 3 1 IntP 0 wx v1 lo
  r2 : RowP 3 1 IntP 0 wx v2 re
  r3 : RowP 3 1 IntP 0 wx v3 ar
  r4 : RowP 60 3 InsP (fb + 1) wx v4 co
  fr : Fr A wr wx
  wl : wr.heap.size ≤ fb
  al : A < wr.heap.size
variable {B A fb : Nat} {w wr w1 wx w3 : World} {pa : Int} {v1 v2 v3 v4 : Value} {lo re ar : List Int} {co : List In3} {s s1 s3 : Rs}
theorem row_nil {α : Type} (T k : Nat) (P : World → List Value → α → Prop) (N : Nat) (w : World) : RowP T k P N w (.slice none 0 0) ([] : List α) := ⟨[], ⟨by simp, .inl ⟨rfl, rfl⟩⟩, fun j x h => by simp at h⟩
theorem fs_init (L : Rd B A w1 s) (hl : s.rest.length ≤ MB) (F : Fr A wr w1) (hA : A < wr.heap.size) (pa : Int) : FS B A w1.heap.size wr pa (.slice none 0 0) (.slice none 0 0) (.slice none 0 0) (.slice none 0 0) [] [] [] [] s
    (set5 (w1.alloc (.cells #[.int .i64 0, .slice none 0 0, .slice none 0 0, .slice none 0 0, .slice none 0 0] 58)) w1.heap.size (.int .i64 pa) (.slice none 0 0) (.slice none 0 0) (.slice none 0 0) (.slice none 0 0)) := by
  have hs := F.size
  have hBA := L.1
  have h0 := heap_new w1 (.cells #[.int .i64 0, .slice none 0 0, .slice none 0 0, .slice none 0 0, .slice none 0 0] 58) rfl
  have hb : Below w1.heap.size w1 (w1.alloc (.cells #[.int .i64 0, .slice none 0 0, .slice none 0 0, .slice none 0 0, .slice none 0 0] 58)) := (Below.refl _ _).alloc (Nat.le_refl _) _
  generalize w1.alloc (.cells #[.int .i64 0, .slice none 0 0, .slice none 0 0, .slice none 0 0, .slice none 0 0] 58) = W at *
  have h5 := set5_cells h0 (.int .i64 pa) (.slice none 0 0) (.slice none 0 0) (.slice none 0 0) (.slice none 0 0)
  have hr := set5_rest W w1.heap.size (.int .i64 pa) (.slice none 0 0) (.slice none 0 0) (.slice none 0 0) (.slice none 0 0)
  have hk : ∀ j, j < w1.heap.size → (set5 W w1.heap.size (.int .i64 pa) (.slice none 0 0) (.slice none 0 0) (.slice none 0 0) (.slice none 0 0)).heap[j]? = w1.heap[j]? := fun j hj => by
    rw [set5_other _ _ _ _ _ (by omega), hb.block j hj]
  generalize set5 W w1.heap.size (.int .i64 pa) (.slice none 0 0) (.slice none 0 0) (.slice none 0 0) (.slice none 0 0) = V at *
  obtain ⟨r1, r2, r3, r4⟩ := hr
  have hb1 := hb.size
  exact ⟨L.keep (fun j hj => hk j (by omega)) (hk A (by omega)), hl, h5, row_nil _ _ _ _ _, row_nil _ _ _ _ _, row_nil _ _ _ _ _, row_nil _ _ _ _ _, ⟨r1.trans (hb.os.trans F.os), r2.trans (hb.tape.trans F.tape), r3.trans (hb.output.trans F.output), by omega, fun j hj h => (hk j (by omega)).trans (F.block j hj h)⟩, hs, hA⟩
theorem FS.go (S : FS B A fb wr pa v1 v2 v3 v4 lo re ar co s wx) (F : Fr A wx w3) (L : Rd B A w3 s3) (hle : s3.rest.length ≤ s.rest.length) : FS B A fb wr pa v1 v2 v3 v4 lo re ar co s3 w3 := by
  have hs := F.smr S.rd
  have h1 := S.wl
  have h2 := S.al
  exact ⟨L, Nat.le_trans hle S.rl, (F.block fb (lt_of_block S.bx) (by omega)).trans S.bx, S.r1.keep (int_keep _) (by decide) hs, S.r2.keep (int_keep _) (by decide) hs, S.r3.keep (int_keep _) (by decide) hs, S.r4.keep (insp_keep _) (by decide) hs, S.fr.trans F, h1, h2⟩
theorem FS.three (S : FS B A fb wr pa v1 v2 v3 v4 lo re ar co s wx) {u1 u2 u3 : Value} {lo' re' ar' : List Int} (R1 : RowP 3 1 IntP 0 wx u1 lo') (R2 : RowP 3 1 IntP 0 wx u2 re') (R3 : RowP 3 1 IntP 0 wx u3 ar') : FS B A fb wr pa u1 u2 u3 v4 lo' re' ar' co s (set3 wx fb u1 u2 u3) := by
  have h1 := S.wl
  have h2 := S.al
  have h3 := S.rd.1
  have hk : ∀ j, j ≠ fb → (set3 wx fb u1 u2 u3).heap[j]? = wx.heap[j]? := fun j hj => set3_other _ _ _ hj
  have hs : SmX [58] wx (set3 wx fb u1 u2 u3) := fun j c t f hj ht => hk j (fun e => by subst e; rw [S.bx] at hj; cases hj; exact ht (by simp))
  refine ⟨S.rd.keep (fun j hj => hk j (by omega)) (hk A (by omega)), S.rl, heap_setCell_same _ _ 3 _ (heap_setCell_same _ _ 2 _ (heap_setCell_same _ _ 1 _ S.bx)), R1.keep (int_keep _) (by decide) hs, R2.keep (int_keep _) (by decide) hs, R3.keep (int_keep _) (by decide) hs, S.r4.keep (insp_keep _) (by decide) hs, ⟨S.fr.os, S.fr.tape, S.fr.output, by simp [set3]; exact S.fr.size, fun j hj h => (hk j (by omega)).trans (S.fr.block j hj h)⟩, h1, h2⟩
/-- One more instruction. -/
theorem FS.push (S : FS B A fb wr pa v1 v2 v3 v4 lo re ar co s wx) (F : Fr A wx w3) (L : Rd B A w3 s3) (hle : s3.rest.length ≤ s.rest.length) {x : In3} (ho : (-9223372036854775808 ≤ x.o ∧ x.o ≤ 9223372036854775807) ∧ (-9223372036854775808 ≤ x.a ∧ x.a ≤ 9223372036854775807) ∧ (-9223372036854775808 ≤ x.b ∧ x.b ≤ 9223372036854775807)) (hlen : co.length ≤ 8000000) (ty : TypeId) :
    ∃ g cap w5, (Builtin.append_ #[56, 56] ty #[v4, .slice (some ⟨w3.heap.size, 0, none⟩) 1 1]).run Try.prog (w3.alloc (.cells #[.int .i64 x.o, .int .i64 x.a, .int .i64 x.b] 60)) = .ok (.slice (some ⟨g, 0, none⟩) (co.length + 1) cap) w5 ∧ w5.cell? ⟨fb, 4, none⟩ = some v4 ∧ w5.frozen? ⟨fb, 4, none⟩ = false ∧ fb < w5.heap.size ∧
      FS B A fb wr pa v1 v2 v3 (.slice (some ⟨g, 0, none⟩) (co.length + 1) cap) lo re ar (co ++ [x]) s3 (w5.setCell ⟨fb, 4, none⟩ (.slice (some ⟨g, 0, none⟩) (co.length + 1) cap)) := by
  have h1 := S.wl
  have h2 := S.al
  have h3 := S.rd.1
  have h4 := lt_of_block S.bx
  obtain ⟨i0, hi, hz0, hz1, hz2⟩ := info_parts Try.info60
  obtain ⟨g, cap, w5, hrun, k0, k1, k2, L5, e5, R5, GW⟩ := push_step (r := 4) (T := 60) (k := 3) (P := InsP) (x := x) (cs := [.int .i64 x.o, .int .i64 x.a, .int .i64 x.b]) (insp_keep _) Try.underlying56 hi hz0 hz1 hz2 rfl (by decide) (by decide) S.rd L F (show fb + 1 ≤ wx.heap.size by omega) (by omega) (by omega) (by omega) (by omega) S.bx rfl S.r4 rfl (by simp [Value.oneCell']) ⟨rfl, ho⟩ hlen ty
  exact ⟨g, cap, w5, hrun, k0, k1, k2, L5, Nat.le_trans hle S.rl, e5, S.r1.keep (int_keep _) (by decide) GW.sm, S.r2.keep (int_keep _) (by decide) GW.sm, S.r3.keep (int_keep _) (by decide) GW.sm, R5, ⟨GW.os.trans S.fr.os, GW.tape.trans S.fr.tape, GW.output.trans S.fr.output, Nat.le_trans S.fr.size GW.size, fun j hj h => (GW.low j (by omega) h (by omega)).trans (S.fr.block j hj h)⟩, h1, h2⟩
theorem FS.drew (S : FS B A fb wr pa v1 v2 v3 v4 lo re ar co s wx) : FS B A fb wr pa v1 v2 v3 v4 lo re ar co s wx.drew := by
  have hs : SmX [] wx wx.drew := fun j c t f hj _ => rfl
  exact ⟨S.rd.drew, S.rl, S.bx, S.r1.keep (int_keep _) (by simp) hs, S.r2.keep (int_keep _) (by simp) hs, S.r3.keep (int_keep _) (by simp) hs, S.r4.keep (insp_keep _) (by simp) hs, ⟨S.fr.os, S.fr.tape, S.fr.output, S.fr.size, S.fr.block⟩, S.wl, S.al⟩
theorem FS.rfd (S : FS B A fb wr pa v1 v2 v3 v4 lo re ar co s wx) (hp : -9223372036854775808 ≤ pa ∧ pa ≤ 9223372036854775807) : RFd wx [.int .i64 pa, v1, v2, v3, v4] ⟨pa, lo, re, ar, co⟩ := ⟨v1, v2, v3, v4, rfl, hp, S.r1, S.r2, S.r3, S.r4.base0⟩
theorem Rd.set0 (L : Rd B A w s) {v : Value} {r : By} (hv : BytesAt B w v r) : Rd B A (w.setCell ⟨A, 0, none⟩ v) ⟨r, s.bad⟩ ∧ Fr A w (w.setCell ⟨A, 0, none⟩ v) := by
  obtain ⟨h1, v0, h2, h3⟩ := L
  have e1 := heap_setCell_same w A 0 v h2
  have hk : ∀ j, j ≠ A → (w.setCell ⟨A, 0, none⟩ v).heap[j]? = w.heap[j]? := fun j hj => Below.heap_setCell _ _ _ j hj
  exact ⟨⟨h1, v, by simpa using e1, hv.keep fun j hj => hk j (by omega)⟩, ⟨rfl, rfl, rfl, by simp, fun j _ hj => hk j hj⟩⟩
theorem BytesAt.tail1 {ao : Option Addr} {n cap m : Nat} {l : By} (R : BytesAt B w (.slice ao n cap) l) (hm : m ≤ l.length) (hc : cap = m) : BytesAt B w (.slice ao (n - m) 0) (l.drop m) := by
  obtain ⟨ao', cap', hv, hcap, hcm, hno, hsp, hel⟩ := R
  cases hv
  have he : l.drop m = [] := List.drop_eq_nil_of_le (by omega)
  refine ⟨ao, 0, by rw [he, List.length_nil, Nat.sub_eq_zero_of_le (by omega)], by rw [he]; simp, by decide, fun _ => rfl, (fun _ _ => trivial), fun j b hb => ?_⟩
  rw [he] at hb
  simp at hb
theorem BytesAt.tail2 {ao : Option Addr} {n cap m : Nat} {l : By} (R : BytesAt B w (.slice ao n cap) l) (hm : m ≤ l.length) : BytesAt B w (.slice (Option.map (fun x => x.add m) ao) (n - m) (cap - m)) (l.drop m) := by
  obtain ⟨ao', cap', hv, hcap, hcm, hno, hsp, hel⟩ := R
  cases hv
  refine ⟨_, _, by rw [List.length_drop], by rw [List.length_drop]; omega, by omega, (by intro h; cases ao with | none => (have := hno rfl; omega) | some a => simp at h), (fun _ _ => trivial), fun j b hb => ?_⟩
  rw [List.getElem?_drop] at hb
  obtain ⟨g', o', h7, h8, h9⟩ := hel _ b hb
  subst h7
  refine ⟨g', o' + m, ?_, h8, by rw [Nat.add_assoc]; exact h9⟩
  cases m <;> simp [Addr.add]
theorem BytesAt.conv {ao : Option Addr} {n cap m : Nat} {l : By} (R : BytesAt B w (.slice ao n cap) l) (hm : m ≤ l.length) : (convert 28 9 (.slice ao m cap)).run Try.prog w = .ok (.string ⟨(l.take m).toArray⟩) w := by
  obtain ⟨ao', cap', hv, hcap, hcm, hno, hsp, hel⟩ := R
  cases hv
  cases ao with
  | none =>
    obtain rfl : m = 0 := by have := hno rfl; omega
    exact run_convert_bytes_nil w 28 5 Try.underlying28 Try.underlying5 0 cap 9 Try.underlying9
  | some a =>
    have := run_convert_bytes_back w 28 9 5 a cap (l.take m) Try.underlying28 Try.underlying5 Try.underlying9 (fun j hj => by
      rw [List.length_take] at hj
      have hj2 : j < l.length := by omega
      obtain ⟨g, o, he, _, hcell⟩ := hel j _ (List.getElem?_eq_getElem hj2)
      cases he
      rw [show (⟨g, o, none⟩ : Addr).add j = ⟨g, o + j, none⟩ by cases j <;> simp [Addr.add], hcell]
      simp)
    rw [List.length_take, Nat.min_eq_left (by omega)] at this
    exact this
end
end Go.Proofs.Ytnkdlbiicfnmcaa
