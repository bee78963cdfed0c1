/- field: the kind of a field of the type that a pointer is of. -/
import Derived.Test.YtkdojpnihinpbaaDoorVfF
namespace Go.Proofs.YtkdojpnihinpbaaDoor
open Go.RowKit
section
variable {B A : Nat} {w w' : World} {p : Pg} {f : Fd} {V : Fv} {fi at_ mo : Int}
theorem FX_room (k : Nat) : FX.room k := room_wide k
theorem require_any (w : World) (f a e : Int) (kept : Bool) : Calls Tryd.prog 66 #[.agg #[.int .i64 f, .int .i64 a], .bool kept, .int .i64 e] w (RqO f a e kept w) := (require_in (m := 0) f a e kept).calls FX_room
/-- How field ends. -/
def FdO (fi at_ : Int) (r : Option Int) (w : World) (e : Ending) (W : World) : Prop := (match r with
  | some y => e = .returned (.int .i64 y)
  | none => e = .panicked (fch fi at_ 11)) ∧ Below w.heap.size w W
set_option maxRecDepth 100000 in
set_option maxHeartbeats 1000000 in
theorem field_any (F : FlAt B w A p f V fi at_ mo) {k : Int} (hn : p.ty.length ≤ 1024) (hk : isKB p.ty.length k = true) (h2 : 2 ≤ bareK k) (x : Int) : Calls Tryd.prog 97 #[.pointer (some ⟨A, 0, none⟩), .int .i64 k, .int .i64 x] w (FdO fi at_ (fieldP p k x) w) := by
  obtain ⟨t, ht⟩ : ∃ t : Nat, (bareK k - 2) / 2 = (t : Int) := ⟨((bareK k - 2) / 2).toNat, by omega⟩
  have htl : t < p.ty.length := by
    simp only [isKB, decide_eq_true_eq] at hk
    have : bareK k < 2 + 2 * (p.ty.length : Int) := by
      rcases hk with h | h | h
      · subst h; simp [bareK] at h2
      · subst h; simp [bareK] at h2
      · exact h.2
    omega
  obtain ⟨l, hx⟩ : ∃ l, p.ty[t]? = some l := ⟨p.ty[t], by simp [htl]⟩
  obtain ⟨g, o, c, n, u, hv, hn', hlt, hg, hc, hl⟩ := lst_at F.pg.ty hx
  obtain ⟨ao, cap, rfl, _, hel⟩ := hl
  have c2 : w.cell? ⟨A, 2, none⟩ = some V.v1 := cell_of F.box rfl
  have c0 : w.cell? ⟨A, 0, none⟩ = some (.int .i64 fi) := cell_of F.box rfl
  have c1 : w.cell? ⟨A, 1, none⟩ = some (.int .i64 at_) := cell_of F.box rfl
  rw [hv] at c2
  have e1 : decide (t < n) = true := by simpa using hlt
  have HP := hide (show fieldP p k x = if inB x l.length then l[x.toNat]? else none by
    unfold fieldP
    simp only [ht, Int.toNat_natCast, hx, Option.getD_some])
  have hlA := lt_of_block F.box
  have hlg : g < w.heap.size := Nat.lt_of_lt_of_le hg F.hB
  have HT := hide (fun (W : World) => typeOf_any W hn hk h2)
  rw [ht] at HT
  have HB := hide F.hB
  have HEL := hide hel
  clear hv hn' hx F htl ht hk h2 hn hel
  obtain ⟨len, hlen⟩ : ∃ len, l.length = len := ⟨_, rfl⟩
  rw [hlen] at hc HP
  obtain ⟨bb, hbb⟩ : ∃ bb, inB x len = bb := ⟨_, rfl⟩
  have HW := hide (fun (W : World) => within_any W x len)
  have HR := hide (fun (W : World) => require_any W fi at_ 11 bb)
  rw [hbb] at HW
  have HBAD := hide (show bb = false → ∀ (W : World) (q : Nat), Below (w.drewN q).drew.heap.size (w.drewN q).drew W → FdO fi at_ (fieldP p k x) w (.panicked (fch fi at_ 11)) W from fun h W q hb => by
    rw [HP.out, hbb, h]
    exact ⟨rfl, ⟨hb.os, hb.tape, hb.output, hb.size, hb.block⟩⟩)
  have HGD := hide (show bb = true → ∃ m : Nat, x = (m : Int) ∧ m < len ∧ ∃ y g2 o2, ao = some ⟨g2, o2, none⟩ ∧ (∀ (W : World) (q : Nat), Below (w.drewN q).drew.heap.size (w.drewN q).drew W → W.cell? ⟨g2, o2 + m, none⟩ = some (.int .i64 y) ∧ FdO fi at_ (fieldP p k x) w (.returned (.int .i64 y)) W) from fun h => by
    rw [h] at hbb
    obtain ⟨m, hm⟩ : ∃ m : Nat, x = (m : Int) := ⟨x.toNat, by simp only [inB, decide_eq_true_eq] at hbb; omega⟩
    have hml : m < len := by simp only [inB, decide_eq_true_eq] at hbb; omega
    obtain ⟨y, hy⟩ : ∃ y, l[m]? = some y := ⟨l[m]'(by omega), by simp⟩
    obtain ⟨g2, o2, e2, hg2, hc2, _⟩ := ints_at HEL.out hy
    refine ⟨m, hm, hml, y, g2, o2, e2, fun W q hb => ⟨(hb.cell (p := ⟨g2, o2 + m, none⟩) (Nat.lt_of_lt_of_le hg2 HB.out)).trans hc2, ?_⟩⟩
    rw [HP.out, hbb, if_pos rfl, hm, Int.toNat_natCast, hy]
    exact ⟨rfl, ⟨hb.os, hb.tape, hb.output, hb.size, hb.block⟩⟩)
  rw [hlen] at *
  clear HP HEL hbb hlen HB
  go_enter Tryd.func97, Tryd.ntmps97
  go_wp2_with fail
  go_quiet ((go_at_call 105; exact Calls.quiet_of_same (HT.out _)))
  go_wp2_with fail
  go_region_with (first
    | (go_at_call 36; refine (HW.out _).mono ?_; rintro e w2 ⟨rfl, rfl⟩)
    | (go_at_call 66; refine (HR.out _).mono ?_; rintro e w3 ⟨(⟨hk3, rfl⟩ | ⟨hk3, rfl⟩), hb3⟩; rotate_left; exact ⟨rfl, HBAD.out hk3 _ _ hb3⟩))
  all_goals (
    obtain ⟨m, rfl, hml, y, g2, o2, rfl, hF⟩ := HGD.out hk3
    obtain ⟨hc3, hF3⟩ := hF _ _ hb3
    have HF3 := hide hF3
    have e2 : decide (m < len) = true := by simpa using hml
    clear hF hF3 HGD HBAD
    go_wp2
    go_ret
    exact HF3.out)
end
end Go.Proofs.YtkdojpnihinpbaaDoor
