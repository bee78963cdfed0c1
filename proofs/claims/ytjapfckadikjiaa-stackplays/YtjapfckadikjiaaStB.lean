/- A word's place, Get, Set, a frame's size, Addr. -/
import Derived.Test.YtjapfckadikjiaaStA
namespace Go.Proofs.Ytjapfckadikjiaa
open Go.RowKit

theorem word_nil (x : Int) (w : World) : Calls Try.prog 33 #[.pointer none, .int .i64 x] w fun e w' => e = .returned (.tuple #[.pointer none, .int .i64 1]) ∧ w' = w := by
  go_enter Try.func33, Try.ntmps33
  go_wp2
  go_ret2
  exact ⟨rfl, rfl⟩
theorem get_err (a : Value) (x y : Int) (hy : y ≠ 0) (w : World) (R : World → Prop) (hc : Calls Try.prog 33 #[a, .int .i64 x] w fun e w' => e = .returned (.tuple #[.pointer none, .int .i64 y]) ∧ R w') :
    Calls Try.prog 16 #[a, .int .i64 x] w fun e w' => e = two (0, y) ∧ R w' := by
  have hd : (y != 0) = true := by simpa using hy
  have HR := hide hc
  clear hc
  go_enter Try.func16, Try.ntmps16
  go_wp2_with fail
  refine HR.out.mono ?_
  rintro e w1 ⟨rfl, hb⟩
  go_wp2
  go_ret2
  exact ⟨rfl, hb⟩
theorem set_err (a : Value) (x v y : Int) (hy : y ≠ 0) (w : World) (R : World → Prop) (hc : Calls Try.prog 33 #[a, .int .i64 x] w fun e w' => e = .returned (.tuple #[.pointer none, .int .i64 y]) ∧ R w') :
    Calls Try.prog 18 #[a, .int .i64 x, .int .i64 v] w fun e w' => e = .returned (.int .i64 y) ∧ R w' := by
  have hd : (y != 0) = true := by simpa using hy
  have HR := hide hc
  clear hc
  go_enter Try.func18, Try.ntmps18
  go_wp2_with fail
  refine HR.out.mono ?_
  rintro e w1 ⟨rfl, hb⟩
  go_wp2
  go_ret
  exact ⟨rfl, hb⟩
theorem modify_set {l : List Wo} {i : Nat} {u : Wo} {f : Wo → Wo} (h : l[i]? = some u) : l.modify i f = l.set i (f u) := by
  have hi := get_lt h
  apply List.ext_getElem?
  intro j
  rw [List.getElem?_modify, List.getElem?_set]
  by_cases hj : i = j
  · subst hj
    obtain rfl : l[i] = u := by rw [List.getElem?_eq_getElem hi] at h; exact Option.some.inj h
    simp [hi]
  · simp [hj]
def getP (s : Sk) (x : Int) : Int × Int :=
  match plc s x with
  | none => (0, 6)
  | some i => ((s.ws[i]?.map (·.v)).getD 0, 0)
def setP (s : Sk) (x v : Int) : Int × Sk :=
  match plc s x with
  | none => (6, s)
  | some i => (0, setS s i v)
section
variable {X : Sx} {s : Sk}
def WdE (X : Sx) (s : Sk) (x : Int) (e : Ending) : Prop :=
  match plc s x with
  | none => e = .returned (.tuple #[.pointer none, .int .i64 6])
  | some i => ∃ g cap, X.vw = .slice (some ⟨g, 0, none⟩) s.ws.length cap ∧ e = .returned (.tuple #[.pointer (some ⟨g, i * 2, none⟩), .int .i64 0])
theorem word_any (x : Int) (w : World) (L : Sl X w s) (I : SInv s) (hx : x ≤ 9223372036854775807) :
    Calls Try.prog 33 #[X.p, .int .i64 x] w fun e w' => WdE X s x e ∧ Below w.heap.size w w' := by
  have hp := place_any x w L I hx
  unfold PlE at hp
  unfold WdE
  cases h : plc s x with
  | none =>
    rw [h] at hp
    have HR := hide hp
    clear hp h L I
    go_enter Try.func33, Try.ntmps33
    go_wp2_with fail
    refine HR.out.mono ?_
    rintro e w1 ⟨rfl, hb⟩
    go_wp2
    go_ret2
    exact ⟨rfl, hb⟩
  | some i =>
    rw [h] at hp
    have hi := (plc_some h).2
    have HR := hide hp
    have hfit := I.fit
    have hm1 := I.m1
    have b3 : (s.ws.length : Int) ≤ 65536 := by omega
    have b4 : (i : Int) < (s.ws.length : Int) := by omega
    clear hp h I hfit hm1
    go_enter Try.func33, Try.ntmps33
    go_wp2_with fail
    refine HR.out.mono ?_
    rintro e w1 ⟨rfl, hb⟩
    have L1 := L.below hb
    have c2 := L1.c2
    obtain ⟨g, cap, hv, -⟩ := L1.word (List.getElem?_eq_getElem hi)
    rw [hv] at c2
    have HV := hide hv
    clear HR hv L L1 hi
    generalize s.ws.length = n at c2 b3 b4
    go_wp2
    go_ret2
    exact ⟨⟨g, cap, HV.out, rfl⟩, hb⟩
theorem get_any (x : Int) (w : World) (L : Sl X w s) (I : SInv s) (hx : x ≤ 9223372036854775807) :
    Calls Try.prog 16 #[X.p, .int .i64 x] w fun e w' => e = two (getP s x) ∧ Below w.heap.size w w' := by
  have hc := word_any x w L I hx
  unfold WdE at hc
  unfold getP
  cases h : plc s x with
  | none => rw [h] at hc; exact get_err X.p x 6 (by decide) w _ hc
  | some i =>
    rw [h] at hc
    have hi := (plc_some h).2
    have hu := List.getElem?_eq_getElem hi
    simp only [hu, Option.map_some, Option.getD_some]
    have HR := hide hc
    clear hc h I
    go_enter Try.func16, Try.ntmps16
    go_wp2_with fail
    refine HR.out.mono ?_
    rintro e w1 ⟨⟨g, cap, hv, rfl⟩, hb⟩
    obtain ⟨g', cap', hv', c1, _⟩ := (L.below hb).word hu
    rw [hv] at hv'
    cases hv'
    clear HR hv L
    go_wp2
    go_ret2
    exact ⟨rfl, hb⟩
theorem set_any (x v : Int) (w : World) (L : Sl X w s) (I : SInv s) (hx : x ≤ 9223372036854775807) :
    Calls Try.prog 18 #[X.p, .int .i64 x, .int .i64 v] w fun e w' => e = .returned (.int .i64 (setP s x v).1) ∧ Sl X w' (setP s x v).2 ∧ Stp X X w w' := by
  have hc := word_any x w L I hx
  unfold WdE at hc
  unfold setP
  cases h : plc s x with
  | none =>
    rw [h] at hc
    exact (set_err X.p x v 6 (by decide) w _ hc).mono fun e w' ⟨he, hb⟩ => ⟨he, L.below hb, Stp.of_below hb⟩
  | some i =>
    rw [h] at hc
    have hi := (plc_some h).2
    have hu := List.getElem?_eq_getElem hi
    have HU := hide hu
    have HR := hide hc
    clear hc h I
    go_enter Try.func18, Try.ntmps18
    go_wp2_with fail
    refine HR.out.mono ?_
    rintro e w1 ⟨⟨g, cap, hv, rfl⟩, hb⟩
    have L1 := L.below hb
    obtain ⟨g', cap', hv', c1, _, fz⟩ := L1.word hu
    have fz1 := fz (i * 2)
    rw [hv] at hv'
    cases hv'
    have HL := hide L1
    have HV := hide hv
    clear HR hv L L1 hu
    go_wp2
    go_ret
    obtain ⟨h1, h2⟩ := HL.out.putW (u' := { s.ws[i] with v := v }) (s' := setS s i v) HV.out HU.out rfl rfl rfl (by rw [setS_ws, modify_set HU.out]) (setFr_sta v s.fr i 0)
    exact ⟨rfl, h1, (Stp.of_below hb).trans h2⟩
set_option maxHeartbeats 1000000 in
theorem size_any {i : Nat} {f : List Wo} (w : World) (L : Sl X w s) (I : SInv s) (hf : s.fr[i]? = some f) :
    Calls Try.prog 32 #[X.p, .int .i64 i] w fun e w' => e = .returned (.int .i64 f.length) ∧ w' = w := by
  have hi := get_lt hf
  have c2 := L.c2
  have c3 := L.c3
  obtain ⟨g, cap, hvs, cs⟩ := L.start hi
  obtain ⟨ao, cp, hvw⟩ := L.wlen
  rw [hvw] at c2
  rw [hvs] at c3
  have hp := pre_succ hf
  have hfew := I.few
  have hfit := I.fit
  have hm1 := I.m1
  have b1 : (s.fr.length : Int) ≤ 1000 := by omega
  have b2 : (i : Int) < (s.fr.length : Int) := by omega
  have b3 : (s.ws.length : Int) ≤ 65536 := by omega
  have hpl := pre_get hf
  have b4 : (pre s.fr i : Int) ≤ 65536 := by have : s.fr.flatten.length = s.ws.length := rfl; omega
  by_cases h1 : i + 1 < s.fr.length
  · obtain ⟨g', cap', hvs', cs'⟩ := L.start h1
    rw [hvs] at hvs'
    cases hvs'
    have e1 : (pre s.fr (i + 1) : Int) = (pre s.fr i : Int) + (f.length : Int) := by omega
    rw [e1] at cs'
    have b5 : (f.length : Int) ≤ 65536 := by have : s.fr.flatten.length = s.ws.length := rfl; omega
    have b6 : (i : Int) + 1 < (s.fr.length : Int) := by omega
    have d1 : decide ((i : Int) + 1 < (s.fr.length : Int)) = true := by simpa using b6
    have e2 : (pre s.fr i : Int) + (f.length : Int) - (pre s.fr i : Int) = f.length := by omega
    clear hvs hvw hf L I hp e1 hfew hfit hm1 hpl
    generalize s.fr.length = m at *
    generalize s.ws.length = n at *
    generalize pre s.fr i = q at *
    generalize f.length = k at *
    go_enter Try.func32, Try.ntmps32
    go_wp2
    go_ret
    exact ⟨rfl, rfl⟩
  · have e1 : (s.ws.length : Int) = (pre s.fr i : Int) + (f.length : Int) := by
      have : pre s.fr (i + 1) = s.ws.length := pre_len (by omega)
      omega
    have e2 : (pre s.fr i : Int) + (f.length : Int) - (pre s.fr i : Int) = f.length := by omega
    have e3 : s.ws.length = pre s.fr i + f.length := by omega
    rw [e3] at c2
    have b5 : (pre s.fr i : Int) + (f.length : Int) ≤ 65536 := by omega
    have d1 : decide ((i : Int) + 1 < (s.fr.length : Int)) = false := by simp; omega
    clear hvs hvw hf L I hp e1 e3 hfew hfit hm1 hpl b3
    generalize s.fr.length = m at *
    generalize pre s.fr i = q at *
    generalize f.length = k at *
    go_enter Try.func32, Try.ntmps32
    go_wp2
    go_ret
    exact ⟨rfl, rfl⟩
end
end Go.Proofs.Ytjapfckadikjiaa
