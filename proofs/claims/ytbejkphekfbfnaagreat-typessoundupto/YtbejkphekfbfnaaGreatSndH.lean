/- The test of a cut: its region draws its order. -/
import Derived.Test.YtbejkphekfbfnaaGreatSndG
namespace Go.Proofs.YtbejkphekfbfnaaGreat
open Go.RowKit
attribute [local go_sem ↓] Go.wp_at_zero Go.wp_at_succ

theorem Hx.drew {w W : World} {c0 c1 c2 c3 : Value} (h : Hx w c0 c1 c2 c3 W) : Hx w c0 c1 c2 c3 W.drew := by
  have h' : Below _ _ _ := h
  exact (⟨h'.os, h'.tape, h'.output, h'.size, h'.block⟩ : Below (w.heap.size + 1) (w.alloc (.cells #[c0, c1, c2, c3] 24)) W.drew)

set_option maxRecDepth 20000 in
set_option maxHeartbeats 4000000 in
theorem cut_any {n : Nat} {r : Q → Tr → Bool} (hExp : Tst 150 n (r .exp)) (s : List UInt8) (m : Int) (ks : List Tr) (sl : Value) (S : Nat → Prop) (w : World) (hG : Gl w) (hS : ∀ b, S b → b < w.heap.size) (hF : Fit (n + 1) (.mk 50 s m ks)) (hk : KT w S (.mk 50 s m ks) sl) :
    Calls Tryz.prog 150 #[tv (.mk 50 s m ks) sl] w fun e w' => e = .returned (.bool (expB r (.mk 50 s m ks))) ∧ Below w.heap.size w w' := by
  obtain ⟨ao, c, rfl⟩ := (Lst.of hk).slice
  obtain ⟨hF1, hF2, hF3⟩ := hF
  change ∀ t ∈ ks, Fit _ t at hF3
  change ks.length ≤ 20000 at hF1
  have hL := Lst.of hk
  have HR : Hid (expB r (.mk 50 s m ks) = (numberedT (.mk 50 s m ks) && ((ks.length : Int) == cutN m && ks.all (r .exp)))) := rfl
  have hX0 := Hx.start (w := w) (c0 := .int .i64 50) (c1 := .string ⟨s.toArray⟩) (c2 := .int .i64 m) (c3 := .slice ao ks.length c)
  have hX0d := hX0.drew
  have c1 := numberedW hX0d.out (.mk 50 s m ks) ao ks.length c
  change Calls Tryz.prog 150 #[.agg #[.int .i64 50, .string ⟨s.toArray⟩, .int .i64 m, .slice ao ks.length c]] w _
  cases h1 : numberedT (.mk 50 s m ks) with
  | false =>
    have HX : Hid (expB r (.mk 50 s m ks) = false) := HR.out.trans (by rw [h1]; rfl)
    rw [h1] at c1
    clear h1 HR
    go_enter Tryz.func150, Tryz.ntmps150
    go_wp2_with fail
    (first | go_region_with (first
      | (go_at_call 138; refine c1.mono ?_; rintro e w1 ⟨rfl, hb1⟩
         have hX1 := hX0d.next hb1
         obtain ⟨x0, x1, x2, x3⟩ := hX1.cells)) | fail)
    all_goals
      go_wp2
      go_ret
      exact ⟨congrArg (fun b => Ending.returned (Value.bool b)) HX.out.symm, hX1.out⟩
  | true =>
    have HR1 : Hid (expB r (.mk 50 s m ks) = ((ks.length : Int) == cutN m && ks.all (r .exp))) := HR.out.trans (by rw [h1]; rfl)
    rw [h1] at c1
    clear h1 HR
    cases h2 : ((ks.length : Int) == cutN m) with
    | false =>
      have HX : Hid (expB r (.mk 50 s m ks) = false) := HR1.out.trans (by rw [h2]; rfl)
      clear HR1
      go_enter Tryz.func150, Tryz.ntmps150
      go_wp2_with fail
      (first | go_region_with (first
        | (go_at_call 138; refine c1.mono ?_; rintro e w1 ⟨rfl, hb1⟩
           have hX1 := hX0d.next hb1
           obtain ⟨x0, x1, x2, x3⟩ := hX1.cells)
        | (go_at_call 168; refine (cutKids_any _ _).mono ?_; rintro e w2 ⟨rfl, rfl⟩)) | fail)
      all_goals
        go_wp2
        go_ret
        exact ⟨congrArg (fun b => Ending.returned (Value.bool b)) HX.out.symm, hX1.out⟩
    | true =>
      have HX : Hid (expB r (.mk 50 s m ks) = ks.all (r .exp)) := HR1.out.trans (by rw [h2]; rfl)
      clear HR1
      go_enter Tryz.func150, Tryz.ntmps150
      go_wp2_with fail
      (first | go_region_with (first
        | (go_at_call 138; refine c1.mono ?_; rintro e w1 ⟨rfl, hb1⟩
           have hX1 := hX0d.next hb1
           obtain ⟨x0, x1, x2, x3⟩ := hX1.cells)
        | (go_at_call 168; refine (cutKids_any _ _).mono ?_; rintro e w2 ⟨rfl, rfl⟩)
        | (go_at_call 103; refine (everyW ent_exp hExp hG hS hF3 hF1 hL hX1.out).mono ?_; rintro e w3 ⟨rfl, hb3⟩
           have hX3 := hX1.next hb3
           clear x0 x1 x2 x3
           obtain ⟨x0, x1, x2, x3⟩ := hX3.cells)) | fail)
      all_goals
        go_wp2
        go_ret
        exact ⟨congrArg (fun b => Ending.returned (Value.bool b)) HX.out.symm, hX3.out⟩
end Go.Proofs.YtbejkphekfbfnaaGreat
