/- The document's heap, plain and in memory, and how it stands to the program's. -/
import Derived.Test.YtimpmgbahgganaaQu
import Derived.Test.YtimpmgbahgganaaArReJp
import Derived.Deep.DrawnRows
import Derived.Test.YtimpmgbahgganaaHpH
namespace Go.Proofs.Ytimpmgbahgganaa
open Go.RowKit Go.Maps

/-- An object of the document's. -/
structure Ro where
  a : Nat
  t : Nat
  n : Nat
structure Rh where
  ty : List (List Int)
  r : Rs
  ob : List Ro
def ow (q : Rh) (o : Ro) : Nat := max 1 (o.n * (q.ty.getD o.t []).length)
/-- The two heaps say the same. -/
structure SimH (h : Hs) (q : Rh) : Prop where
  ty : h.ty = q.ty.map ptrs
  sim : Sim h.s q.r
  ob : ∀ (a t n : Nat), h.ob a = some (t, n) ↔ ∃ j : Nat, q.ob[j]? = some ⟨a, t, n⟩
  nd : (q.ob.map (·.a)).Nodup
/-- The object that a word lies in. -/
def FindH (q : Rh) (x : Int) : Option Nat → Prop
  | some j => ∃ o, q.ob[j]? = some o ∧ (o.a : Int) ≤ x ∧ x ≤ (o.a : Int) + ow q o - 1
  | none => ∀ (j : Nat) (o : Ro), q.ob[j]? = some o → ¬ ((o.a : Int) ≤ x ∧ x ≤ (o.a : Int) + ow q o - 1)
section
variable {h : Hs} {q : Rh}
theorem SimH.obj (S : SimH h q) (I : HInv h) {j : Nat} {o : Ro} (ho : q.ob[j]? = some o) : ∃ f i p, Obj1 h o.a o.t o.n (ptrs f) i p ∧ q.ty[o.t]? = some f ∧ ow q o = p.n := by
  obtain ⟨f, i, p, O⟩ := I.obj ((S.ob o.a o.t o.n).2 ⟨j, ho⟩)
  have h1 := O.ty
  rw [S.ty, List.getElem?_map, Option.map_eq_some_iff] at h1
  obtain ⟨f', h2, rfl⟩ := h1
  refine ⟨f', i, p, O, h2, ?_⟩
  rw [O.pn]
  unfold ow owords
  rw [List.getD_eq_getElem?_getD, h2]
  simp [ptrs]
theorem find_some (S : SimH h q) (I : HInv h) {x : Int} {j : Nat} {o : Ro} (ho : q.ob[j]? = some o) (h1 : (o.a : Int) ≤ x) (h2 : x ≤ (o.a : Int) + ow q o - 1) : baseA h x = some o.a ∧ h.ob o.a = some (o.t, o.n) := by
  obtain ⟨f, i, p, O, _, e⟩ := S.obj I ho
  exact ⟨O.base I h1 (by omega), O.ob⟩
theorem find_none (S : SimH h q) (I : HInv h) {x : Int} (hf : FindH q x none) : baseA h x = none := by
  cases hb : baseA h x with
  | none => rfl
  | some a =>
    obtain ⟨t, n, f, i, p, O, _, h1, h2⟩ := I.base hb
    obtain ⟨j, hj⟩ := (S.ob a t n).1 O.ob
    obtain ⟨f', i', p', O', _, e⟩ := S.obj I hj
    have : i' = i := I.inv.row.inj O'.ps O.ps (by rw [O'.pa, O.pa])
    subst this
    have hp := O'.ps
    rw [O.ps] at hp; cases hp
    exact absurd ⟨h1, by show x ≤ (a : Int) + (ow q ⟨a, t, n⟩ : Nat) - 1; omega⟩ (hf j ⟨a, t, n⟩ hj)
end
def ocells : List Ro → List Value
  | [] => []
  | o :: r => .int .i64 o.a :: .int .i64 o.t :: .int .i64 o.n :: ocells r
theorem ocells_length : ∀ l : List Ro, (ocells l).length = l.length * 3
  | [] => rfl
  | o :: r => by simp [ocells, ocells_length r]; omega
theorem ocells_append : ∀ l m : List Ro, ocells (l ++ m) = ocells l ++ ocells m
  | [], _ => rfl
  | o :: r, m => by simp [ocells, ocells_append r m]
theorem ocells_get : ∀ {l : List Ro} {i : Nat} {o : Ro}, l[i]? = some o → (ocells l)[i * 3]? = some (.int .i64 o.a) ∧ (ocells l)[i * 3 + 1]? = some (.int .i64 o.t) ∧ (ocells l)[i * 3 + 2]? = some (.int .i64 o.n)
  | [], i, o, h => by simp at h
  | x :: r, 0, o, h => by simp at h; subst h; exact ⟨rfl, rfl, rfl⟩
  | x :: r, i + 1, o, h => by
    have := ocells_get (l := r) (i := i) (o := o) (by simpa using h)
    rw [show (i + 1) * 3 = i * 3 + 1 + 1 + 1 from by omega]
    simpa [ocells, Nat.add_assoc] using this
theorem ocells_one (l : List Ro) : ∀ u ∈ ocells l, u.oneCell' = true := by
  induction l with
  | nil => simp [ocells]
  | cons o r ih =>
    intro u hu
    simp only [ocells, List.mem_cons] at hu
    rcases hu with rfl | rfl | rfl | hu
    · rfl
    · rfl
    · rfl
    · exact ih u hu
abbrev rhv (q : Rh) (vt vp vs vo : Value) : Value := .agg #[vt, .int .i64 q.r.wd, .int .i64 q.r.ln, vp, .int .i64 q.r.fd, vs, vo]
abbrev rov (o : Ro) : Value := .agg #[.int .i64 o.a, .int .i64 o.t, .int .i64 o.n]
/-- The document's heap q lies in w. -/
structure RH (B : Nat) (w : World) (q : Rh) (vt vp vs vo : Value) : Prop where
  lay : LaysAt w vt q.ty
  rl : RL B w q.r vp vs
  obs : w.ownsRow B 82 3 vo q.ob.length (ocells q.ob)
  bt : q.ty.length ≤ 1025
  bf : ∀ f ∈ q.ty, f.length ≤ 4096
  bo : q.ob.length ≤ 65536
  ok : ∀ (j : Nat) (o : Ro), q.ob[j]? = some o → o.t < q.ty.length ∧ o.n ≤ 1024 ∧ o.a ≤ 65537
section
variable {B : Nat} {w w' : World} {q : Rh} {vt vp vs vo : Value}
theorem RH.below (R : RH B w q vt vp vs vo) (hb : Below w.heap.size w w') : RH B w' q vt vp vs vo :=
  ⟨R.lay.below hb, R.rl.below hb, ownsRow_keep R.obs fun g hg => hb.block g (R.obs.lt g hg).2, R.bt, R.bf, R.bo, R.ok⟩
theorem RH.alloc (R : RH B w q vt vp vs vo) (o : Obj) : RH B (w.alloc o) q vt vp vs vo := R.below ((Below.refl _ _).alloc (Nat.le_refl _) o)
theorem RH.tform (R : RH B w q vt vp vs vo) : ∃ ao cap, vt = .slice ao q.ty.length cap := by
  obtain ⟨ao, cap, h, _⟩ := R.lay
  exact ⟨ao, cap, h⟩
theorem RH.oform (R : RH B w q vt vp vs vo) : ∃ ao cap, vo = .slice ao q.ob.length cap := by
  rcases R.obs.2 with ⟨h1, h0⟩ | ⟨g, cap, cur, h1, _⟩
  · exact ⟨none, 0, by rw [h0]; exact h1⟩
  · exact ⟨_, cap, h1⟩
theorem RH.fields (R : RH B w q vt vp vs vo) {t : Nat} {f : List Int} (hf : q.ty[t]? = some f) : ∃ g o cap au cu, vt = .slice (some ⟨g, o, none⟩) q.ty.length cap ∧ g < w.heap.size ∧ w.cell? ⟨g, o + t, none⟩ = some (.slice au f.length cu) ∧ IntsAt w (.slice au f.length cu) f ∧ f.length ≤ 4096 ∧ t < q.ty.length := by
  obtain ⟨ao, cap, h1, h2⟩ := R.lay
  obtain ⟨g, o, u, h3, h4, h5, h6⟩ := h2 t f hf
  have h7 := h6
  obtain ⟨au, cu, h8, _⟩ := h6
  subst h8
  exact ⟨g, o, cap, au, cu, by rw [h1, h3], h4, h5, h7, R.bf f (List.mem_of_getElem? hf), get_lt hf⟩
theorem RH.object (R : RH B w q vt vp vs vo) {i : Nat} {o : Ro} (ho : q.ob[i]? = some o) : ∃ g cap, vo = .slice (some ⟨g, 0, none⟩) q.ob.length cap ∧ g < w.heap.size ∧ w.cell? ⟨g, i * 3, none⟩ = some (.int .i64 o.a) ∧ w.cell? ⟨g, i * 3 + 1, none⟩ = some (.int .i64 o.t) ∧ w.cell? ⟨g, i * 3 + 2, none⟩ = some (.int .i64 o.n) := by
  have hi := get_lt ho
  rcases R.obs.2 with ⟨_, h0⟩ | ⟨g, cap, cur, h1, _, h2, _, _, _, h3⟩
  · omega
  · have key : ∀ {j : Nat} {u : Value}, (ocells q.ob)[j]? = some u → w.cell? ⟨g, j, none⟩ = some u := fun {j u} h => by
      rw [← h3, List.getElem?_take] at h
      split at h
      · simpa [World.cell?, h2] using h
      · cases h
    obtain ⟨e1, e2, e3⟩ := ocells_get ho
    exact ⟨g, cap, h1, lt_of_block h2, key e1, key e2, key e3⟩
theorem ow_le (R : RH B w q vt vp vs vo) {o : Ro} (hn : o.n ≤ 1024) : ow q o ≤ 4194304 := by
  unfold ow
  rw [List.getD_eq_getElem?_getD]
  cases hf : q.ty[o.t]? with
  | none => simp
  | some f =>
    have := Nat.mul_le_mul hn (R.bf f (List.mem_of_getElem? hf))
    simp only [Option.getD_some]
    omega
set_option maxHeartbeats 1000000 in
/-- How many words an object has. -/
theorem rwords_any (R : RH B w q vt vp vs vo) {o : Ro} (ht : o.t < q.ty.length) (hn : o.n ≤ 1024) :
    Calls Try.prog 30 #[rhv q vt vp vs vo, rov o] w fun e w' => e = .returned (.int .i64 (ow q o : Nat)) ∧ Below w.heap.size w w' := by
  obtain ⟨f, hf⟩ : ∃ f, q.ty[o.t]? = some f := ⟨_, List.getElem?_eq_getElem ht⟩
  obtain ⟨g, of, cap, au, cu, rfl, hg, hc, _, hfl, _⟩ := R.fields hf
  obtain ⟨aop, cpp, rfl⟩ := R.rl.pform
  obtain ⟨aos, cps, rfl⟩ := R.rl.sform
  obtain ⟨aoo, cpo, rfl⟩ := R.oform
  have hbt := R.bt
  have how : ow q o = max 1 (o.n * f.length) := by unfold ow; rw [List.getD_eq_getElem?_getD, hf]; rfl
  have hml : o.n * f.length ≤ 1024 * 4096 := Nat.mul_le_mul hn hfl
  have hmul := mul_cast o.n f.length
  obtain ⟨W1, hW1⟩ : ∃ W1, (w.alloc (.cells #[.slice (some ⟨g, of, none⟩) q.ty.length cap, .int .i64 q.r.wd, .int .i64 q.r.ln, .slice aop q.r.ps.length cpp, .int .i64 q.r.fd, .slice aos q.r.st.length cps, .slice aoo q.ob.length cpo] 36)).alloc (.cells #[.int .i64 o.a, .int .i64 o.t, .int .i64 o.n] 82) = W1 := ⟨_, rfl⟩
  have HB := hide (show Below w.heap.size w W1 by rw [← hW1]; exact ((Below.refl _ _).alloc (Nat.le_refl _) _).alloc (by simp) _)
  have hc1 : W1.cell? ⟨g, of + o.t, none⟩ = some (.slice au f.length cu) := by rw [World.cell?_of_block (a := ⟨g, of + o.t, none⟩) (HB.out.block g hg)]; exact hc
  rw [how]
  have hd : (o.t : Int) < (q.ty.length : Int) := by omega
  clear R hf how hc
  generalize q.ty.length = tl at *
  generalize o.n * f.length = m at *
  generalize f.length = l at *
  have hm : (m : Int) ≤ 4194304 := by omega
  have hwm : IntKind.i64.wrap (m : Int) = (m : Int) := by rw [IntKind.wrap_i64]; omega
  subst hW1
  by_cases h1 : m < 1
  · have hd1 : decide ((m : Int) < 1) = true := by simp; omega
    rw [show max 1 m = 1 by omega]
    go_enter Try.func30, Try.ntmps30
    go_wp2
    go_quiet (fail)
    go_wp2
    go_ret
    exact ⟨rfl, below_drewN HB.out nq⟩
  · have hd1 : decide ((m : Int) < 1) = false := by simp; omega
    rw [show max 1 m = m by omega]
    go_enter Try.func30, Try.ntmps30
    go_wp2
    go_quiet (fail)
    go_wp2
    go_ret
    exact ⟨rfl, below_drewN HB.out nq⟩
end
end Go.Proofs.Ytimpmgbahgganaa

namespace Go.Proofs.Ytimpmgbahgganaa
open Go.RowKit Go.Maps
attribute [local go_sem ↓] Go.wp_at_zero Go.wp_at_succ

/-- Seven cells of a box. -/
structure C7 (w : World) (b : Nat) (v0 v1 v2 v3 v4 v5 v6 : Value) : Prop where
  c0 : w.cell? ⟨b, 0, none⟩ = some v0
  c1 : w.cell? ⟨b, 1, none⟩ = some v1
  c2 : w.cell? ⟨b, 2, none⟩ = some v2
  c3 : w.cell? ⟨b, 3, none⟩ = some v3
  c4 : w.cell? ⟨b, 4, none⟩ = some v4
  c5 : w.cell? ⟨b, 5, none⟩ = some v5
  c6 : w.cell? ⟨b, 6, none⟩ = some v6
theorem c7_of {w : World} {b : Nat} {v0 v1 v2 v3 v4 v5 v6 : Value} {t : TypeId} (h : w.heap[b]? = some (.cells #[v0, v1, v2, v3, v4, v5, v6] t (0, 0))) : C7 w b v0 v1 v2 v3 v4 v5 v6 := by
  constructor <;> simp [World.cell?, h]
theorem c3_of {w : World} {b : Nat} {v0 v1 v2 : Value} {t : TypeId} (h : w.heap[b]? = some (.cells #[v0, v1, v2] t (0, 0))) : w.cell? ⟨b, 0, none⟩ = some v0 ∧ w.cell? ⟨b, 1, none⟩ = some v1 ∧ w.cell? ⟨b, 2, none⟩ = some v2 := by
  simp [World.cell?, h]
/-- A box of the heap's. -/
def Bx (w : World) (b : Nat) (q : Rh) (vt vp vs vo : Value) : Prop := w.heap[b]? = some (.cells #[vt, .int .i64 q.r.wd, .int .i64 q.r.ln, vp, .int .i64 q.r.fd, vs, vo] 36 (0, 0))
def Bo (w : World) (b : Nat) (o : Ro) : Prop := w.heap[b]? = some (.cells #[.int .i64 o.a, .int .i64 o.t, .int .i64 o.n] 82 (0, 0))
section
variable {B : Nat} {w w' : World} {q : Rh} {vt vp vs vo : Value}
theorem rwords_box (R : RH B w q vt vp vs vo) {o : Ro} (ht : o.t < q.ty.length) (hn : o.n ≤ 1024) {b c : Nat} (hb : Bx w b q vt vp vs vo) (hc : Bo w c o) :
    Calls Try.prog 30 #[rhv q vt vp vs vo, rov o] w fun e w' => e = .returned (.int .i64 (ow q o : Nat)) ∧ C7 w' b vt (.int .i64 q.r.wd) (.int .i64 q.r.ln) vp (.int .i64 q.r.fd) vs vo ∧ (w'.cell? ⟨c, 0, none⟩ = some (.int .i64 o.a) ∧ w'.cell? ⟨c, 1, none⟩ = some (.int .i64 o.t) ∧ w'.cell? ⟨c, 2, none⟩ = some (.int .i64 o.n)) ∧ Hid (Below w.heap.size w w') := by
  refine (rwords_any R ht hn).mono ?_
  rintro e w' ⟨he, hw⟩
  exact ⟨he, c7_of ((hw.block b (lt_of_block hb)).trans hb), c3_of ((hw.block c (lt_of_block hc)).trans hc), hw⟩
set_option maxHeartbeats 2000000 in
theorem rfindh_any (R : RH B w q vt vp vs vo) (x : Int) :
    Calls Try.prog 32 #[rhv q vt vp vs vo, .int .i64 x] w fun e w' => (∃ o : Option Nat, FindH q x o ∧ e = .returned (.int .i64 (match o with | some j => (j : Int) | none => -1))) ∧ Below w.heap.size w w' := by
  obtain ⟨aot, cpt, rfl⟩ := R.tform
  obtain ⟨aop, cpp, rfl⟩ := R.rl.pform
  obtain ⟨aos, cps, rfl⟩ := R.rl.sform
  obtain ⟨aoo, cpo, rfl⟩ := R.oform
  have HR := hide R
  have hbo := R.bo
  obtain ⟨W1, hW1⟩ : ∃ W1, w.alloc (.cells #[.slice aot q.ty.length cpt, .int .i64 q.r.wd, .int .i64 q.r.ln, .slice aop q.r.ps.length cpp, .int .i64 q.r.fd, .slice aos q.r.st.length cps, .slice aoo q.ob.length cpo] 36) = W1 := ⟨_, rfl⟩
  have HB := hide (show Below w.heap.size w W1 by rw [← hW1]; exact (Below.refl _ _).alloc (Nat.le_refl _) _)
  have HX := hide (show Bx W1 w.heap.size q (.slice aot q.ty.length cpt) (.slice aop q.r.ps.length cpp) (.slice aos q.r.st.length cps) (.slice aoo q.ob.length cpo) by unfold Bx; rw [← hW1, heap_new _ _ rfl])
  have HZ := hide (show w.heap.size < W1.heap.size by rw [← hW1]; simp)
  clear R
  generalize hn : q.ob.length = n at *
  have HN := hide hn
  clear hn
  subst hW1
  go_enter Try.func32, Try.ntmps32
  go_wp2
  go_loopw [5] (fun ir wr => ∃ j : Nat, j ≤ n ∧ ir = .int .i64 j ∧ Hid (Below w.heap.size w wr ∧ Bx wr w.heap.size q (.slice aot q.ty.length cpt) (.slice aop q.r.ps.length cpp) (.slice aos q.r.st.length cps) (.slice aoo n cpo) ∧ ∀ (p : Nat) (o : Ro), p < j → q.ob[p]? = some o → ¬ ((o.a : Int) ≤ x ∧ x ≤ (o.a : Int) + ow q o - 1))) (fun ir _ => n - (intOf ir).toNat)
  case atStart => exact ⟨0, Nat.zero_le _, rfl, HB.out, HX.out, fun p o h0 => absurd h0 (Nat.not_lt_zero _)⟩
  case round =>
    obtain ⟨j, hj, rfl, hr⟩ := hrel
    obtain ⟨hbr, hxr, hno⟩ := hr.out
    obtain ⟨d0, d1, d2, d3, d4, d5, d6⟩ := c7_of hxr
    by_cases hlt : j < n
    · obtain ⟨o, ho⟩ : ∃ o, q.ob[j]? = some o := ⟨q.ob[j]'(by rw [HN.out]; exact hlt), by simp⟩
      have Rr := HR.out.below hbr
      obtain ⟨g, cap, hvo, hg, e0, e1, e2⟩ := Rr.object ho
      obtain rfl : aoo = some ⟨g, 0, none⟩ := (Value.slice.inj hvo).1
      obtain ⟨hot, hon, hoa⟩ := Rr.ok j o ho
      have howl := ow_le Rr hon
      have bj : (j : Int) < (n : Int) := by omega
      have HNO := hide hno
      have HBR := hide hbr
      have HO := hide ho
      have HXR := hide hxr
      have hoa' : (o.a : Int) ≤ 65537 := by omega
      obtain ⟨W2, hW2⟩ : ∃ W2, wr.alloc (.cells #[.int .i64 o.a, .int .i64 o.t, .int .i64 o.n] 82) = W2 := ⟨_, rfl⟩
      have hb2 : Below wr.heap.size wr W2 := by rw [← hW2]; exact (Below.refl _ _).alloc (Nat.le_refl _) _
      have HB2 := hide (hbr.trans (hb2.mono hbr.size))
      have hx2 : Bx W2 w.heap.size q (.slice aot q.ty.length cpt) (.slice aop q.r.ps.length cpp) (.slice aos q.r.st.length cps) (.slice (some ⟨g, 0, none⟩) n cpo) := (hb2.block _ (lt_of_block hxr)).trans hxr
      have ho2 : Bo W2 wr.heap.size o := by unfold Bo; rw [← hW2, heap_new _ _ rfl]
      have HX2 := hide hx2
      by_cases h1 : (o.a : Int) ≤ x
      · have hd : decide ((o.a : Int) ≤ x) = true := by simpa using h1
        have hwd := rwords_box ((Rr.below hb2).below (w' := W2.drew) (Below.refl _ _).drew) hot hon (b := w.heap.size) (c := wr.heap.size) hx2 ho2
        have k7 := c7_of hx2
        obtain ⟨t0, t1, t2⟩ := c3_of ho2
        obtain ⟨k0, k1, k2, k3, k4, k5, k6⟩ := k7
        have hro : ∀ {w3 : World}, Hid (Below W2.drew.heap.size W2.drew w3) → Hid (Below w.heap.size w w3 ∧ Bx w3 w.heap.size q (.slice aot q.ty.length cpt) (.slice aop q.r.ps.length cpp) (.slice aos q.r.st.length cps) (.slice (some ⟨g, 0, none⟩) n cpo)) := fun hb3 =>
          ⟨HB2.out.drew.trans (hb3.out.mono HB2.out.size), (hb3.out.block _ (lt_of_block HX2.out)).trans HX2.out⟩
        generalize hM : ow q o = m at *
        have HM := hide hM
        clear hM
        have hm' : (m : Int) ≤ 4194304 := by omega
        have hwa : IntKind.i64.wrap ((o.a : Int) + (m : Int)) = (o.a : Int) + (m : Int) := by rw [IntKind.wrap_i64]; omega
        have hwb : IntKind.i64.wrap ((o.a : Int) + (m : Int) - 1) = (o.a : Int) + (m : Int) - 1 := by rw [IntKind.wrap_i64]; omega
        by_cases h2 : x ≤ (o.a : Int) + m - 1
        · have hd2 : decide (x ≤ (o.a : Int) + (m : Int) - 1) = true := by simpa using h2
          have HH := hide (And.intro h1 h2)
          clear hvo ho hno hbr hxr Rr hb2 hx2 ho2 h1 h2 d0 d1 d2 d3 d4 d5
          subst hW2
          go_wp2
          go_region_held3 (fun w' => w'.cell? ⟨w.heap.size, 0, none⟩ = some (.slice aot q.ty.length cpt) ∧ w'.cell? ⟨w.heap.size, 1, none⟩ = some (.int .i64 q.r.wd) ∧ w'.cell? ⟨w.heap.size, 2, none⟩ = some (.int .i64 q.r.ln) ∧ w'.cell? ⟨w.heap.size, 3, none⟩ = some (.slice aop q.r.ps.length cpp) ∧ w'.cell? ⟨w.heap.size, 4, none⟩ = some (.int .i64 q.r.fd) ∧ w'.cell? ⟨w.heap.size, 5, none⟩ = some (.slice aos q.r.st.length cps) ∧ w'.cell? ⟨w.heap.size, 6, none⟩ = some (.slice (some ⟨g, 0, none⟩) n cpo) ∧ w'.cell? ⟨wr.heap.size, 0, none⟩ = some (.int .i64 o.a) ∧ w'.cell? ⟨wr.heap.size, 1, none⟩ = some (.int .i64 o.t) ∧ w'.cell? ⟨wr.heap.size, 2, none⟩ = some (.int .i64 o.n)) (first | go_keep | exact ⟨a0, a1, a2, a3, a4, a5, a6, b0, b1, b2⟩)
            ((go_at_call 30; refine hwd.mono ?_; rintro e w3 ⟨rfl, ⟨a0, a1, a2, a3, a4, a5, a6⟩, ⟨b0, b1, b2⟩, hb3⟩))
          go_wp2
          go_ret
          exact ⟨⟨some j, ⟨o, HO.out, HH.out.1, by rw [HM.out]; exact HH.out.2⟩, rfl⟩, (hro hb3).out.1⟩
        · have hd2 : decide (x ≤ (o.a : Int) + (m : Int) - 1) = false := by simpa using h2
          have HH := hide h2
          clear hvo ho hno hbr hxr Rr hb2 hx2 ho2 h1 h2 d0 d1 d2 d3 d4 d5
          subst hW2
          go_wp2
          go_region_held3 (fun w' => w'.cell? ⟨w.heap.size, 0, none⟩ = some (.slice aot q.ty.length cpt) ∧ w'.cell? ⟨w.heap.size, 1, none⟩ = some (.int .i64 q.r.wd) ∧ w'.cell? ⟨w.heap.size, 2, none⟩ = some (.int .i64 q.r.ln) ∧ w'.cell? ⟨w.heap.size, 3, none⟩ = some (.slice aop q.r.ps.length cpp) ∧ w'.cell? ⟨w.heap.size, 4, none⟩ = some (.int .i64 q.r.fd) ∧ w'.cell? ⟨w.heap.size, 5, none⟩ = some (.slice aos q.r.st.length cps) ∧ w'.cell? ⟨w.heap.size, 6, none⟩ = some (.slice (some ⟨g, 0, none⟩) n cpo) ∧ w'.cell? ⟨wr.heap.size, 0, none⟩ = some (.int .i64 o.a) ∧ w'.cell? ⟨wr.heap.size, 1, none⟩ = some (.int .i64 o.t) ∧ w'.cell? ⟨wr.heap.size, 2, none⟩ = some (.int .i64 o.n)) (first | go_keep | exact ⟨a0, a1, a2, a3, a4, a5, a6, b0, b1, b2⟩)
            ((go_at_call 30; refine hwd.mono ?_; rintro e w3 ⟨rfl, ⟨a0, a1, a2, a3, a4, a5, a6⟩, ⟨b0, b1, b2⟩, hb3⟩))
          go_wp2
          go_roundw
          case rel => exact ⟨j + 1, by omega, by go_num, (hro hb3).out.1, (hro hb3).out.2, fun p o' hp hp' => by
            rcases Nat.lt_or_ge p j with h0 | h0
            · exact HNO.out p o' h0 hp'
            · obtain rfl : p = j := by omega
              rw [HO.out] at hp'; cases hp'
              exact fun hh => by have h3 := HH.out; have h4 := hh.2; rw [HM.out] at h4; omega⟩
          case measure => simp [intOf]; omega
      · have hd : decide ((o.a : Int) ≤ x) = false := by simpa using h1
        obtain ⟨t0, t1, t2⟩ := c3_of ho2
        have HH := hide h1
        clear hvo ho hno hbr hxr Rr hb2 hx2 ho2 h1 d0 d1 d2 d3 d4 d5
        subst hW2
        go_wp2
        go_quiet (fail)
        go_wp2
        go_roundw
        case rel => exact ⟨j + 1, by omega, by go_num, below_drewN HB2.out nq, HX2.out, fun p o' hp hp' => by
          rcases Nat.lt_or_ge p j with h0 | h0
          · exact HNO.out p o' h0 hp'
          · obtain rfl : p = j := by omega
            rw [HO.out] at hp'; cases hp'
            exact fun hh => by have h3 := HH.out; have h4 := hh.1; omega⟩
        case measure => simp [intOf]; omega
    · obtain rfl : j = n := by omega
      have hd : decide ((j : Int) < (j : Int)) = false := by simp
      go_wp2
      go_ret
      exact ⟨⟨none, fun p o hp => hno p o (by rw [← HN.out]; exact get_lt hp) hp, rfl⟩, hbr⟩
end
end Go.Proofs.Ytimpmgbahgganaa

namespace Go.Proofs.Ytimpmgbahgganaa
open Go.RowKit Go.Maps

section
variable {B : Nat} {w w' : World} {q : Rh} {vt vp vs vo : Value} {h : Hs}
/-- The heap boxed. -/
theorem bx_new (w : World) (q : Rh) (vt vp vs vo : Value) : Bx (w.alloc (.cells #[vt, .int .i64 q.r.wd, .int .i64 q.r.ln, vp, .int .i64 q.r.fd, vs, vo] 36)) w.heap.size q vt vp vs vo := heap_new _ _ rfl
/-- find by the program's words. -/
theorem rfind_sim (R : RH B w q vt vp vs vo) (S : SimH h q) (I : HInv h) (x : Int) :
    Calls Try.prog 32 #[rhv q vt vp vs vo, .int .i64 x] w fun e w' => ((baseA h x = none ∧ e = .returned (.int .i64 (-1))) ∨ ∃ (j : Nat) (o : Ro), q.ob[j]? = some o ∧ baseA h x = some o.a ∧ h.ob o.a = some (o.t, o.n) ∧ e = .returned (.int .i64 j)) ∧ Below w.heap.size w w' := by
  refine (rfindh_any R x).mono ?_
  rintro e w' ⟨⟨o, hf, he⟩, hb⟩
  refine ⟨?_, hb⟩
  cases o with
  | none => exact .inl ⟨find_none S I hf, he⟩
  | some j =>
    obtain ⟨o, ho, h1, h2⟩ := hf
    obtain ⟨e1, e2⟩ := find_some S I ho h1 h2
    exact .inr ⟨j, o, ho, e1, e2, he⟩
set_option maxHeartbeats 1000000 in
theorem rbase_any (R : RH B w q vt vp vs vo) (S : SimH h q) (I : HInv h) {x a t n c : Int} (hB : BaseP h x a t n c) :
    Calls Try.prog 18 #[rhv q vt vp vs vo, .int .i64 x] w fun e w' => e = four a t n c ∧ Below w.heap.size w w' := by
  obtain ⟨aot, cpt, rfl⟩ := R.tform
  obtain ⟨aop, cpp, rfl⟩ := R.rl.pform
  obtain ⟨aos, cps, rfl⟩ := R.rl.sform
  obtain ⟨aoo, cpo, rfl⟩ := R.oform
  have hX := bx_new w q (.slice aot q.ty.length cpt) (.slice aop q.r.ps.length cpp) (.slice aos q.r.st.length cps) (.slice aoo q.ob.length cpo)
  have hfi := rfind_sim (R.alloc (.cells #[.slice aot q.ty.length cpt, .int .i64 q.r.wd, .int .i64 q.r.ln, .slice aop q.r.ps.length cpp, .int .i64 q.r.fd, .slice aos q.r.st.length cps, .slice aoo q.ob.length cpo] 36)) S I x
  have HR := hide R
  have HX := hide hX
  clear R hX
  go_enter Try.func18, Try.ntmps18
  go_wp2_with fail
  refine hfi.mono ?_
  rintro e w1 ⟨hh, hb1⟩
  have hbz : Below w.heap.size w w1 := ((Below.refl _ w).alloc (Nat.le_refl _) _).trans (hb1.mono (by simp))
  have hx1 := (hb1.block w.heap.size (by simp)).trans HX.out
  obtain ⟨d0, d1, d2, d3, d4, d5, d6⟩ := c7_of hx1
  have HBZ := hide hbz
  rcases hh with ⟨hn, rfl⟩ | ⟨j, o, ho, hb, hob, rfl⟩
  · cases hB with
    | some a t n hs _ => rw [hn] at hs; cases hs
    | none _ =>
      clear hfi hb1 hbz hx1
      go_wp2
      exact bodyPost_ret (v := .tuple #[.int .i64 0, .int .i64 0, .int .i64 0, .int .i64 6]) (by simp [results, Try.results18, go_sem]) rfl ⟨rfl, HBZ.out⟩
  · cases hB with
    | none hs => rw [hb] at hs; cases hs
    | some a t n hs h2 =>
      rw [hb] at hs; cases hs
      rw [hob] at h2; cases h2
      obtain ⟨g, cap, hvo, hg, e0, e1, e2⟩ := (HR.out.below hbz).object ho
      obtain rfl : aoo = some ⟨g, 0, none⟩ := (Value.slice.inj hvo).1
      have bj : (j : Int) < (q.ob.length : Int) := by have := get_lt ho; omega
      have hbo := HR.out.bo
      have hd : decide ((j : Int) < 0) = false := by simp
      clear hfi hb1 hbz hx1 hvo ho hb hob
      generalize q.ob.length = n at *
      go_wp2
      go_quiet (fail)
      go_wp2
      exact bodyPost_ret (v := .tuple #[.int .i64 o.a, .int .i64 o.t, .int .i64 o.n, .int .i64 0]) (by simp [results, Try.results18, go_sem]) rfl ⟨rfl, below_drewN (HBZ.out.alloc HBZ.out.size _) nq⟩
set_option maxHeartbeats 1000000 in
theorem rgeth_any (R : RH B w q vt vp vs vo) (S : SimH h q) (I : HInv h) (x : Int) :
    Calls Try.prog 14 #[rhv q vt vp vs vo, .int .i64 x] w fun e w' => e = two (getHP h x) ∧ Below w.heap.size w w' := by
  obtain ⟨aot, cpt, rfl⟩ := R.tform
  obtain ⟨aop, cpp, rfl⟩ := R.rl.pform
  obtain ⟨aos, cps, rfl⟩ := R.rl.sform
  obtain ⟨aoo, cpo, rfl⟩ := R.oform
  have hX := bx_new w q (.slice aot q.ty.length cpt) (.slice aop q.r.ps.length cpp) (.slice aos q.r.st.length cps) (.slice aoo q.ob.length cpo)
  have hfi := rfind_sim (R.alloc (.cells #[.slice aot q.ty.length cpt, .int .i64 q.r.wd, .int .i64 q.r.ln, .slice aop q.r.ps.length cpp, .int .i64 q.r.fd, .slice aos q.r.st.length cps, .slice aoo q.ob.length cpo] 36)) S I x
  have HR := hide R
  have HX := hide hX
  clear R hX
  go_enter Try.func14, Try.ntmps14
  go_wp2_with fail
  refine hfi.mono ?_
  rintro e w1 ⟨hh, hb1⟩
  have hbz : Below w.heap.size w w1 := ((Below.refl _ w).alloc (Nat.le_refl _) _).trans (hb1.mono (by simp))
  have hx1 := (hb1.block w.heap.size (by simp)).trans HX.out
  obtain ⟨d0, d1, d2, d3, d4, d5, d6⟩ := c7_of hx1
  have HBZ := hide hbz
  rcases hh with ⟨hn, rfl⟩ | ⟨j, o, ho, hb, hob, rfl⟩
  · have HN := hide hn
    clear hfi hb1 hbz hx1 hn
    go_wp2
    go_ret2
    exact ⟨by rw [show getHP h x = (0, 6) by unfold getHP; rw [HN.out]]; rfl, HBZ.out⟩
  · have HBb := hide hb
    obtain ⟨t, n, f, i, p, O, hh2, h1, h2⟩ := I.base hb
    obtain ⟨m, u, rfl, hu, hm⟩ := word_of I.inv hh2
    have hst := S.sim.st m u hu
    have hsl := S.sim.st1
    obtain ⟨g, cap, hvs, hcell, _, hlt⟩ := row_cell (HR.out.below hbz).rl.sto (ints_get hst)
    obtain rfl : aos = some ⟨g, 0, none⟩ := (Value.slice.inj hvs).1
    have hbs := HR.out.rl.bs
    have hd : decide ((j : Int) < 0) = false := by simp
    have HU : Hid (wd h.s (m + 1) = u) := hide (by unfold wd; rw [Nat.add_sub_cancel, hu]; rfl)
    rw [show (((m + 1 : Nat) : Int)) = (m : Int) + 1 from by omega] at HBb ⊢
    have bm : (m : Int) + 1 < (q.r.st.length : Int) := by omega
    have bm2 : (m : Int) ≤ 70000 := by omega
    clear hfi hb1 hbz hx1 hvs ho hb hob O hh2 h1 h2 hu hst hsl hm
    generalize q.r.st.length = sl at *
    go_wp2
    go_ret2
    refine ⟨?_, HBZ.out⟩
    rw [show getHP h ((m + 1 : Nat) : Int) = (u, 0) by unfold getHP; rw [show (((m + 1 : Nat) : Int)) = (m : Int) + 1 from by omega, HBb.out]; simp only [show ((m : Int) + 1).toNat = m + 1 by omega, HU.out]]
    rfl
set_option maxHeartbeats 1000000 in
/-- Is a word of an object a pointer field? -/
theorem rpointer_any (R : RH B w q vt vp vs vo) {o : Ro} {f : List Int} {i : Nat} (hf : q.ty[o.t]? = some f) (hn : o.n ≤ 1024) (ha : o.a ≤ 65537) (hi : i < ow q o) :
    Calls Try.prog 36 #[rhv q vt vp vs vo, rov o, .int .i64 ((o.a : Int) + (i : Int))] w fun e w' => e = .returned (.bool (ptrB (ptrs f) o.n i)) ∧ Below w.heap.size w w' := by
  obtain ⟨g, of, cap, au, cu, rfl, hg, hc, hin, hfl, htl⟩ := R.fields hf
  obtain ⟨aop, cpp, rfl⟩ := R.rl.pform
  obtain ⟨aos, cps, rfl⟩ := R.rl.sform
  obtain ⟨aoo, cpo, rfl⟩ := R.oform
  have hbt := R.bt
  have how : ow q o = max 1 (o.n * f.length) := by unfold ow; rw [List.getD_eq_getElem?_getD, hf]; rfl
  have hml : o.n * f.length ≤ 1024 * 4096 := Nat.mul_le_mul hn hfl
  obtain ⟨W1, hW1⟩ : ∃ W1, (w.alloc (.cells #[.slice (some ⟨g, of, none⟩) q.ty.length cap, .int .i64 q.r.wd, .int .i64 q.r.ln, .slice aop q.r.ps.length cpp, .int .i64 q.r.fd, .slice aos q.r.st.length cps, .slice aoo q.ob.length cpo] 36)).alloc (.cells #[.int .i64 o.a, .int .i64 o.t, .int .i64 o.n] 82) = W1 := ⟨_, rfl⟩
  have HB := hide (show Below w.heap.size w W1 by rw [← hW1]; exact ((Below.refl _ _).alloc (Nat.le_refl _) _).alloc (by simp) _)
  have hc1 : W1.cell? ⟨g, of + o.t, none⟩ = some (.slice au f.length cu) := by rw [World.cell?_of_block (a := ⟨g, of + o.t, none⟩) (HB.out.block g hg)]; exact hc
  have hd : (o.t : Int) < (q.ty.length : Int) := by omega
  have hin1 := hin.below HB.out
  by_cases h0 : f.length = 0 ∨ o.n = 0
  · have hp : ptrB (ptrs f) o.n i = false := by
      unfold ptrB
      rw [decide_eq_false (by rcases h0 with h | h <;> simp [ptrs, h])]; rfl
    rw [hp]
    clear R hf how hc hp hin hin1 hi
    generalize q.ty.length = tl at *
    generalize f.length = l at *
    subst hW1
    by_cases h1 : l = 0
    · have hl1 : decide (0 < (l : Int)) = false := by simp; omega
      have hl2 : decide (0 < l) = false := by simp; omega
      clear h0 h1 hml
      go_enter Try.func36, Try.ntmps36
      go_wp2
      go_ret
      exact ⟨rfl, HB.out⟩
    · have h2 : o.n = 0 := by omega
      have hl1 : decide (0 < (l : Int)) = true := by simp; omega
      have hl2 : decide (0 < l) = true := by simp; omega
      have hn1 : decide (0 < (o.n : Int)) = false := by simp; omega
      have hn2 : decide (0 < o.n) = false := by simp; omega
      have hl3 : (0 : Int) < (l : Int) := by omega
      clear h0 h1 h2 hml
      go_enter Try.func36, Try.ntmps36
      go_wp2
      go_ret
      exact ⟨rfl, HB.out⟩
  · have hil : i < o.n * f.length := by
      have : 1 ≤ o.n * f.length := Nat.mul_pos (by omega) (by omega)
      omega
    have hr : i % f.length < f.length := Nat.mod_lt _ (by omega)
    have hp : ptrB (ptrs f) o.n i = (f[i % f.length] != 0) := by
      unfold ptrB
      rw [decide_eq_true (by simpa [ptrs] using hil), List.getD_eq_getElem?_getD]
      simp [ptrs, List.getElem?_eq_getElem hr]
    obtain ⟨au2, cu2, e2, hcs⟩ := hin1
    cases e2
    obtain ⟨_, g2, o2, rfl, hg2, hcx⟩ := hcs (i % f.length) _ (List.getElem?_eq_getElem hr)
    rw [hp]
    generalize f[i % f.length] = x at *
    have hmod : (i : Int) % (f.length : Int) = ((i % f.length : Nat) : Int) := by simp
    have hi6 : (i : Int) ≤ 4194304 := by omega
    clear R hf how hc hp hin hcs hi hil
    generalize hR : i % f.length = r at *
    have h01 : ¬ f.length = 0 ∧ ¬ o.n = 0 := by omega
    clear hR h0
    generalize q.ty.length = tl at *
    generalize f.length = l at *
    have hsub : (o.a : Int) + (i : Int) - (o.a : Int) = (i : Int) := by omega
    have hl1 : decide (0 < (l : Int)) = true := by simp; omega
    have hl2 : decide (0 < l) = true := by simp; omega
    have hl3 : (0 : Int) < (l : Int) := by omega
    have hn1 : decide (0 < (o.n : Int)) = true := by simp; omega
    have hn2 : decide (0 < o.n) = true := by simp; omega
    have hr' : (r : Int) < (l : Int) := by omega
    have ha' : (o.a : Int) ≤ 65537 := by omega
    subst hW1
    go_enter Try.func36, Try.ntmps36
    go_wp2
    go_ret
    exact ⟨rfl, HB.out⟩
end
end Go.Proofs.Ytimpmgbahgganaa

namespace Go.Proofs.Ytimpmgbahgganaa
open Go.RowKit Go.Maps
section
variable {h : Hs} {q : Rh}
theorem RInv.congr {rs st st' : List Int} {F : Nat → Bool} (R : RInv h rs st F) (hs : ∀ x a, baseA h x = some a → (x ∈ st ↔ x ∈ st')) : RInv h rs st' F :=
  ⟨R.found, fun x hx a ha => R.wait x ((hs x a ha).2 hx) a ha, fun x hx a ha => (R.root x hx a ha).imp id (fun ⟨y, hy, hb⟩ => ⟨y, (hs y a hb).1 hy, hb⟩), fun a t n i b f h1 h2 h3 h4 h5 => (R.step a t n i b f h1 h2 h3 h4 h5).imp id (fun ⟨y, hy, hb⟩ => ⟨y, (hs y b hb).1 hy, hb⟩)⟩
/-- All that an object's first k words name. -/
def outR (s : As) (f : List Bool) (n a : Nat) : Nat → List Int
  | 0 => []
  | k + 1 => outR s f n a k ++ if ptrB f n k = true then [wd s (a + k)] else []
theorem outR_le (s : As) (f : List Bool) (n a : Nat) : ∀ k, (outR s f n a k).length ≤ k
  | 0 => Nat.le_refl _
  | k + 1 => by
    have := outR_le s f n a k
    unfold outR
    split <;> simp <;> omega
theorem mem_outR {s : As} {f : List Bool} {n a : Nat} {v : Int} : ∀ {k : Nat}, v ∈ outR s f n a k ↔ ∃ i, i < k ∧ ptrB f n i = true ∧ v = wd s (a + i)
  | 0 => by simp [outR]
  | k + 1 => by
    unfold outR
    rw [List.mem_append, mem_outR (k := k)]
    constructor
    · rintro (⟨i, h1, h2⟩ | hv)
      · exact ⟨i, by omega, h2⟩
      · split at hv
        · rename_i hc
          simp at hv
          exact ⟨k, by omega, hc, hv⟩
        · simp at hv
    · rintro ⟨i, h1, h2, h4⟩
      rcases Nat.lt_or_ge i k with hk | hk
      · exact .inl ⟨i, hk, h2, h4⟩
      · obtain rfl : i = k := by omega
        right
        rw [if_pos h2, h4]; simp
theorem RInv.takeR {rs st : List Int} {F : Nat → Bool} {x : Int} {a t n k : Nat} {f : List Bool} (R : RInv h rs (x :: st) F) (I : HInv h) (hx : baseA h x = some a) (ho : h.ob a = some (t, n)) (hf : h.ty[t]? = some f) (hk : n * f.length ≤ k) : RInv h rs (st ++ outR h.s f n a k) (upd F a true) := by
  have h1 : RInv h rs (st ++ [x]) F := R.congr fun y b _ => by simp [or_comm]
  refine (h1.take I hx ho hf).congr fun y b hb => ?_
  rw [List.mem_append, List.mem_append, mem_outs, mem_outR]
  constructor
  · rintro (hy | ⟨i, h1, h2, _, h4⟩)
    · exact .inl hy
    · exact .inr ⟨i, by omega, h2, h4⟩
  · rintro (hy | ⟨i, h1, h2, h4⟩)
    · exact .inl hy
    · refine .inr ⟨i, ptr_lt h2, h2, fun e => ?_, h4⟩
      rw [h4, e, I.base0 (Int.le_refl _)] at hb; cases hb
theorem RInv.skipR {rs st : List Int} {F : Nat → Bool} {x : Int} (R : RInv h rs (x :: st) F) (hx : ∀ a, baseA h x = some a → F a = true) : RInv h rs st F := (R.congr (st' := st ++ [x]) fun y b _ => by simp [or_comm]).skip hx
/-- Which objects stay. -/
def stay (q : Rh) (F : Nat → Bool) : List Bool := q.ob.map fun o => F o.a
theorem stay_len (F : Nat → Bool) : (stay q F).length = q.ob.length := by simp [stay]
theorem stay_at {F : Nat → Bool} {j : Nat} {o : Ro} (hj : q.ob[j]? = some o) : (stay q F)[j]? = some (F o.a) := by simp [stay, hj]
theorem nd_inj {α : Type} : ∀ {l : List α}, l.Nodup → ∀ {i j : Nat} {x : α}, l[i]? = some x → l[j]? = some x → i = j
  | [], _, i, j, x, hi, _ => by simp at hi
  | a :: r, nd, i, j, x, hi, hj => by
    rw [List.nodup_cons] at nd
    cases i with
    | zero =>
      cases j with
      | zero => rfl
      | succ j =>
        simp at hi hj
        subst hi
        exact absurd (List.mem_of_getElem? hj) nd.1
    | succ i =>
      cases j with
      | zero =>
        simp at hi hj
        subst hj
        exact absurd (List.mem_of_getElem? hi) nd.1
      | succ j =>
        have := nd_inj nd.2 (i := i) (j := j) (x := x) (by simpa using hi) (by simpa using hj)
        omega
theorem stay_set (nd : (q.ob.map (·.a)).Nodup) {j : Nat} {o : Ro} (hj : q.ob[j]? = some o) (F : Nat → Bool) : (stay q F).set j true = stay q (upd F o.a true) := by
  apply List.ext_getElem?
  intro i
  rw [List.getElem?_set, stay_len]
  by_cases hij : j = i
  · subst hij
    rw [if_pos rfl, if_pos (get_lt hj), stay_at hj, upd_same]
  · rw [if_neg hij]
    cases ho : q.ob[i]? with
    | none => simp [stay, ho]
    | some o' =>
      rw [stay_at ho, stay_at ho, upd_other _ _ (fun e => hij (nd_inj nd (x := o.a) (by simp [hj]) (by simp [ho, e])))]
end
section
variable {w : World}
/-- All numbers behind an empty list of one's own. -/
theorem all_app {b : Nat} {v : Value} {rs : List Int} (hb : w.heap[b]? = some (.cells #[] 3 (0, 0))) (R : IntsAt w v rs) (hl : rs.length ≤ 2000000) : ∃ v' w', (Builtin.append_ #[31, 31] 31 #[.slice (some ⟨b, 0, none⟩) 0 0, v]).run Try.prog w = .ok v' w' ∧ Qs w' b v' rs ∧ Below b w w' := by
  obtain ⟨i0, hi, hz0, hz1, hz2⟩ := info_parts Try.info3
  have hown : w.ownsRow b 3 1 (.slice (some ⟨b, 0, none⟩) 0 0) 0 [] := ⟨rfl, .inr ⟨b, 0, #[], rfl, Nat.le_refl _, hb, Nat.le_refl _, by unfold maxLen; omega, rfl, rfl⟩⟩
  have hbl := lt_of_block hb
  obtain ⟨ao, cap, rfl, hel⟩ := R
  cases ao with
  | none =>
    have h0 : rs = [] := by
      cases rs with
      | nil => rfl
      | cons x r =>
        obtain ⟨_, g, o, h1, _⟩ := hel 0 x rfl
        cases h1
    subst h0
    refine ⟨_, w, ?_, Qs.of_row hown, Below.refl _ _⟩
    simp [Builtin.append_, run_underlying Try.underlying31, sizeOf, typeInfo, hi, Builtin.lenOf, Builtin.firstCells, storeCells]
  | some ad =>
    obtain ⟨v', w', hr, ho, hgr, _, _⟩ := run_append_own_at (P := Try.prog) w b 31 31 3 i0 _ 1 8 Try.underlying31 hi hz0 hz1 hz2 rfl (by decide) _ 0 [] hown ad rs.length cap (ints rs) (by simp [ints]) (fun j u hu => by
      simp only [ints, List.getElem?_map, Option.map_eq_some_iff] at hu
      obtain ⟨x, hx, rfl⟩ := hu
      obtain ⟨_, g, o, h1, _, h2⟩ := hel j x hx
      cases h1
      rw [show (⟨g, o, none⟩ : Addr).add j = ⟨g, o + j, none⟩ by cases j <;> simp [Addr.add]]
      exact h2) (fun u hu => by
      simp only [ints, List.mem_map] at hu
      obtain ⟨x, _, rfl⟩ := hu
      rfl) (by unfold maxLen; omega) (by omega) (by omega)
    rw [Nat.zero_add, List.nil_append] at ho
    exact ⟨v', w', hr, Qs.of_row (by simpa using ho), ⟨hgr.os, hgr.tape, hgr.output, hgr.size, fun j hj => hgr.block j (by omega) (fun e => by simp [Value.ownBlock] at e; omega)⟩⟩
/-- Between two rounds. -/
structure MidR (w0 wr : World) (h : Hs) (q : Rh) (rs : List Int) (sb K : Nat) (v : Value) (st : List Int) (F : Nat → Bool) : Prop where
  qs : Qs wr (w0.heap.size + 1) v st
  sty : wr.heap[sb]? = some (.cells (bools (stay q F)).toArray 4 (0, 0))
  inv : RInv h rs st F
  bel : Below w0.heap.size w0 wr
  num : st.length + pot F h.s.ps ≤ K
variable {w0 wr w1 : World} {h : Hs} {q : Rh} {rs st : List Int} {sb K : Nat} {v : Value} {F : Nat → Bool}
theorem MidR.under (M : MidR w0 wr h q rs sb K v st F) (hb : Below wr.heap.size wr w1) : MidR w0 w1 h q rs sb K v st F :=
  ⟨M.qs.below hb, (hb.block _ (lt_of_block M.sty)).trans M.sty, M.inv, M.bel.trans (hb.mono M.bel.size), M.num⟩
theorem MidR.skip {x : Int} {v' : Value} (M : MidR w0 wr h q rs sb K v (x :: st) F) (hq : Qs wr (w0.heap.size + 1) v' st) (hx : ∀ a, baseA h x = some a → F a = true) : MidR w0 wr h q rs sb (K - 1) v' st F :=
  ⟨hq, M.sty, M.inv.skipR hx, M.bel, by have := M.num; simp at this; omega⟩
end
end Go.Proofs.Ytimpmgbahgganaa
