/- Quote: a byte appended as it is quoted. -/
import Derived.Test.YthggaojpkfdggaaDoorIsName
import Derived.Deep.RegionHeld3
import Derived.Deep.AppendLies
import Derived.Deep.DrawnRows
namespace Go.Proofs.YthggaojpkfdggaaDoor
open Go.RowKit

theorem Tryd.info5 : (Tryd.prog.info? 5).map (fun i => (i.zero, i.size, i.bytes)) = some (some (.int .u8 0), 1, 1) := by kernel_rfl

def hexC (n : Nat) : UInt8 := if n < 10 then UInt8.ofNat (48 + n) else UInt8.ofNat (87 + n)
theorem hexAt : ∀ n, n < 16 → (#[48, 49, 50, 51, 52, 53, 54, 55, 56, 57, 97, 98, 99, 100, 101, 102] : Array UInt8).getD n 0 = hexC n := by decide +kernel
theorem run_hex (n : Nat) (h : n < 16) (W : World) : (Instr.index 9 (.string ⟨#[48, 49, 50, 51, 52, 53, 54, 55, 56, 57, 97, 98, 99, 100, 101, 102]⟩) (.int .u8 n)).run Tryd.prog W = .ok (.int .u8 (hexC n).toNat) W := by
  have hk := hexAt n h
  have hx : (n : Int) < 16 := by omega
  simp only [go_sem, Tryd.underlying9]
  simp
  rw [dif_pos hx, ← hk]
  congr 3
  exact congrArg UInt8.toNat (Array.getElem_eq_getD 0)
theorem and15 : ∀ b : UInt8, bits .and .u8 (b.toNat : Int) 15 = ((b.toNat % 16 : Nat) : Int) := byte_all (by decide +kernel)

def quoteB (b : UInt8) : List UInt8 :=
  if b = 10 then [92, 110] else if b = 9 then [92, 116] else if b = 34 ∨ b = 92 then [92, b] else if 32 ≤ b.toNat ∧ b.toNat ≤ 126 then [b]
  else [92, 120, hexC (b.toNat / 16), hexC (b.toNat % 16)]

def Appended (base : Nat) (out : List UInt8) (w : World) (e : Ending) (w' : World) : Prop :=
  ∃ v, e = .returned v ∧ w'.ownsRow base 5 1 v out.length (Lib.byteCells out) ∧ Below base w w'

theorem aq_close {base : Nat} {v v5 : Value} {out more : List UInt8} {w W w5 : World} (hb : Below base w W) (hbase : base ≤ w.heap.size) (hown5 : w5.ownsRow base 5 1 v5 (out.length + more.length) (Lib.byteCells out ++ Lib.byteCells more)) (hlt : ∀ k, v.ownBlock = some k → base ≤ k ∧ k < W.heap.size) (hgr : W.grownBy w5 v.ownBlock) (hz : w.heap.size ≤ W.heap.size) :
    w5.ownsRow base 5 1 v5 (out ++ more).length (Lib.byteCells (out ++ more)) ∧ Below base w w5 := by
  rw [byteCells_append] at hown5
  rw [List.length_append]
  exact ⟨hown5, hb.grown hgr (by omega) (fun k hk => (hlt k hk).1)⟩

set_option maxHeartbeats 1000000 in
theorem aq_nl (base : Nat) (v : Value) (out : List UInt8) (b : UInt8) (g : Nat) (lb : Array Value) (w : World) (hown : w.ownsRow base 5 1 v out.length (Lib.byteCells out)) (hbase : base ≤ w.heap.size) (hlen : out.length ≤ 100000000) (e10 : ((b.toNat : Int) == 10) = true) :
    Calls Tryd.prog 23 #[v, .int .u8 b.toNat, .func (.func g) #[] lb] w (Appended base (out ++ [92, 110]) w) := by
  obtain ⟨ao, cv, rfl⟩ := owns_form hown
  obtain ⟨i0, hi, hz0, hz1, hz2⟩ := info_parts Tryd.info5
  have hown2 := hown.alloc (.cells #[.int .u8 92, .int .u8 110] 5)
  have hlt := hown2.lt
  go_enter Tryd.func23, Tryd.ntmps23
  go_wp2_with (at_builtin; refine wpList_append_own _ rfl _ _ 35 rfl base 5 i0 _ 1 1 Tryd.underlying35 hi hz0 hz1 hz2 rfl (by decide) _ _ _ rfl hown2 ⟨w.heap.size, 0, none⟩ 2 2 [.int .u8 92, .int .u8 110] rfl rfl ?c1 ?c2 ?c3 ?c4 ?c5 ?_)
  case c1 =>
    intro j u hj
    match j, hj with
    | 0, hj => simp at hj; subst hj; simp [Addr.add]
    | 1, hj => simp at hj; subst hj; simp [Addr.add]
  case c2 => intro u hu; simp at hu; rcases hu with rfl | rfl <;> rfl
  case c3 => unfold maxLen; omega
  case c4 => omega
  case c5 => simp; omega
  intro v5 w5 hown5 hgr5 _
  go_wp2
  go_ret
  exact ⟨v5, rfl, aq_close (more := [92, 110]) ((Below.refl _ _).alloc hbase _) hbase hown5 hlt hgr5 (by simp)⟩

set_option maxHeartbeats 1000000 in
theorem aq_tab (base : Nat) (v : Value) (out : List UInt8) (b : UInt8) (g : Nat) (lb : Array Value) (w : World) (hown : w.ownsRow base 5 1 v out.length (Lib.byteCells out)) (hbase : base ≤ w.heap.size) (hlen : out.length ≤ 100000000) (e10 : ((b.toNat : Int) == 10) = false) (e9 : ((b.toNat : Int) == 9) = true) :
    Calls Tryd.prog 23 #[v, .int .u8 b.toNat, .func (.func g) #[] lb] w (Appended base (out ++ [92, 116]) w) := by
  obtain ⟨ao, cv, rfl⟩ := owns_form hown
  obtain ⟨i0, hi, hz0, hz1, hz2⟩ := info_parts Tryd.info5
  have hown2 := hown.alloc (.cells #[.int .u8 92, .int .u8 116] 5)
  have hlt := hown2.lt
  go_enter Tryd.func23, Tryd.ntmps23
  go_wp2_with (at_builtin; refine wpList_append_own _ rfl _ _ 35 rfl base 5 i0 _ 1 1 Tryd.underlying35 hi hz0 hz1 hz2 rfl (by decide) _ _ _ rfl hown2 ⟨w.heap.size, 0, none⟩ 2 2 [.int .u8 92, .int .u8 116] rfl rfl ?c1 ?c2 ?c3 ?c4 ?c5 ?_)
  case c1 =>
    intro j u hj
    match j, hj with
    | 0, hj => simp at hj; subst hj; simp [Addr.add]
    | 1, hj => simp at hj; subst hj; simp [Addr.add]
  case c2 => intro u hu; simp at hu; rcases hu with rfl | rfl <;> rfl
  case c3 => unfold maxLen; omega
  case c4 => omega
  case c5 => simp; omega
  intro v5 w5 hown5 hgr5 _
  go_wp2
  go_ret
  exact ⟨v5, rfl, aq_close (more := [92, 116]) ((Below.refl _ _).alloc hbase _) hbase hown5 hlt hgr5 (by simp)⟩

set_option maxHeartbeats 1000000 in
theorem aq_q (base : Nat) (v : Value) (out : List UInt8) (b : UInt8) (g : Nat) (lb : Array Value) (w : World) (hown : w.ownsRow base 5 1 v out.length (Lib.byteCells out)) (hbase : base ≤ w.heap.size) (hlen : out.length ≤ 100000000) (e10 : ((b.toNat : Int) == 10) = false) (e9 : ((b.toNat : Int) == 9) = false) (e34 : ((b.toNat : Int) == 34) = true) :
    Calls Tryd.prog 23 #[v, .int .u8 b.toNat, .func (.func g) #[] lb] w (Appended base (out ++ [92, b]) w) := by
  obtain ⟨ao, cv, rfl⟩ := owns_form hown
  obtain ⟨i0, hi, hz0, hz1, hz2⟩ := info_parts Tryd.info5
  have hown2 := hown.alloc (.cells #[.int .u8 92, .int .u8 b.toNat] 5)
  have hlt := hown2.lt
  go_enter Tryd.func23, Tryd.ntmps23
  go_wp2_with (at_builtin; refine wpList_append_own _ rfl _ _ 35 rfl base 5 i0 _ 1 1 Tryd.underlying35 hi hz0 hz1 hz2 rfl (by decide) _ _ _ rfl hown2 ⟨w.heap.size, 0, none⟩ 2 2 [.int .u8 92, .int .u8 b.toNat] rfl rfl ?c1 ?c2 ?c3 ?c4 ?c5 ?_)
  case c1 =>
    intro j u hj
    match j, hj with
    | 0, hj => simp at hj; subst hj; simp [Addr.add]
    | 1, hj => simp at hj; subst hj; simp [Addr.add]
  case c2 => intro u hu; simp at hu; rcases hu with rfl | rfl <;> rfl
  case c3 => unfold maxLen; omega
  case c4 => omega
  case c5 => simp; omega
  intro v5 w5 hown5 hgr5 _
  go_wp2
  go_ret
  exact ⟨v5, rfl, aq_close (more := [92, b]) ((Below.refl _ _).alloc hbase _) hbase hown5 hlt hgr5 (by simp)⟩

set_option maxHeartbeats 1000000 in
theorem aq_bs (base : Nat) (v : Value) (out : List UInt8) (b : UInt8) (g : Nat) (lb : Array Value) (w : World) (hown : w.ownsRow base 5 1 v out.length (Lib.byteCells out)) (hbase : base ≤ w.heap.size) (hlen : out.length ≤ 100000000) (e10 : ((b.toNat : Int) == 10) = false) (e9 : ((b.toNat : Int) == 9) = false) (e34 : ((b.toNat : Int) == 34) = false) (e92 : ((b.toNat : Int) == 92) = true) :
    Calls Tryd.prog 23 #[v, .int .u8 b.toNat, .func (.func g) #[] lb] w (Appended base (out ++ [92, b]) w) := by
  obtain ⟨ao, cv, rfl⟩ := owns_form hown
  obtain ⟨i0, hi, hz0, hz1, hz2⟩ := info_parts Tryd.info5
  have hown2 := hown.alloc (.cells #[.int .u8 92, .int .u8 b.toNat] 5)
  have hlt := hown2.lt
  go_enter Tryd.func23, Tryd.ntmps23
  go_wp2_with (at_builtin; refine wpList_append_own _ rfl _ _ 35 rfl base 5 i0 _ 1 1 Tryd.underlying35 hi hz0 hz1 hz2 rfl (by decide) _ _ _ rfl hown2 ⟨w.heap.size, 0, none⟩ 2 2 [.int .u8 92, .int .u8 b.toNat] rfl rfl ?c1 ?c2 ?c3 ?c4 ?c5 ?_)
  case c1 =>
    intro j u hj
    match j, hj with
    | 0, hj => simp at hj; subst hj; simp [Addr.add]
    | 1, hj => simp at hj; subst hj; simp [Addr.add]
  case c2 => intro u hu; simp at hu; rcases hu with rfl | rfl <;> rfl
  case c3 => unfold maxLen; omega
  case c4 => omega
  case c5 => simp; omega
  intro v5 w5 hown5 hgr5 _
  go_wp2
  go_ret
  exact ⟨v5, rfl, aq_close (more := [92, b]) ((Below.refl _ _).alloc hbase _) hbase hown5 hlt hgr5 (by simp)⟩

set_option maxHeartbeats 1000000 in
theorem aq_shown (base : Nat) (v : Value) (out : List UInt8) (b : UInt8) (g : Nat) (lb : Array Value) (w : World) (hown : w.ownsRow base 5 1 v out.length (Lib.byteCells out)) (hbase : base ≤ w.heap.size) (hlen : out.length ≤ 100000000) (e10 : ((b.toNat : Int) == 10) = false) (e9 : ((b.toNat : Int) == 9) = false) (e34 : ((b.toNat : Int) == 34) = false) (e92 : ((b.toNat : Int) == 92) = false) (p : UInt8 → Bool) (he : Enters Tryd.prog g) (hk : Calls Tryd.prog g (#[.int .u8 b.toNat] ++ lb) w fun e w' => e = .returned (.bool (p b)) ∧ ∃ q, w' = w.drewN q) (hp : p b = true) :
    Calls Tryd.prog 23 #[v, .int .u8 b.toNat, .func (.func g) #[] lb] w (Appended base (out ++ [b]) w) := by
  obtain ⟨ao, cv, rfl⟩ := owns_form hown
  obtain ⟨i0, hi, hz0, hz1, hz2⟩ := info_parts Tryd.info5
  have eg : ∀ args w, (callFunc g args).run Tryd.prog w = .ok (.enter g args) w := he
  rw [hp] at hk
  go_enter Tryd.func23, Tryd.ntmps23
  go_wp2_with fail
  refine hk.mono ?_
  rintro e w' ⟨rfl, q, rfl⟩
  clear hk he hp
  have hown2 : ((w.alloc (.cells #[.int .u8 b.toNat] 5)).drewN q).ownsRow base 5 1 (.slice ao out.length cv) out.length (Lib.byteCells out) := hown.alloc _
  have hlt := hown2.lt
  go_wp2_with (at_builtin; refine wpList_append_own _ rfl _ _ 35 rfl base 5 i0 _ 1 1 Tryd.underlying35 hi hz0 hz1 hz2 rfl (by decide) _ _ _ rfl hown2 ⟨w.heap.size, 0, none⟩ 1 1 [.int .u8 b.toNat] rfl rfl ?c1 ?c2 ?c3 ?c4 ?c5 ?_)
  case c1 =>
    intro j u hj
    match j, hj with
    | 0, hj =>
      simp at hj; subst hj
      show (w.alloc (Obj.cells #[Value.int IntKind.u8 b.toNat] 5)).cell? _ = _
      simp [Addr.add]
  case c2 => intro u hu; simp at hu; subst hu; rfl
  case c3 => unfold maxLen; omega
  case c4 => omega
  case c5 => simp; omega
  intro v5 w5 hown5 hgr5 _
  go_wp2
  go_ret
  exact ⟨v5, rfl, aq_close (more := [b]) (below_drewN ((Below.refl _ _).alloc hbase _) q) hbase hown5 hlt hgr5 (by simp)⟩

set_option maxHeartbeats 2000000 in
theorem aq_hex (base : Nat) (v : Value) (out : List UInt8) (b : UInt8) (g : Nat) (lb : Array Value) (w : World) (hown : w.ownsRow base 5 1 v out.length (Lib.byteCells out)) (hbase : base ≤ w.heap.size) (hlen : out.length ≤ 100000000) (e10 : ((b.toNat : Int) == 10) = false) (e9 : ((b.toNat : Int) == 9) = false) (e34 : ((b.toNat : Int) == 34) = false) (e92 : ((b.toNat : Int) == 92) = false) (p : UInt8 → Bool) (he : Enters Tryd.prog g) (hk : Calls Tryd.prog g (#[.int .u8 b.toNat] ++ lb) w fun e w' => e = .returned (.bool (p b)) ∧ ∃ q, w' = w.drewN q) (hp : p b = false) :
    Calls Tryd.prog 23 #[v, .int .u8 b.toNat, .func (.func g) #[] lb] w (Appended base (out ++ [92, 120, hexC (b.toNat / 16), hexC (b.toNat % 16)]) w) := by
  obtain ⟨ao, cv, rfl⟩ := owns_form hown
  obtain ⟨i0, hi, hz0, hz1, hz2⟩ := info_parts Tryd.info5
  have eg : ∀ args w, (callFunc g args).run Tryd.prog w = .ok (.enter g args) w := he
  rw [hp] at hk
  go_enter Tryd.func23, Tryd.ntmps23
  go_wp2_with fail
  refine hk.mono ?_
  rintro e w' ⟨rfl, q, rfl⟩
  clear hk he hp
  have hb256 := b.toNat_lt
  have hx1 : ∀ W, (Instr.index 9 (.string ⟨#[48, 49, 50, 51, 52, 53, 54, 55, 56, 57, 97, 98, 99, 100, 101, 102]⟩) (.int .u8 ((b.toNat : Int) / 16))).run Tryd.prog W = .ok (.int .u8 (hexC (b.toNat / 16)).toNat) W := fun W => run_hex (b.toNat / 16) (by omega) W
  obtain ⟨m2, hm2⟩ : ∃ m2 : Int, ((b.toNat % 16 : Nat) : Int) = m2 := ⟨_, rfl⟩
  have hx2 : ∀ W, (Instr.index 9 (.string ⟨#[48, 49, 50, 51, 52, 53, 54, 55, 56, 57, 97, 98, 99, 100, 101, 102]⟩) (.int .u8 m2)).run Tryd.prog W = .ok (.int .u8 (hexC (b.toNat % 16)).toNat) W := fun W => by rw [← hm2]; exact run_hex (b.toNat % 16) (by omega) W
  have hand : bits .and .u8 (b.toNat : Int) 15 = m2 := (and15 b).trans hm2
  clear hm2
  generalize hexC (b.toNat / 16) = c1 at *
  generalize hexC (b.toNat % 16) = c2 at *
  have hown2 : ((w.drewN (q + 1)).alloc (.cells #[.int .u8 92, .int .u8 120, .int .u8 c1.toNat, .int .u8 c2.toNat] 5)).ownsRow base 5 1 (.slice ao out.length cv) out.length (Lib.byteCells out) := World.ownsRow.alloc (w := w.drewN (q + 1)) hown _
  have hltR := hown2.lt
  have hnews : ∀ j u, ([.int .u8 92, .int .u8 120, .int .u8 c1.toNat, .int .u8 c2.toNat] : List Value)[j]? = some u → ((w.drewN (q + 1)).alloc (.cells #[.int .u8 92, .int .u8 120, .int .u8 c1.toNat, .int .u8 c2.toNat] 5)).cell? ((⟨w.heap.size, 0, none⟩ : Addr).add j) = some u := by
    intro j u hj
    show (w.alloc (.cells #[.int .u8 92, .int .u8 120, .int .u8 c1.toNat, .int .u8 c2.toNat] 5)).cell? _ = _
    match j, hj with
    | 0, hj => simp at hj; subst hj; simp [Addr.add]
    | 1, hj => simp at hj; subst hj; simp [Addr.add]
    | 2, hj => simp at hj; subst hj; simp [Addr.add]
    | 3, hj => simp at hj; subst hj; simp [Addr.add]
  have hone : ∀ u ∈ ([.int .u8 92, .int .u8 120, .int .u8 c1.toNat, .int .u8 c2.toNat] : List Value), u.oneCell' = true := by
    intro u hu; simp at hu; rcases hu with rfl | rfl | rfl | rfl <;> rfl
  have h63 : out.length + 4 ≤ maxLen := by unfold maxLen; omega
  have hby : (out.length + 4) * 1 ≤ 140737488355328 := by omega
  have hbs : base ≤ ((w.drewN (q + 1)).alloc (.cells #[.int .u8 92, .int .u8 120, .int .u8 c1.toNat, .int .u8 c2.toNat] 5)).heap.size := by
    show base ≤ (w.alloc (.cells #[.int .u8 92, .int .u8 120, .int .u8 c1.toNat, .int .u8 c2.toNat] 5)).heap.size
    simp; omega
  have hbB : Below base w ((w.drewN (q + 1)).alloc (.cells #[.int .u8 92, .int .u8 120, .int .u8 c1.toNat, .int .u8 c2.toNat] 5)) := (below_drewN (Below.refl base w) (q + 1)).alloc hbase _
  have hszB : w.heap.size ≤ ((w.drewN (q + 1)).alloc (.cells #[.int .u8 92, .int .u8 120, .int .u8 c1.toNat, .int .u8 c2.toNat] 5)).heap.size := hbB.size
  go_wp2_with fail
  go_region_held3 (fun _ => True) (trivial) ((refine step_append_lies _ (by rfl) _ _ _ (by rfl) base 5 i0 _ 1 1 Tryd.underlying35 hi hz0 hz1 hz2 (by rfl) (by omega) _ _ _ (by rfl) hown2 ⟨w.heap.size, 0, none⟩ 4 4 [.int .u8 92, .int .u8 120, .int .u8 c1.toNat, .int .u8 c2.toNat] (by rfl) (by rfl) hnews hone (by omega) h63 hby hbs _ rfl ?_; intro gg cap w1 hown1 hgrow hat hltn))
  all_goals
    go_wp2
    go_ret
    exact ⟨_, rfl, aq_close (more := [92, 120, c1, c2]) hbB hbase hown1 hltR hgrow hszB⟩

theorem beqT {c d : UInt8} {n : Int} (hn : (d.toNat : Int) = n) (h : c = d) : ((c.toNat : Int) == n) = true := by
  subst h; rw [hn]; exact beq_self_eq_true n

theorem aq_any (base : Nat) (v : Value) (out : List UInt8) (b : UInt8) (g : Nat) (lb : Array Value) (w : World) (hown : w.ownsRow base 5 1 v out.length (Lib.byteCells out)) (hbase : base ≤ w.heap.size) (hlen : out.length ≤ 100000000)
    (he : Enters Tryd.prog g) (hk : Calls Tryd.prog g (#[.int .u8 b.toNat] ++ lb) w fun e w' => e = .returned (.bool (betweenP 32 126 b)) ∧ ∃ q, w' = w.drewN q) :
    Calls Tryd.prog 23 #[v, .int .u8 b.toNat, .func (.func g) #[] lb] w (Appended base (out ++ quoteB b) w) := by
  unfold quoteB
  by_cases h10 : b = 10
  · rw [if_pos h10]; exact aq_nl base v out b g lb w hown hbase hlen (beqT (d := 10) rfl h10)
  rw [if_neg h10]
  by_cases h9 : b = 9
  · rw [if_pos h9]; exact aq_tab base v out b g lb w hown hbase hlen (beqF (d := 10) rfl h10) (beqT (d := 9) rfl h9)
  rw [if_neg h9]
  by_cases h34 : b = 34
  · rw [if_pos (Or.inl h34)]; exact aq_q base v out b g lb w hown hbase hlen (beqF (d := 10) rfl h10) (beqF (d := 9) rfl h9) (beqT (d := 34) rfl h34)
  by_cases h92 : b = 92
  · rw [if_pos (Or.inr h92)]; exact aq_bs base v out b g lb w hown hbase hlen (beqF (d := 10) rfl h10) (beqF (d := 9) rfl h9) (beqF (d := 34) rfl h34) (beqT (d := 92) rfl h92)
  rw [if_neg (by rintro (h | h); exact h34 h; exact h92 h)]
  by_cases hs : 32 ≤ b.toNat ∧ b.toNat ≤ 126
  · rw [if_pos hs]
    exact aq_shown base v out b g lb w hown hbase hlen (beqF (d := 10) rfl h10) (beqF (d := 9) rfl h9) (beqF (d := 34) rfl h34) (beqF (d := 92) rfl h92) (betweenP 32 126) he hk (by simp [betweenP]; omega)
  · rw [if_neg hs]
    exact aq_hex base v out b g lb w hown hbase hlen (beqF (d := 10) rfl h10) (beqF (d := 9) rfl h9) (beqF (d := 34) rfl h34) (beqF (d := 92) rfl h92) (betweenP 32 126) he hk (by simp [betweenP]; omega)

end Go.Proofs.YthggaojpkfdggaaDoor
