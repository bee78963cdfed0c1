/-
  For every tree the law PrintExprs returns true and leaves its argument as it was: an expression's text stands in the text of a statement that returns it; brackets around it change nothing. Conditions: strconv's two sentinel errors and the listed tables as their initialisers lay them (tied); the pruned copy of the project.
-/
import Derived.Test.YtffnaknidofobaaGreatDoorRows
import Derived.Test.YtffnaknidofobaaGreatDoorNumJt
import Derived.ProofKit
import Derived.LaidMore
import Derived.OpenShut
import Derived.MakeChecks
import Derived.Stop.LaidErr
import Derived.Stop.Joined
import Derived.Deep.DeepHandedRow
import Derived.Deep.DeepWitnessRowRef
import Derived.Test.YtffnaknidofobaaGreatDoorSndEJt
import Derived.Lib.LaidTab
import Derived.Test.YtffnaknidofobaaGreatDoorLawSJt
import Derived.Test.YtffnaknidofobaaGreatDoorPrPJt
import Derived.Test.YtffnaknidofobaaGreatDoorCards
import Derived.Deep.Slices
import Derived.Lib.SmallJoins
import Derived.Test.YtffnaknidofobaaGreatDoorTie
import Derived.Carry
namespace Go.Proofs.YtffnaknidofobaaGreatDoor
open Go.ChangeShapes Go.WideShapes Go.ChangeAt Go.RowKit
set_option maxRecDepth 20000 in
theorem own : ownKnob Tryz.prog.godebug = none:=by kernel_rfl
set_option maxRecDepth 20000 in
theorem gSyn : Tryz.prog.globalNamed "strconv.ErrSyntax" = some 1 := by kernel_rfl
set_option maxRecDepth 20000 in
theorem gRng : Tryz.prog.globalNamed "strconv.ErrRange" = some 2 := by kernel_rfl
set_option maxRecDepth 20000 in
theorem tSyn : (Tryz.prog.globals[1]?).map (·.type) = some 113:=by kernel_rfl
set_option maxRecDepth 20000 in
theorem tRng : (Tryz.prog.globals[2]?).map (·.type) = some 113:=by kernel_rfl
/-- The list that every row of this seat bears. -/
def laid5 : List (String × DataW Unit):=Rows.printTellsRow.laid
set_option maxRecDepth 20000 in
theorem iface_cell {n nm : String} {d : DataW Unit} {r : List (String × DataW Unit)} {W : World} {g : Nat} (h : laidMet Tryz.prog ((n,.iface nm d) :: r) W) (hg : Tryz.prog.globalNamed n = some g) (ht : (Tryz.prog.globals[g]?).map (·.type) = some 113) :
    ∃ u v,W.cell? ⟨g,0,none⟩ = some (.iface u v):=by
  obtain ⟨ps,⟨g0,t0,cs0,f0,p0,q0,hg0,ht0,hv0,hd0,_,e0⟩,_,_⟩:=h
  obtain rfl:=Option.some.inj (hg.symm.trans hg0)
  obtain rfl:=Option.some.inj (ht.symm.trans ht0)
  obtain ⟨f1,u,v,hcs,_⟩:=iface_of_trod Tryz.underlying113 hd0
  have:=World.var?_cell hg0 hv0 0
  rw [Array.eq_one_of_toList hcs] at this
  exact ⟨u,v,by simpa using this⟩
set_option maxRecDepth 20000 in
theorem gl_of_laid {W : World} (h : laidMetH Tryz.prog laid5 W) : Gl W:=by
 rw [MakeChecks.laidMetH_plain _ _ _ (by kernel_rfl)] at h
 have h3 : laidMet Tryz.prog (("strconv.ErrRange", Rows.laid_strconv_ErrRange) :: ("strconv.ErrSyntax", Rows.laid_strconv_ErrSyntax) :: []) W := h.tail.tail.tail
 have h4 : laidMet Tryz.prog (("strconv.ErrSyntax", Rows.laid_strconv_ErrSyntax) :: []) W := h3.tail
 obtain ⟨u1,v1,c1⟩:=iface_cell h3 gRng tRng
 obtain ⟨u0,v0,c0⟩:=iface_cell h4 gSyn tSyn
 exact ⟨⟨u0,v0,c0⟩,⟨u1,v1,c1⟩,World.block_lt_of_cell? _ _ c1⟩
/-- The door's own heap meets the list. -/
theorem door_met (os : Os) (args : Array Value) : laidMetH Tryz.prog laid5 ((World.doorLaid Tryz.prog 62 os).forCall (fun _ _ => 0) ⟨#[],args,[]⟩).memory :=
  laidMetH_of_parts3 (fuel:=8) (laidMet_of_run' 8 (by kernel_rfl) (by kernel_rfl)) (by kernel_rfl) (by kernel_rfl)
end Go.Proofs.YtffnaknidofobaaGreatDoor

namespace Go.Proofs.YtffnaknidofobaaGreatDoor
open Go.ChangeShapes Go.WideShapes Go.ChangeAt Go.RowKit
set_option maxRecDepth 20000 in
theorem gPow : Tryz.prog.globalNamed "internal/strconv.uint64pow10" = some 0 := by kernel_rfl
set_option maxRecDepth 20000 in
theorem tPow : (Tryz.prog.globals[0]?).map (·.type) = some 159:=by kernel_rfl
set_option maxRecDepth 20000 in
theorem gBru : Tryz.prog.globalNamed "math/bits.deBruijn64tab" = some 5 := by kernel_rfl
set_option maxRecDepth 20000 in
theorem gw_of_laid {W : World} (h : laidMetH Tryz.prog laid5 W) : Gw W.heap.size W:=by
 have hG:=gl_of_laid h
 rw [MakeChecks.laidMetH_plain _ _ _ (by kernel_rfl)] at h
 have h2 : laidMet Tryz.prog (("math/bits.deBruijn64tab", Rows.laid_math_bits_deBruijn64tab) :: ("internal/strconv.uint64pow10", Rows.laid_internal_strconv_uint64pow10) :: ("strconv.ErrRange", Rows.laid_strconv_ErrRange) :: ("strconv.ErrSyntax", Rows.laid_strconv_ErrSyntax) :: []) W := h.tail
 have h3 : laidMet Tryz.prog (("internal/strconv.uint64pow10", Lib.tabData .u64 Lib.pow10Tab) :: ("strconv.ErrRange", Rows.laid_strconv_ErrRange) :: ("strconv.ErrSyntax", Rows.laid_strconv_ErrSyntax) :: []) W := h2.tail
 refine ⟨hG,Lib.tabIs_of_head gPow tPow Tryz.underlying159 Tryz.underlying111 (by kernel_rfl) (by kernel_rfl) h3,?_⟩
 obtain ⟨ps,⟨g',t',cs,fuel,p,q,hg',ht',hvar,hd,_,_⟩,_⟩:=h2
 unfold World.var? at hvar
 rw [gBru] at hvar
 rcases Nat.lt_or_ge 5 W.heap.size with h5 | h5
 · exact h5
 · have : W.heap[5]? = none:=Array.getElem?_eq_none h5
   simp [this] at hvar
end Go.Proofs.YtffnaknidofobaaGreatDoor

namespace Go.Proofs.YtffnaknidofobaaGreatDoor
open Go.RowKit
attribute [local go_sem ↓] Go.wp_at_zero Go.wp_at_succ
mutual
def cntN : Tr → Nat
  | .mk _ _ _ ks => 1 + cntNL ks
def cntNL : List Tr → Nat
  | [] => 0
  | t :: ts => cntN t + cntNL ts
end
mutual
def depN : Tr → Nat
  | .mk _ _ _ ks => depNL ks + 1
def depNL : List Tr → Nat
  | [] => 0
  | t :: ts => max (depN t) (depNL ts)
end
theorem cntNL_append : ∀ a b,cntNL (a ++ b) = cntNL a + cntNL b
  | [],b => by simp [cntNL]
  | t :: a,b => by simp only [List.cons_append,cntNL,cntNL_append a b]; omega
theorem depNL_append : ∀ a b,depNL (a ++ b) = max (depNL a) (depNL b)
  | [],b => by simp [depNL]
  | t :: a,b => by simp only [List.cons_append,depNL,depNL_append a b]; omega
theorem cntNL_len : ∀ ts : List Tr,ts.length ≤ cntNL ts
  | [] => Nat.le_refl _
  | .mk _ _ _ ks :: ts => by simp only [cntNL,cntN,List.length_cons]; have:=cntNL_len ts; omega
theorem cntNL_mem : ∀ {ts : List Tr} {t : Tr},t ∈ ts → cntN t ≤ cntNL ts
  | u :: ts,t,h => by
   rcases List.mem_cons.1 h with rfl | h
   · simp only [cntNL]; omega
   · have:=cntNL_mem h; simp only [cntNL]; omega
mutual
theorem depN_le : ∀ t,depN t ≤ cntN t
  | .mk _ _ _ ks => by simp only [depN,cntN]; have:=depNL_le ks; omega
theorem depNL_le : ∀ ts,depNL ts ≤ cntNL ts
  | [] => Nat.le_refl _
  | t :: ts => by simp only [depNL,cntNL]; have:=depN_le t; have:=depNL_le ts; omega
end
mutual
/-- The program's count and the document's. -/
theorem cntT_iff : ∀ (t : Tr) (deep left : Nat),(cntN t ≤ left → depN t ≤ deep → cntT t deep left = some (left - cntN t)) ∧ (left < cntN t ∨ deep < depN t → cntT t deep left = none)
  | .mk _ _ _ ks,deep,left => by
   have h:=cntL_iff ks (deep - 1) (left - 1)
   simp only [cntT,cntN,depN]
   by_cases h0 : deep = 0 ∨ left = 0
   · rw [if_pos h0]
     exact ⟨fun h1 h2 => by omega,fun _ => rfl⟩
   · rw [if_neg h0]
     refine ⟨fun h1 h2 => ?_,fun h1 => ?_⟩
     · rw [h.1 (by omega) (by omega)]; congr 1; omega
     · exact h.2 (by omega)
theorem cntL_iff : ∀ (ts : List Tr) (deep left : Nat),(cntNL ts ≤ left → depNL ts ≤ deep → cntL ts deep left = some (left - cntNL ts)) ∧ (left < cntNL ts ∨ deep < depNL ts → cntL ts deep left = none)
  | [],deep,left => by
   simp only [cntL,cntNL,depNL]
   exact ⟨fun _ _ => rfl,fun h => by omega⟩
  | t :: ts,deep,left => by
   have ht:=cntT_iff t deep left
   simp only [cntL,cntNL,depNL]
   by_cases h : cntN t ≤ left ∧ depN t ≤ deep
   · rw [ht.1 h.1 h.2]
     have hl:=cntL_iff ts deep (left - cntN t)
     refine ⟨fun h1 h2 => ?_,fun h1 => ?_⟩
     · simp only; rw [hl.1 (by omega) (by omega)]; congr 1; omega
     · exact hl.2 (by omega)
   · have hn:=ht.2 (by omega)
     rw [hn]
     exact ⟨fun h1 h2 => by omega,fun _ => rfl⟩
end
theorem smallT_iff (t : Tr) : smallT t = (decide (cntN t ≤ 20000) && decide (depN t ≤ 100)):=by
 unfold smallT
 have h:=cntT_iff t 100 20000
 by_cases h1 : cntN t ≤ 20000
 · by_cases h2 : depN t ≤ 100
   · rw [h.1 h1 h2]; simp [h1,h2]
   · rw [h.2 (by omega)]; simp [h2]
 · rw [h.2 (by omega)]; simp [h1]
set_option maxRecDepth 20000 in
set_option maxHeartbeats 4000000 in
theorem size_any : ∀ (n : Nat) (k : Int) (s : List UInt8) (m : Int) (ks : List Tr) (ao : Option Addr) (c : Nat) (S : Nat → Prop) (w : World),cntN (.mk k s m ks) ≤ n → n ≤ 10000000 → (∀ b,S b → b < w.heap.size) → KT w S (.mk k s m ks) (.slice ao ks.length c) →
    Calls Tryz.prog 68 #[.agg #[.int .i64 k,.string ⟨s.toArray⟩,.int .i64 m,.slice ao ks.length c]] w fun e w' => e = .returned (.tuple #[.int .i64 (1 + cntNL ks : Nat),.int .i64 (depNL ks + 1 : Nat)]) ∧ Below w.heap.size w w':=by
  intro n
  induction n with
  | zero => intro k s m ks ao c S w h; simp only [cntN] at h; omega
  | succ n ih =>
   intro k s m ks ao c S w hn hn2 hS hk
   have HI:=Lib.hid ih
   clear ih
   simp only [cntN] at hn
   have hL:=Lst.of hk
   have hlen:=cntNL_len ks
   have hX0:=Hx.start (w:=w) (c0:=.int .i64 k) (c1:=.string ⟨s.toArray⟩) (c2:=.int .i64 m) (c3:=.slice ao ks.length c)
   clear hk
   go_enter Tryz.func68,Tryz.ntmps68
   go_wp2_with fail
   go_loopw [4,5,6] (fun v4 v5 v6 wr => ∃ j : Nat,j ≤ ks.length ∧ v6 = .int .i64 j ∧ v4 = .int .i64 (1 + cntNL (ks.take j) : Nat) ∧ v5 = .int .i64 (depNL (ks.take j) : Nat) ∧ Hx w (.int .i64 k) (.string ⟨s.toArray⟩) (.int .i64 m) (.slice ao ks.length c) wr) (fun _ _ v6 _ => ks.length - (intOf v6).toNat)
   case atStart => exact ⟨0,Nat.zero_le _,rfl,rfl,rfl,hX0⟩
   case round =>
    obtain ⟨j,hj,rfl,rfl,rfl,hX⟩:=hrel
    obtain ⟨x0,x1,x2,x3⟩:=hX.cells
    by_cases hlt : j < ks.length
    · obtain ⟨a,ha⟩ : ∃ t,ks[j]? = some t:=⟨_,List.getElem?_eq_getElem hlt⟩
      obtain ⟨g,o,a0,n0,q0,hao,y0,y1,y2,y3,hg,hka⟩:=hL.kid ha hS
      subst hao
      have z0:=(hX.out.cell (p:=⟨g,o + j * 4,none⟩) hg).trans y0
      have z1:=(hX.out.cell (p:=⟨g,o + j * 4 + 1,none⟩) hg).trans y1
      have z2:=(hX.out.cell (p:=⟨g,o + j * 4 + 2,none⟩) hg).trans y2
      have z3:=(hX.out.cell (p:=⟨g,o + j * 4 + 3,none⟩) hg).trans y3
      have hcm:=cntNL_mem (List.mem_of_getElem? ha)
      have hka' : KT wr S a (.slice a0 n0 q0):=hka.fr (fun b hb => hX.out.block b (hS b hb)) (fun _ h => h)
      have et : ks.take (j + 1) = ks.take j ++ [a]:=by rw [List.take_add_one,ha]; rfl
      have e1 : cntNL (ks.take (j + 1)) = cntNL (ks.take j) + cntN a:=by rw [et,cntNL_append]; simp [cntNL]
      have e2 : depNL (ks.take (j + 1)) = max (depNL (ks.take j)) (depN a):=by rw [et,depNL_append]; simp [depNL]
      have b1 : cntNL (ks.take (j + 1)) ≤ cntNL ks:=by
       have:=cntNL_append (ks.take (j + 1)) (ks.drop (j + 1)); rw [List.take_append_drop] at this; omega
      have b2:=depNL_le (ks.take (j + 1))
      obtain ⟨ak,av,am,aks⟩:=a
      obtain ⟨_,_,e⟩:=(Lst.of hka').slice
      injection e with e4 e5 e7
      clear e4 e7
      subst e5
      have cS:=HI.out ak av am aks a0 q0 S wr (by omega) (by omega) (fun b hb => Nat.lt_of_lt_of_le (hS b hb) hX.out.size) hka'
      have E1:=Lib.hid e1
      have E2:=Lib.hid e2
      have bn : 1 + cntNL aks ≤ 10000000:=by simp only [cntN] at hcm; omega
      have bd : depNL aks + 1 ≤ 10000000:=by have:=depNL_le aks; omega
      have bt : cntNL (ks.take j) ≤ 10000000:=by omega
      have bu : depNL (ks.take j) ≤ 10000000:=by have:=depNL_le (ks.take j); omega
      simp only [Tr.kind,Tr.text,Tr.num] at z0 z1 z2
      clear e1 e2 et ha hka hka' hcm y0 y1 y2 y3
      go_wp2_with fail
      refine cS.mono ?_
      rintro e w2 ⟨rfl,hb2⟩
      have hX2:=hX.next hb2
      clear cS
      by_cases hgt : ((depNL aks + 1 : Nat) : Int) > (depNL (ks.take j) : Nat)
      · have hd : decide (((depNL aks + 1 : Nat) : Int) > (depNL (ks.take j) : Nat)) = true:=by simpa using hgt
        have e3 : depNL (ks.take (j + 1)) = depNL aks + 1:=by rw [E2.out]; simp only [depN]; omega
        have E3:=Lib.hid e3
        clear e3
        go_wp2
        go_roundw
        case rel => exact ⟨j + 1,by omega,by go_num,by rw [E1.out]; simp only [cntN]; congr 1; omega,by rw [E3.out]; simp,hX2⟩
        case measure => simp [intOf]; omega
      · have hd : decide (((depNL aks + 1 : Nat) : Int) > (depNL (ks.take j) : Nat)) = false:=by simpa using hgt
        have e3 : depNL (ks.take (j + 1)) = depNL (ks.take j):=by rw [E2.out]; simp only [depN]; omega
        have E3:=Lib.hid e3
        clear e3
        go_wp2
        go_roundw
        case rel => exact ⟨j + 1,by omega,by go_num,by rw [E1.out]; simp only [cntN]; congr 1; omega,by rw [E3.out],hX2⟩
        case measure => simp [intOf]; omega
    · have ht : ks.take j = ks:=List.take_of_length_le (by omega)
      have b2:=depNL_le ks
      have e1 : cntNL (ks.take j) = cntNL ks:=by rw [ht]
      have e2 : depNL (ks.take j) = depNL ks:=by rw [ht]
      rw [e1,e2]
      have b3 : cntNL ks ≤ 10000000:=by omega
      have b4 : depNL ks ≤ 10000000:=by omega
      clear ht e1 e2
      go_wp2
      exact bodyPost_ret (v:=.tuple #[.int .i64 (1 + cntNL ks : Nat),.int .i64 (depNL ks + 1 : Nat)]) (by simp [results,Tryz.results68,go_sem]) rfl ⟨rfl,hX.out⟩
end Go.Proofs.YtffnaknidofobaaGreatDoor

namespace Go.Proofs.YtffnaknidofobaaGreatDoor
open Go.ChangeShapes Go.WideShapes Go.ChangeAt Go.RowKit
instance : Inhabited Tr:=⟨.mk 0 [] 0 []⟩
theorem bulk_mem {H : Type} : ∀ {l : List (DataW H)} {x : DataW H},x ∈ l → Rows.uptoBulk x ≤ Rows.uptoBulkAll l
  | y :: l,x,h => by
   rcases List.mem_cons.1 h with rfl | h
   · simp only [Rows.uptoBulkAll]; omega
   · have:=bulk_mem h; simp only [Rows.uptoBulkAll]; omega
theorem kl_map {w : World} {S : Nat → Prop} (f : Nat → Tr × Value) : ∀ l : List Nat,(∀ i ∈ l,KT w S (f i).1 (f i).2) → KL w S (l.map fun i => (f i).1) (l.map fun i => (f i).2)
  | [],_ => by simp [KL]
  | i :: l,h => by
   simp only [List.map_cons,KL]
   exact ⟨_,_,rfl,h i (by simp),kl_map f l fun j hj => h j (by simp [hj])⟩
theorem cnt_map {H : Type} (f : Nat → Tr × Value) (D : Nat → DataW H) : ∀ l : List Nat,(∀ i ∈ l,cntN (f i).1 ≤ Rows.uptoBulk (D i)) → cntNL (l.map fun i => (f i).1) ≤ Rows.uptoBulkAll (l.map D)
  | [],_ => by simp [cntNL]
  | i :: l,h => by
   have:=cnt_map f D l fun j hj => h j (by simp [hj])
   have:=h i (by simp)
   simp only [List.map_cons,cntNL,Rows.uptoBulkAll]; omega
theorem cells_map {w : World} {g o : Nat} (f : Nat → Tr × Value) : ∀ (n s : Nat),(∀ i,s ≤ i → i < s + n → w.cell? ⟨g,o + i * 4,none⟩ = some (.int .i64 (f i).1.kind) ∧ w.cell? ⟨g,o + i * 4 + 1,none⟩ = some (.string ⟨(f i).1.text.toArray⟩) ∧ w.cell? ⟨g,o + i * 4 + 2,none⟩ = some (.int .i64 (f i).1.num) ∧ w.cell? ⟨g,o + i * 4 + 3,none⟩ = some (f i).2) →
    ∀ (j : Nat) u,(cellsOf ((List.range' s n).map fun i => (f i).1) ((List.range' s n).map fun i => (f i).2))[j]? = some u → w.cell? ⟨g,o + s * 4 + j,none⟩ = some u
  | 0,s,_,j,u,h => by simp [cellsOf] at h
  | n + 1,s,hc,j,u,h => by
   obtain ⟨c0,c1,c2,c3⟩:=hc s (Nat.le_refl _) (by omega)
   simp only [List.range'_succ,List.map_cons,cellsOf] at h
   match j,h with
   | 0,h => simp at h; subst h; exact c0
   | 1,h => simp at h; subst h; exact c1
   | 2,h => simp at h; subst h; exact c2
   | 3,h => simp at h; subst h; exact c3
   | j + 4,h =>
    have:=cells_map f n (s + 1) (fun i h1 h2 => hc i (by omega) (by omega)) j u (by simpa using h)
    rwa [show o + (s + 1) * 4 + j = o + s * 4 + (j + 4) by omega] at this
theorem four_of {α : Type} {cs : List α} (h : cs.length = 4) : ∃ c0 c1 c2 c3,cs = [c0,c1,c2,c3]:=by
 match cs,h with
 | [c0,c1,c2,c3],_ => exact ⟨c0,c1,c2,c3,rfl⟩
set_option maxRecDepth 20000 in
theorem size24 : Tryz.prog.cellsOf 24 = 4 ∧ Tryz.prog.cellsOf 3 = 1 ∧ Tryz.prog.cellsOf 9 = 1 ∧ Tryz.prog.cellsOf 22 = 1:=⟨by kernel_rfl,by kernel_rfl,by kernel_rfl,by kernel_rfl⟩
/-- What a node reads as is a tree that lies. -/
theorem tree_of {H : Type} {enc : TypeId × Value → H} {w : World} : ∀ (B : Nat) {fuel : Nat} {cs : List Value} {d : DataW H} {p : List MemPlace},Rows.uptoBulk d ≤ B → DataW.trod enc Tryz.prog w 0 (fun _ => true) true fuel 24 cs = some (d,p) →
    ∃ (t : Tr) (sl : Value),cs = [.int .i64 t.kind,.string ⟨t.text.toArray⟩,.int .i64 t.num,sl] ∧ KT w (fun b => b < w.heap.size) t sl ∧ cntN t ≤ Rows.uptoBulk d ∧ ∀ n,txtT n t ∧ nmT n t:=by
  intro B
  induction B with
  | zero =>
   intro fuel cs d p hB h
   obtain ⟨y0,y1,y2,y3,n,hx,_⟩:=Go.Joins.trod_struct4 Tryz.underlying24 h
   injection hx with hx _
   subst hx
   simp only [Rows.uptoBulk] at hB
   omega
  | succ B ih =>
   intro fuel cs d p hB h
   obtain ⟨y0,y1,y2,y3,n,hx,hl,h0,h1,h2,h3⟩:=Go.Joins.trod_struct4 Tryz.underlying24 h
   injection hx with hx _
   subst hx
   obtain ⟨c0,c1,c2,c3,rfl⟩:=four_of (hl.trans size24.1)
   simp only [size24.2.1,size24.2.2.1,size24.2.2.2,List.drop_zero,List.drop_succ_cons,List.take_succ_cons,List.take_zero] at h0 h1 h2 h3
   obtain ⟨k,e0,ex0,_⟩:=DataW.trod_int Tryz.underlying3 h0
   obtain ⟨s,e1,ex1,hs⟩:=DataW.trod_string Tryz.underlying9 h1
   obtain ⟨m,e2,ex2,wm⟩:=DataW.trod_int Tryz.underlying3 h2
   injection e0 with e0 _
   injection e1 with e1 _
   injection e2 with e2 _
   subst e0 e1 e2 ex0 ex1 ex2
   have es : (⟨s.data.toList.toArray⟩ : ByteArray) = s:=by cases s; simp
   have hs2 : s.data.toList.length ≤ maxLen:=by rw [Array.length_toList]; exact hs
   have hm2 : m ≤ 9223372036854775807:=by
    have hw : (IntKind.i64).min ≤ m ∧ m ≤ (IntKind.i64).max:=by simpa [Lit.wf] using wm
    simpa [IntKind.max,IntKind.signed,IntKind.bits] using hw.2
   simp only [Rows.uptoBulk,Rows.uptoBulkAll] at hB ⊢
   rcases Go.Deep.open_slice Tryz.underlying22 h3 with ⟨e3,ex3⟩ | ⟨a,len,cap,mm,nn,D,Pl,e3,_,hlc,_,hmm,ex3,hel⟩
   · injection e3 with e3 _
     subst e3 ex3
     refine ⟨.mk k s.data.toList m [],.slice none 0 0,by simp only [Tr.kind,Tr.text,Tr.num,es],?_,?_,?_⟩
     · simp only [KT]; exact ⟨[],.inl ⟨rfl,none,0,rfl⟩,by simp [KL]⟩
     · simp only [cntN,cntNL]; omega
     · intro n
       cases n with
       | zero => exact ⟨trivial,trivial⟩
       | succ n => exact ⟨⟨hs2,fun k hk => by cases hk⟩,⟨hm2,fun k hk => by cases hk⟩⟩
   · injection e3 with e3 _
     subst e3 ex3
     simp only [if_true] at hmm
     subst hmm
     simp only [Rows.uptoBulk] at hB ⊢
     rw [size24.1] at hel
     have hi : ∀ i,i < len → ∃ q : Tr × Value,w.cells? 0 (a.add (i * 4)) 4 = some [.int .i64 q.1.kind,.string ⟨q.1.text.toArray⟩,.int .i64 q.1.num,q.2] ∧ KT w (fun b => b < w.heap.size) q.1 q.2 ∧ cntN q.1 ≤ Rows.uptoBulk (D i) ∧ ∀ n,txtT n q.1 ∧ nmT n q.1:=fun i hi => by
      obtain ⟨cs',hc,ht⟩:=hel i (by omega)
      have hm : Rows.uptoBulk (D i) ≤ Rows.uptoBulkAll ((List.range len).map D):=bulk_mem (List.mem_map.2 ⟨i,List.mem_range.2 hi,rfl⟩)
      obtain ⟨t,sl,rfl,h1,h2,h3⟩:=ih (by omega) ht
      exact ⟨(t,sl),hc,h1,h2,h3⟩
     obtain ⟨f,hf⟩:=Go.Deep.choose_lt (α:=Tr × Value) hi
     refine ⟨.mk k s.data.toList m ((List.range' 0 len).map fun i => (f i).1),.slice (some a) len mm,by simp only [Tr.kind,Tr.text,Tr.num,es],?_,?_,?_⟩
     · simp only [KT]
       refine ⟨(List.range' 0 len).map fun i => (f i).2,?_,kl_map f _ fun i hi => (hf i (by simpa using hi)).2.1⟩
       rw [List.length_map,List.length_range']
       by_cases h0 : len = 0
       · subst h0; exact .inl ⟨rfl,_,_,rfl⟩
       · have hcell : ∀ i,i < len → ∀ r,r < 4 → w.cell? (a.add (i * 4 + r)) = [Value.int .i64 (f i).1.kind,.string ⟨(f i).1.text.toArray⟩,.int .i64 (f i).1.num,(f i).2][r]?:=fun i hi r hr => by
          have:=(World.cells?_some (hf i hi).1).2.2 r hr
          rwa [Go.Deep.add_add] at this
         obtain ⟨b,off,spot⟩:=a
         have hspot : spot = none:=by
          have:=hcell 0 (by omega) 0 (by omega)
          simpa [Addr.add] using World.cell?_spot this
         subst hspot
         have hc' : ∀ i,i < len → ∀ r,r < 4 → w.cell? ⟨b,off + i * 4 + r,none⟩ = [Value.int .i64 (f i).1.kind,.string ⟨(f i).1.text.toArray⟩,.int .i64 (f i).1.num,(f i).2][r]?:=fun i hi r hr => by
          have:=hcell i hi r hr
          rwa [Go.WideShapes.add_plain,show off + (i * 4 + r) = off + i * 4 + r by omega] at this
         refine .inr ⟨b,off,mm,rfl,hlc,?_,fun j u hj => ?_⟩
         · exact lt_of_cell (hc' 0 (by omega) 0 (by omega))
         · have:=cells_map (w:=w) (g:=b) (o:=off) f len 0 (fun i _ hi => ⟨hc' i (by omega) 0 (by omega),hc' i (by omega) 1 (by omega),hc' i (by omega) 2 (by omega),hc' i (by omega) 3 (by omega)⟩) j u hj
           simpa using this
     · simp only [cntN]
       have:=cnt_map f D (List.range' 0 len) fun i hi => (hf i (by simpa using hi)).2.2.1
       rw [← List.range_eq_range'] at this ⊢
       omega
     · intro n
       cases n with
       | zero => exact ⟨trivial,trivial⟩
       | succ n =>
        refine ⟨⟨hs2,fun k hk => ?_⟩,⟨hm2,fun k hk => ?_⟩⟩
        · obtain ⟨i,hi,rfl⟩:=List.mem_map.1 hk
          exact ((hf i (by simpa using hi)).2.2.2 n).1
        · obtain ⟨i,hi,rfl⟩:=List.mem_map.1 hk
          exact ((hf i (by simpa using hi)).2.2.2 n).2
end Go.Proofs.YtffnaknidofobaaGreatDoor

namespace Go.Proofs.YtffnaknidofobaaGreatDoor.printExprsProof
open Go.ChangeShapes Go.WideShapes Go.ChangeAt Go.RowKit
open Go.ChangeMaps (open_string shut_string)
set_option maxRecDepth 100000 in
theorem contract (H : Type) (enc : TypeId × Value → H) (W : World) (base : Nat) (args : Array Value) (ds gs : List (DataW H)) (before : List MemPlace)
    (hval : ∀ (j : Nat) t v,Tryz.f6.params[j]? = some t → args[j]? = some v → Value.okWide Tryz.prog W .any base t v)
    (hW : DataW.Whole enc Tryz.prog Tryz.f6.params.toList Rows.printExprsSpec.vars false W args.toList ds gs before) (hL : laidMetH Tryz.prog laid5 W) :
    Calls Tryz.prog 6 args W fun e W' => ∃ v,e = .returned v ∧ Rows.printExprsSpec.post enc Tryz.prog Tryz.f6 false true false false W args v W':=by
  have hW':=hW
  obtain ⟨p,q,hA0,hV,rfl,hfz,hnd⟩:=hW
  have hA : DataW.TrodAll enc Tryz.prog W 0 (fun _ => true) true Tryz.f6.params.toList args.toList ds p:=hA0
  rw [Tryz.params6] at hA hval
  obtain ⟨v0,vs0,d0,ds0,p0,q0,hargs,rfl,rfl,h0,r0⟩:=trodAll_cons hA
  obtain ⟨rfl,rfl,rfl⟩:=trodAll_nil r0
  obtain rfl : args = #[v0]:=by cases args; simp_all
  obtain ⟨rfl,rfl⟩:=trodVars_none hV
  have h0':=h0
  obtain ⟨cs,rfl,hsz⟩:=okWide_struct Tryz.underlying24 (hval 0 24 v0 rfl rfl)
  obtain ⟨fuel,hf⟩:=h0
  have hf' : DataW.trod enc Tryz.prog W 0 (fun _ => true) true fuel 24 cs.toList = some (d0,p0):=by simpa [Value.cells] using hf
  obtain ⟨t,sl,hcs,hkt,_,htx⟩:=tree_of (Rows.uptoBulk d0) (Nat.le_refl _) hf'
  obtain rfl : cs = #[.int .i64 t.kind,.string ⟨t.text.toArray⟩,.int .i64 t.num,sl]:=by cases cs; simpa using hcs
  have hlt : ∀ x ∈ p0,x.block < W.heap.size:=DataW.trod_lt fuel 24 _ _ hf'
  clear hA0 hf hf' hcs
  simp only [List.append_nil] at hW'
  refine (exprs_any t sl W (gw_of_laid hL) (fun n => (htx n).1) (fun n => (htx n).2) hkt).mono fun e W' ⟨he,hb⟩ => ?_
  subst he
  exact ⟨_,rfl,_,_,_,[],p0 ++ [],[],hW',(trodAll_cons_mk (shut_bool Tryz.underlying4 _) trodAll_mk0),(trodAll_cons_mk (Below.trod (by kernel_rfl) (by kernel_rfl) (of_decide_eq_true (by kernel_rfl)) h0' hb hlt) trodAll_mk0),rfl,hb.frame _,fun h => by cases h⟩
theorem reads (os : Os) {H : Type} (enc : TypeId × Value → H) : ∃ places,DataW.whole enc Tryz.prog ((World.doorLaid Tryz.prog 62 os).forCall (fun _ _ => 0) ⟨#[],#[.agg #[.int .i64 0,.string .empty,.int .i64 0,.slice none 0 0]],[]⟩).memory Tryz.f6.params.toList Rows.printExprsSpec.vars false (#[.agg #[.int .i64 0,.string .empty,.int .i64 0,.slice none 0 0]] : Array Value).toList 8 = some ([.agg [.lit (.int .i64 0),.lit (.string []),.lit (.int .i64 0),.nil]],[],places) :=
  ⟨[],by kernel_rfl⟩
set_option maxRecDepth 100000 in
theorem lifted (os : Os) (started : os.Started) (H : Type) (enc : TypeId × Value → H) (F : Stop.Interp) :
    ReturnsInHanded {} Tryz.checked os 6 .any ((OpenSpec.ofChange Rows.printExprsSpec).preRow enc Tryz.prog Tryz.f6 Rows.printExprsRow.domain false Rows.printExprsRow.laid) (((OpenSpec.ofChange Rows.printExprsSpec).at F).post enc Tryz.prog Tryz.f6 false true false false):=by
  obtain ⟨places,hx⟩:=reads os enc
  refine returnsInHanded_of_row (C:=Tryz.checked) (s:=OpenSpec.ofChange Rows.printExprsSpec) own started (by kernel_rfl) Tryz.func6
    (witness_row_atRef (enc:=enc) (C:=Tryz.checked) false (World.doorLaid Tryz.prog 62 os) #[.agg #[.int .i64 0,.string .empty,.int .i64 0,.slice none 0 0]] rfl (by kernel_rfl) (by kernel_rfl) (by kernel_rfl)
      (OpenSpec.preRow_of_cond 8 hx (by kernel_rfl) (fun k hk => by cases hk) (by kernel_rfl) (door_met os _))) ?_
  intro W base args ds gs before hval hW _ _ _ hL _ _
  exact contract H enc W base args ds gs before hval hW hL
theorem said : Rows.PrintExprsSaid :=
  OpenClaim.holds_of_cond 6 Tryz.f6 rfl rfl rfl rfl rfl rfl rfl ⟨rfl,rfl,rfl,rfl,rfl⟩ rfl rfl rfl rfl rfl (by kernel_rfl) Tryz.func6 (by kernel_rfl)
    (of_decide_eq_true (by kernel_rfl)) (by unfold Func.isWrapper; first | (rw [if_pos (by decide +kernel)]; kernel_rfl) | (rw [if_neg (by decide +kernel)]; exact ⟨rfl,rfl⟩))
    (fun os started H enc _ F => by rw [OpenClaim.pre_eq_preRow]; exact lifted os started H enc F)
theorem plain (f : FuncId) (fn : Func) (hf : Tryz.pinned.checked.prog.funcNamed "halyard/halyardlaw03.PrintExprs" = some f) (hfn : Tryz.pinned.checked.prog.funcs[f]? = some fn) :
    true = Tryz.pinned.checked.prog.looks [] ∧ ∀ (j : Nat) t,fn.params[j]? = some t → Tryz.pinned.checked.prog.wantsStandIn t = false:=by
  obtain rfl : f = 6 := Option.some.inj ((show Tryz.prog.funcNamed "halyard/halyardlaw03.PrintExprs" = some 6 by kernel_rfl).symm.trans hf) |>.symm
  obtain rfl : fn = Tryz.f6:=(Option.some.inj (Tryz.func6.symm.trans hfn)).symm
  refine ⟨by kernel_rfl,fun j t ht => ?_⟩
  rw [Tryz.params6] at ht
  obtain rfl : t = 24:=by simpa using Array.mem_of_getElem? ht
  exact (show Tryz.prog.wantsStandIn 24 = false by kernel_rfl)
end Go.Proofs.YtffnaknidofobaaGreatDoor.printExprsProof
namespace Go.Proofs.YtffnaknidofobaaGreatDoor
/-- The card. -/
theorem printExprs_card : Rows.PrintExprsCardSaid :=
  Claim7.holds_tied_plain_at .later [] _ _ _ _ printExprsProof.said (fun _ h => by cases h) (by kernel_rfl) (fun _ h => by cases h) printExprs_row_tie rfl ⟨rfl,rfl⟩ (by kernel_rfl) rfl printExprsProof.plain (by kernel_rfl)
end Go.Proofs.YtffnaknidofobaaGreatDoor
