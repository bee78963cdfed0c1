/- awake of layer 3: the simplest facts. -/
import Derived.Test.YtffnaknidofobaaGreatDoorPmNJt
import Derived.Test.YtffnaknidofobaaGreatDoorPrPJt
import Derived.Test.YtffnaknidofobaaGreatDoorBkUJt
import Derived.Test.YtffnaknidofobaaGreatDoorLawBJt
import Derived.Deep.QuietTactic
import Derived.BigQuiet
namespace Go.Proofs.YtffnaknidofobaaGreatDoor
open Go.RowKit
attribute [local go_sem ↓] Go.wp_at_zero Go.wp_at_succ
theorem Gw.up {B B' : Nat} {w : World} (h : Gw B w) (hB : B ≤ B') : Gw B' w:=⟨h.gl,h.tab,Nat.le_trans h.le hB⟩
def awT : Tr:=.mk 1 [] 0 [.mk 4 [109,97,105,110] 0 [.mk 7 [] 0 [],.mk 20 [] 0 [.mk 24 [] 0 [.mk 51 [] 0 [.mk 44 [112,114,105,110,116] 0 [],.mk 40 [] 1 []]]]]]
theorem awP : parseP [102,117,110,99,32,109,97,105,110,40,41,123,112,114,105,110,116,40,49,41,59,125] = (some awT,0,0):=by kernel_rfl
theorem awX : ∀ n,txtT n awT:=by
 intro n
 rcases n with _ | _ | _ | _ | _ | _ | _ | n <;> simp [txtT,awT,Tr.text,Tr.kids,maxLen]
theorem awS : textP awT = ([102,117,110,99,32,109,97,105,110,32,40,32,41,32,123,10,112,114,105,110,116,32,40,32,49,32,41,32,59,10,125,10],0):=by decide +kernel
set_option maxRecDepth 20000 in
set_option maxHeartbeats 1600000 in
theorem awake_any (w : World) (hG : Gw w.heap.size w) : Calls Tryz.prog 11 #[] w fun e w' => e = .returned (.bool true) ∧ Below w.heap.size w w':=by
 have c1:=parse_any ⟨#[102,117,110,99,32,109,97,105,110,40,41,123,112,114,105,110,116,40,49,41,59,125]⟩ (by decide) w hG.gl
 rw [show (ByteArray.mk #[102,117,110,99,32,109,97,105,110,40,41,123,112,114,105,110,116,40,49,41,59,125]).data.toList = [102,117,110,99,32,109,97,105,110,40,41,123,112,114,105,110,116,40,49,41,59,125] from rfl,awP] at c1
 go_enter Tryz.func11,Tryz.ntmps11
 go_wp2_with fail
 refine c1.mono ?_
 rintro e w1 ⟨hb1,sl,rfl,hk⟩
 clear c1
 have hz1:=hb1.size
 obtain ⟨ao,c,rfl⟩:=(Lst.kids hk).slice
 obtain ⟨W,hW⟩ : ∃ W,w1.alloc (.cells #[.int .i64 1,.string ⟨awT.text.toArray⟩,.int .i64 awT.num,.slice ao awT.kids.length c] 24) = W:=⟨_,rfl⟩
 have hbW : Below w1.heap.size w1 W:=hW ▸ (Below.refl _ _).alloc (Nat.le_refl _) _
 have hzW:=hbW.size
 have hB : Below w.heap.size w W:=hb1.trans (hbW.mono hz1)
 have c2:=printText_any awT (.slice ao awT.kids.length c) W ((hG.later hB).up hB.size) awX (parse_good awP).2 (hk.fr (fun b hb => hbW.block b hb.2) (fun _ h => Nat.lt_of_lt_of_le h.2 hzW))
 rw [awS] at c2
 clear hk
 subst hW
 go_wp2_with fail
 refine c2.mono ?_
 rintro e w2 ⟨rfl,hb2⟩
 clear c2
 go_wp2
 go_ret
 exact ⟨rfl,hB.trans (hb2.mono hB.size)⟩
end Go.Proofs.YtffnaknidofobaaGreatDoor

namespace Go.Proofs.YtffnaknidofobaaGreatDoor
open Go.RowKit
attribute [local go_sem ↓] Go.wp_at_zero Go.wp_at_succ
theorem aro_tx {t : Tr} (h : ∀ n,txtT n t) : ∀ n,txtT n (aroT t)
  | 0 => trivial
  | 1 => ⟨by simp [aroT,Tr.text,maxLen],fun _ _ => trivial⟩
  | 2 => ⟨by simp [aroT,Tr.text,maxLen],fun _ h1 => by rw [List.mem_singleton.1 h1]; exact ⟨by simp [Tr.text,maxLen],fun _ _ => trivial⟩⟩
  | 3 => ⟨by simp [aroT,Tr.text,maxLen],fun _ h1 => by
      rw [List.mem_singleton.1 h1]
      refine ⟨by simp [Tr.text,maxLen],fun _ h2 => ?_⟩
      rcases List.mem_cons.1 h2 with e | e
      · rw [e]; exact ⟨by simp [Tr.text,maxLen],fun _ _ => trivial⟩
      · rw [List.mem_singleton.1 e]; exact ⟨by simp [Tr.text,maxLen],fun _ _ => trivial⟩⟩
  | n + 4 => ⟨by simp [aroT,Tr.text,maxLen],fun _ h1 => by
      rw [List.mem_singleton.1 h1]
      refine ⟨by simp [Tr.text,maxLen],fun _ h2 => ?_⟩
      rcases List.mem_cons.1 h2 with e | e
      · rw [e]; exact ⟨by simp [Tr.text,maxLen],fun _ h => by cases h⟩
      · rw [List.mem_singleton.1 e]
        refine ⟨by simp [Tr.text,maxLen],fun _ h3 => ?_⟩
        rw [List.mem_singleton.1 h3]
        exact ⟨by simp [Tr.text,maxLen],fun _ h4 => by rw [List.mem_singleton.1 h4]; exact h n⟩⟩
theorem aro_fit {t : Tr} (hs : soundT (aroT t) = true) (h : ∀ n,txtT n t) : Fit 96 t:=by
 simp only [soundT,Bool.and_eq_true] at hs
 have h0:=fit_of_small hs.1 (aro_tx h)
 have h1:=h0.2.2 _ (List.mem_singleton.2 rfl)
 have h2:=h1.2.2 (.mk 20 [] 0 [.mk 27 [] 0 [t]]) (by simp [Tr.kids])
 have h3:=h2.2.2 (.mk 27 [] 0 [t]) (by simp [Tr.kids])
 exact h3.2.2 t (by simp [Tr.kids])
set_option maxRecDepth 20000 in
set_option maxHeartbeats 800000 in
theorem printExpr_any (t : Tr) (sl : Value) (w : World) (hG : Gw w.heap.size w) (hX : ∀ n,txtT n t) (hN : nmT 96 t) (hk : KT w (· < w.heap.size) t sl) :
    Calls Tryz.prog 9 #[tv t sl] w fun e w' => e = .returned (.tuple #[.string ⟨(exprP t).1.toArray⟩,.int .i64 (exprP t).2]) ∧ Below w.heap.size w w':=by
  obtain ⟨ao,c,rfl⟩ : ∃ ao c,sl = .slice ao t.kids.length c:=(Lst.kids hk).slice
  have hb0 : Below w.heap.size w (w.alloc (nbx t (.slice ao t.kids.length c))):=(Below.refl _ _).alloc (Nat.le_refl _) _
  obtain ⟨W0,hW⟩ : ∃ W,w.alloc (nbx t (.slice ao t.kids.length c)) = W:=⟨_,rfl⟩
  have hbx : W0.heap[w.heap.size]? = some (nbx t (.slice ao t.kids.length c)):=by rw [← hW]; exact heap_alloc_new w _
  have hz0 : w.heap.size < W0.heap.size:=by rw [← hW]; simp
  rw [hW] at hb0
  have hW' : w.alloc (.cells #[.int .i64 t.kind,.string ⟨t.text.toArray⟩,.int .i64 t.num,.slice ao t.kids.length c] 24) = W0:=hW
  have hk0 : KT W0 (· < W0.heap.size) t (.slice ao t.kids.length c):=hk.fr (fun b hb => hb0.block b hb) (fun _ h => Nat.lt_of_lt_of_le h hb0.size)
  have cA:=around_any t (.slice ao t.kids.length c) W0 hk0
  have y0 : W0.cell? ⟨w.heap.size,0,none⟩ = some (.int .i64 t.kind):=by rw [Lib.cell_of_heap hbx]; rfl
  have y1 : W0.cell? ⟨w.heap.size,1,none⟩ = some (.string ⟨t.text.toArray⟩):=by rw [Lib.cell_of_heap hbx]; rfl
  have y2 : W0.cell? ⟨w.heap.size,2,none⟩ = some (.int .i64 t.num):=by rw [Lib.cell_of_heap hbx]; rfl
  have y3 : W0.cell? ⟨w.heap.size,3,none⟩ = some (.slice ao t.kids.length c):=by rw [Lib.cell_of_heap hbx]; rfl
  have HB : ∀ W,Below W0.heap.size W0 W → Below w.heap.size w W:=fun W h => hb0.trans (h.mono hb0.size)
  have HGW : ∀ W,Below W0.heap.size W0 W → Gw W.heap.size W:=fun W h => (hG.later (HB W h)).up (HB W h).size
  have HGB : ∀ W,Below W0.heap.size W0 W → Gw W0.heap.size W:=fun W h => (hG.later (HB W h)).up hb0.size
  have HK : ∀ W,Below W0.heap.size W0 W → KT W (· < W0.heap.size) t (.slice ao t.kids.length c):=fun W h => hk0.fr (fun b hb => h.block b hb) (fun _ h => h)
  have HBX : ∀ W,Below W0.heap.size W0 W → W.heap[w.heap.size]? = some (nbx t (.slice ao t.kids.length c)):=fun W h => (h.block _ hz0).trans hbx
  have HB:=Lib.hid HB
  have HGW:=Lib.hid HGW
  have HGB:=Lib.hid HGB
  have HK:=Lib.hid HK
  have HBX:=Lib.hid HBX
  have HTX:=Lib.hid (aro_tx hX)
  cases hS : soundT (aroT t) with
  | false =>
   have HE : Hid (exprP t = ([],2)):=by show _ = _; unfold exprP; rw [hS]; rfl
   clear hW hk hk0 hbx hX hN
   generalize hmm : w.heap.size = m at *
   go_enter Tryz.func9,Tryz.ntmps9
   go_wp2_with fail
   refine cA.mono ?_
   rintro e w1 ⟨hb1,sl1,rfl,k1⟩
   clear cA y0 y1 y2 y3
   have cS:=sound_any (aroT t) sl1 (· < w1.heap.size) w1 (HGW.out w1 hb1).gl (fun b hb => hb) HTX.out k1
   rw [hS] at cS
   go_wp2_with fail
   refine cS.mono ?_
   rintro e w2 ⟨rfl,hb2⟩
   go_wp2
   go_ret2
   exact ⟨by rw [HE.out]; rfl,HB.out _ (hb1.trans (hb2.mono hb1.size))⟩
  | true =>
   have HE : Hid (exprP t = textR (puts ([],false) (tks quoteL 96 .exp t))):=by show _ = _; unfold exprP; rw [hS]; rfl
   have HW : Hid (Wr 22 t (tks quoteL 96 .exp t)):=(goodP leafP 96).exp t (fitN_of 96 t (aro_fit hS hX) hN) (aro_exp hS)
   clear hW hk hk0 hbx hX hN
   generalize hmm : w.heap.size = m at *
   go_enter Tryz.func9,Tryz.ntmps9
   go_wp2_with fail
   refine cA.mono ?_
   rintro e w1 ⟨hb1,sl1,rfl,k1⟩
   clear cA y0 y1 y2 y3
   have cS:=sound_any (aroT t) sl1 (· < w1.heap.size) w1 (HGW.out w1 hb1).gl (fun b hb => hb) HTX.out k1
   rw [hS] at cS
   go_wp2_with fail
   refine cS.mono ?_
   rintro e w2 ⟨rfl,hb2⟩
   clear cS k1
   have hb2':=hb1.trans (hb2.mono hb1.size)
   have hbA : Below W0.heap.size W0 (w2.alloc (.cells #[.pointer none,.slice none 0 0,.bool false] 41)):=hb2'.alloc hb2'.size _
   have HP : Hid (Pn W0.heap.size w2.heap.size ([],false) (w2.alloc (.cells #[.pointer none,.slice none 0 0,.bool false] 41))) :=
     .inl ⟨hb2'.size,.slice none 0 0,heap_alloc_new w2 _,World.ownsRowF_of (World.ownsRow_nil _ _ _ _),by simp [Value.ownBlock]⟩
   obtain ⟨W1,hW1⟩ : ∃ W,w2.alloc (.cells #[.pointer none,.slice none 0 0,.bool false] 41) = W:=⟨_,rfl⟩
   have hzz : W1.heap.size = w2.heap.size + 1:=by rw [← hW1]; simp
   rw [hW1] at HP hbA
   have cP:=HW.out W0.heap.size w2.heap.size _ W1 (.slice ao t.kids.length c) (HGB.out W1 hbA) HP.out hbA.size (HK.out W1 hbA)
   have hbx2:=HBX.out W1 hbA
   have y0 : W1.cell? ⟨m,0,none⟩ = some (.int .i64 t.kind):=by rw [Lib.cell_of_heap hbx2]; rfl
   have y1 : W1.cell? ⟨m,1,none⟩ = some (.string ⟨t.text.toArray⟩):=by rw [Lib.cell_of_heap hbx2]; rfl
   have y2 : W1.cell? ⟨m,2,none⟩ = some (.int .i64 t.num):=by rw [Lib.cell_of_heap hbx2]; rfl
   have y3 : W1.cell? ⟨m,3,none⟩ = some (.slice ao t.kids.length c):=by rw [Lib.cell_of_heap hbx2]; rfl
   have HBA:=Lib.hid hbA
   clear hbx2 hbA hb2' hb1 hb2
   go_wp2_with fail
   refine cP.mono ?_
   rintro e w3 ⟨rfl,h3,f3⟩
   have hz3:=f3.below.size
   have cT:=text_w W0.heap.size w2.heap.size _ w3 h3 (Nat.le_trans HBA.out.size hz3)
   have HF:=Lib.hid f3
   clear cP h3 f3 y0 y1 y2 y3
   go_wp2_with fail
   refine cT.mono ?_
   rintro e w4 ⟨rfl,hb4⟩
   have HB4:=Lib.hid hb4
   clear hb4 cT
   go_wp2
   go_ret2
   exact ⟨by rw [HE.out]; rfl,HB.out _ ((HBA.out.trans HF.out.below).trans HB4.out)⟩
end Go.Proofs.YtffnaknidofobaaGreatDoor

namespace Go.Proofs.YtffnaknidofobaaGreatDoor
open Go.RowKit
attribute [local go_sem ↓] Go.wp_at_zero Go.wp_at_succ
/-- The node by a way from another. -/
def wayT : Tr → List Nat → Option Tr
  | t,[] => some t
  | t,i :: ws => match t.kids[i]? with
    | some k => wayT k ws
    | none => none
theorem wayT_step {t u : Tr} {ws : List Nat} {j x : Nat} (hx : ws[j]? = some x) (h : wayT t (ws.drop j) = some u) : ∃ a,t.kids[x]? = some a ∧ wayT a (ws.drop (j + 1)) = some u:=by
 have hj : j < ws.length:=by
  rcases Nat.lt_or_ge j ws.length with h | h
  · exact h
  · rw [List.getElem?_eq_none h] at hx; cases hx
 rw [List.getElem?_eq_getElem hj] at hx
 cases hx
 rw [List.drop_eq_getElem_cons hj,wayT] at h
 cases e : t.kids[ws[j]]? with
 | none => rw [e] at h; cases h
 | some a => rw [e] at h; exact ⟨a,rfl,h⟩
theorem Lst.kid' {w : World} {S : Nat → Prop} {ks : List Tr} {ao : Option Addr} {n c j : Nat} {a : Tr} (hL : Lst w S ks (.slice ao n c)) (ha : ks[j]? = some a) (hS : ∀ b,S b → b < w.heap.size) :
    ∃ g o a0 n0 q0,ao = some ⟨g,o,none⟩ ∧ n = ks.length ∧ j < ks.length ∧ w.cell? ⟨g,o + j * 4,none⟩ = some (.int .i64 a.kind) ∧ w.cell? ⟨g,o + j * 4 + 1,none⟩ = some (.string ⟨a.text.toArray⟩) ∧ w.cell? ⟨g,o + j * 4 + 2,none⟩ = some (.int .i64 a.num) ∧ w.cell? ⟨g,o + j * 4 + 3,none⟩ = some (.slice a0 n0 q0) ∧ g < w.heap.size ∧ KT w S a (.slice a0 n0 q0):=by
  obtain ⟨sls,h1,h2⟩:=hL
  have hl : j < ks.length:=by
   rcases Nat.lt_or_ge j ks.length with h | h
   · exact h
   · rw [List.getElem?_eq_none h] at ha; cases ha
  rcases h1 with ⟨h0,ao',cap,e⟩ | ⟨g,o,cap,e,_,hg,hc⟩
  · omega
  · injection e with e1 e2 e3
    obtain ⟨sl,hs⟩ : ∃ sl,sls[j]? = some sl:=⟨_,List.getElem?_eq_getElem (by rw [h2.length]; exact hl)⟩
    have hk:=h2.get ha hs
    obtain ⟨a0,n0,q0,rfl⟩:=hk.slice
    obtain ⟨q0',q1,q2,q3⟩:=cellsOf_get ha hs
    exact ⟨g,o,a0,n0,q0,e1,e2,hl,hc _ _ q0',hc _ _ q1,hc _ _ q2,hc _ _ q3,hS g hg,hk⟩
/-- at's loop: the node that it has come to lies in its box. -/
structure AtI (S : Nat → Prop) (w W : World) (x : Tr) (ao : Option Addr) (n c : Nat) : Prop where
  bel : Below w.heap.size w W
  size : w.heap.size + 2 ≤ W.heap.size
  box : Box W w.heap.size
  res : Box W (w.heap.size + 1)
  c0 : W.cell? ⟨w.heap.size,0,none⟩ = some (.int .i64 x.kind)
  c1 : W.cell? ⟨w.heap.size,1,none⟩ = some (.string ⟨x.text.toArray⟩)
  c2 : W.cell? ⟨w.heap.size,2,none⟩ = some (.int .i64 x.num)
  c3 : W.cell? ⟨w.heap.size,3,none⟩ = some (.slice ao n c)
  kt : KT W S x (.slice ao n c)
theorem Below.drewN' {B : Nat} {w W : World} (h : Below B w W) (q : Nat) : Below B w (W.drewN q):=⟨h.os,h.tape,h.output,h.size,h.block⟩
theorem AtI.drewN {S : Nat → Prop} {w W : World} {x : Tr} {ao : Option Addr} {n c : Nat} (h : AtI S w W x ao n c) (q : Nat) : AtI S w (W.drewN q) x ao n c :=
  ⟨Below.drewN' h.bel q,h.size,h.box.of_block rfl,h.res.of_block rfl,h.c0,h.c1,h.c2,h.c3,h.kt.fr (fun _ _ => rfl) (fun _ h => h)⟩
set_option maxRecDepth 20000 in
set_option maxHeartbeats 4000000 in
theorem atW_any (ws : List Nat) (hws : ws.length ≤ 1000) (t u : Tr) (sl : Value) (S : Nat → Prop) (w : World) (hS : ∀ b,S b → b < w.heap.size) (hk : KT w S t sl) (fb fc : Nat) (hf : ∀ (i x : Nat),ws[i]? = some x → w.cell? ⟨fb,i,none⟩ = some (.int .i64 x) ∧ x ≤ 1000000) (hu : wayT t ws = some u) :
    Calls Tryz.prog 15 #[tv t sl,.slice (some ⟨fb,0,none⟩) ws.length fc] w fun e w' => ∃ sl',e = .returned (tv u sl') ∧ Below w.heap.size w w' ∧ KT w' S u sl':=by
  obtain ⟨ao,nn,c,rfl⟩:=hk.slice
  have HF:=Lib.hid hf
  have HU:=Lib.hid hu
  have hI0 : AtI S w ((w.alloc (.cells #[.int .i64 t.kind,.string ⟨t.text.toArray⟩,.int .i64 t.num,.slice ao nn c] 24)).alloc (.cells #[.int .i64 0,.string ⟨#[]⟩,.int .i64 0,.slice none 0 0] 24)) t ao nn c:=by
   have hb1:=(Below.refl w.heap.size w).alloc (Nat.le_refl _) (.cells #[.int .i64 t.kind,.string ⟨t.text.toArray⟩,.int .i64 t.num,.slice ao nn c] 24)
   have hb2:=hb1.alloc hb1.size (.cells #[.int .i64 0,.string ⟨#[]⟩,.int .i64 0,.slice none 0 0] 24)
   have hn : ∀ o,((w.alloc (.cells #[.int .i64 t.kind,.string ⟨t.text.toArray⟩,.int .i64 t.num,.slice ao nn c] 24)).alloc (.cells #[.int .i64 0,.string ⟨#[]⟩,.int .i64 0,.slice none 0 0] 24)).cell? ⟨w.heap.size,o,none⟩ = (w.alloc (.cells #[.int .i64 t.kind,.string ⟨t.text.toArray⟩,.int .i64 t.num,.slice ao nn c] 24)).cell? ⟨w.heap.size,o,none⟩:=fun o => World.cell?_of_block (Below.heap_alloc _ _ _ (by simp))
   refine ⟨hb2,by simp,(Box.new w _ _ _ _).of_block (Below.heap_alloc _ _ _ (by simp)),?_,?_,?_,?_,?_,hk.fr (fun b hb => hb2.block b (hS b hb)) (fun _ h => h)⟩
   · have:=Box.new (w.alloc (.cells #[.int .i64 t.kind,.string ⟨t.text.toArray⟩,.int .i64 t.num,.slice ao nn c] 24)) (.int .i64 0) (.string ⟨#[]⟩) (.int .i64 0) (.slice none 0 0)
     rwa [World.size_alloc] at this
   · rw [hn,World.cell?_alloc_new]; rfl
   · rw [hn,World.cell?_alloc_new]; rfl
   · rw [hn,World.cell?_alloc_new]; rfl
   · rw [hn,World.cell?_alloc_new]; rfl
  clear hf hu hk
  go_enter Tryz.func15,Tryz.ntmps15
  go_wp2_with fail
  go_loopw [5] (fun v wr => ∃ (j : Nat) (x : Tr) (ao : Option Addr) (n c : Nat),j ≤ ws.length ∧ v = .int .i64 j ∧ AtI S w wr x ao n c ∧ Hid (wayT x (ws.drop j) = some u)) (fun v _ => ws.length - (intOf v).toNat)
  case atStart => exact ⟨0,t,ao,nn,c,Nat.zero_le _,rfl,hI0,HU⟩
  case round =>
   clear hI0
   obtain ⟨j,x,ao,n,c,hj,rfl,hI,HX⟩:=hrel
   by_cases hlt : j < ws.length
   · obtain ⟨i,hi⟩ : ∃ i,ws[j]? = some i:=⟨_,List.getElem?_eq_getElem hlt⟩
     obtain ⟨hfc,hib⟩:=HF.out j i hi
     obtain ⟨a,ha,hau⟩:=wayT_step hi HX.out
     have hfl:=lt_of_cell hfc
     have hff:=(hI.bel.cell (p:=⟨fb,j,none⟩) hfl).trans hfc
     obtain ⟨g,o,a0,n0,q0,rfl,hne,hil,y0,y1,y2,y3,hg,hka⟩:=(Lst.kids hI.kt).kid' ha (fun b hb => Nat.lt_of_lt_of_le (hS b hb) hI.bel.size)
     have hin : i < n:=by omega
     have b3:=hI.c3
     have hge : decide ((i : Int) ≥ (n : Int)) = false:=by simp; omega
     clear hi hfc hne hil
     go_wp2_with fail
     go_quiet (fail)
     have hI2:=hI.drewN nq
     have z0 : (wr.drewN nq).cell? ⟨g,o + i * 4,none⟩ = some (.int .i64 a.kind):=y0
     have z1 : (wr.drewN nq).cell? ⟨g,o + i * 4 + 1,none⟩ = some (.string ⟨a.text.toArray⟩):=y1
     have z2 : (wr.drewN nq).cell? ⟨g,o + i * 4 + 2,none⟩ = some (.int .i64 a.num):=y2
     have z3 : (wr.drewN nq).cell? ⟨g,o + i * 4 + 3,none⟩ = some (.slice a0 n0 q0):=y3
     have zf : (wr.drewN nq).cell? ⟨fb,j,none⟩ = some (.int .i64 i):=hff
     have hg2 : g < (wr.drewN nq).heap.size:=hg
     have hka2 : KT (wr.drewN nq) S a (.slice a0 n0 q0):=hka.fr (fun _ _ => rfl) (fun _ h => h)
     clear y0 y1 y2 y3 hff hg hka b3 hI
     generalize wr.drewN nq = w2 at *
     have hI3:=hI2.drewN 1
     have b3:=hI2.c3
     obtain ⟨u0,u1,u2,u3,b0',b1',b2',b3',bf⟩:=hI2.box.open
     have bf0:=bf 0
     have bf1:=bf 1
     have bf2:=bf 2
     have bf3:=bf 3
     clear bf
     go_wp2_with fail
     go_region
     obtain ⟨Wf,hWf,hput,hbx,e0,e1,e2,e3⟩:=putN4 hI2.box (.int .i64 a.kind) (.string ⟨a.text.toArray⟩) (.int .i64 a.num) (.slice a0 n0 q0)
     rw [hWf]
     have hIn : AtI S w Wf a a0 n0 q0:=⟨below_put hI2.bel hput (Nat.le_refl _),by rw [hput.size]; exact hI2.size,hbx,hI2.res.of_block (hput.block _ (by omega)),e0,e1,e2,e3,hka2.fr (fun b hb => hput.block b (by have:=hS b hb; omega)) (fun _ h => h)⟩
     have hIn1:=hIn.drewN 1
     have HY:=Lib.hid hau
     clear hIn hbx e0 e1 e2 e3 hput hWf hI2 hI3 hau ha
     have hd : AtI S w Wf.drew a a0 n0 q0:=hIn1
     clear hIn1
     generalize Wf.drew = w3 at *
     go_wp2
     go_roundw
     case rel => exact ⟨j + 1,a,a0,n0,q0,by omega,by go_num,hd,HY⟩
     case measure => simp [intOf]; omega
   · obtain ⟨d0,d1,d2,d3⟩:=And.intro hI.c0 (And.intro hI.c1 (And.intro hI.c2 hI.c3))
     have hxu : x = u:=by
      have:=HX.out
      rw [List.drop_eq_nil_of_le (by omega)] at this
      simpa [wayT] using this
     subst hxu
     obtain ⟨u0,u1,u2,u3,b0,b1,b2,b3,bf⟩:=hI.res.open
     have bf0:=bf 0
     have bf1:=bf 1
     have bf2:=bf 2
     have bf3:=bf 3
     clear bf
     go_wp2
     obtain ⟨Wf,hWf,hput,_,e0,e1,e2,e3⟩:=putN4 hI.res (.int .i64 x.kind) (.string ⟨x.text.toArray⟩) (.int .i64 x.num) (.slice ao n c)
     rw [hWf]
     exact bodyPost_ret (v:=.agg #[.int .i64 x.kind,.string ⟨x.text.toArray⟩,.int .i64 x.num,.slice ao n c]) (by simp [results,Tryz.results15,go_sem,e0,e1,e2,e3]) rfl ⟨_,rfl,below_put hI.bel hput (by omega),hI.kt.fr (fun b hb => hput.block b (by have:=hS b hb; omega)) (fun _ h => h)⟩
end Go.Proofs.YtffnaknidofobaaGreatDoor

namespace Go.Proofs.YtffnaknidofobaaGreatDoor
open Go.RowKit
attribute [local go_sem ↓] Go.wp_at_zero Go.wp_at_succ
theorem textP_sound {t : Tr} (hs : soundT t = true) : textP t = ([],4) ∨ (textP t).2 = 0 ∧ (textP t).1.length ≤ 65536:=by
 unfold textP textR
 rw [if_pos hs]
 split
 · exact .inl rfl
 · exact .inr ⟨rfl,by simp only; omega⟩
theorem parseP_none {l : List UInt8} {a : Nat} {er : Int} (h : parseP l = (none,a,er)) : er ≠ 0:=by
 unfold parseP at h
 split at h
 · rename_i h0
   injection h with _ h
   injection h with _ h
   rw [← h]; exact h0
 · split at h
   · injection h with _ h
     injection h with _ h
     rw [← h]; decide
   · split at h
     · cases h
     · injection h with _ h
       injection h with _ h
       rw [← h]; decide
set_option maxRecDepth 20000 in
set_option maxHeartbeats 800000 in
theorem once_any (s : ByteArray) (hs : s.size ≤ maxLen) (w : World) (hG : Gw w.heap.size w) : Calls Tryz.prog 5 #[.string s] w fun e w' => e = .returned (.bool true) ∧ Below w.heap.size w w':=by
 have c1:=parse_any s hs w hG.gl
 have HG:=Lib.hid hG
 rcases hp : parseP s.data.toList with ⟨_ | t,a,er⟩
 · rw [hp] at c1
   have he:=parseP_none hp
   have he2 : (er != 0) = true:=by simpa using he
   clear hp
   go_enter Tryz.func5,Tryz.ntmps5
   go_wp2_with fail
   refine c1.mono ?_
   rintro e w1 ⟨hb1,rfl⟩
   clear c1
   obtain ⟨W,hW⟩ : ∃ W,w1.alloc (.cells #[.int .i64 0,.string ⟨#[]⟩,.int .i64 0,.slice none 0 0] 24) = W:=⟨_,rfl⟩
   have hB : Below w.heap.size w W:=hb1.trans ((hW ▸ (Below.refl _ _).alloc (Nat.le_refl _) _ : Below w1.heap.size w1 W).mono hb1.size)
   have c2:=awake_any W ((hG.later hB).up hB.size)
   subst hW
   go_wp2_with fail
   refine c2.mono ?_
   rintro e w2 ⟨rfl,hb2⟩
   have hB2:=hB.trans (hb2.mono hB.size)
   clear c2
   have c3:=awake_any w2 ((HG.out.later hB2).up hB2.size)
   go_wp2_with fail
   refine c3.mono ?_
   rintro e w3 ⟨rfl,hb3⟩
   clear c3
   go_wp2
   go_ret
   exact ⟨rfl,hB2.trans (hb3.mono hB2.size)⟩
 · obtain ⟨_,_,ha,he,_⟩:=parseP_some hp
   subst ha he
   rw [hp] at c1
   obtain ⟨hS,hN⟩:=parse_good hp
   have hX:=sound_tx hS
   have HTB:=Lib.hid (text_back hS hN)
   have HT : Hid (textP t = ([],4) ∨ (textP t).2 = 0 ∧ (textP t).1.length ≤ 65536):=textP_sound hS
   have cT:=fun W sl (hg : Gw W.heap.size W) (hk : KT W (· < W.heap.size) t sl) => printText_any t sl W hg hX hN hk
   clear hp hS hN hX
   go_enter Tryz.func5,Tryz.ntmps5
   go_wp2_with fail
   refine c1.mono ?_
   rintro e w1 ⟨hb1,sl,rfl,hk⟩
   clear c1
   have hz1:=hb1.size
   obtain ⟨ao,c,rfl⟩:=(Lst.kids hk).slice
   obtain ⟨W,hW⟩ : ∃ W,w1.alloc (.cells #[.int .i64 t.kind,.string ⟨t.text.toArray⟩,.int .i64 t.num,.slice ao t.kids.length c] 24) = W:=⟨_,rfl⟩
   have hbW : Below w1.heap.size w1 W:=hW ▸ (Below.refl _ _).alloc (Nat.le_refl _) _
   have hzW:=hbW.size
   have hB : Below w.heap.size w W:=hb1.trans (hbW.mono hz1)
   have hbx : W.heap[w1.heap.size]? = some (nbx t (.slice ao t.kids.length c)):=by rw [← hW]; exact heap_alloc_new w1 _
   have hk1 : KT W (· < W.heap.size) t (.slice ao t.kids.length c):=hk.fr (fun b hb => hbW.block b hb.2) (fun _ h => Nat.lt_of_lt_of_le h.2 hzW)
   have hlt : w1.heap.size < W.heap.size:=by rw [← hW]; simp
   have c2:=awake_any W ((hG.later hB).up hB.size)
   clear hk
   subst hW
   go_wp2_with fail
   refine c2.mono ?_
   rintro e w2 ⟨rfl,hb2⟩
   clear c2
   have hB2:=hB.trans (hb2.mono hB.size)
   have hbx2 : w2.heap[w1.heap.size]? = some (nbx t (.slice ao t.kids.length c)):=(hb2.block _ hlt).trans hbx
   have y0 : w2.cell? ⟨w1.heap.size,0,none⟩ = some (.int .i64 t.kind):=by rw [Lib.cell_of_heap hbx2]; rfl
   have y1 : w2.cell? ⟨w1.heap.size,1,none⟩ = some (.string ⟨t.text.toArray⟩):=by rw [Lib.cell_of_heap hbx2]; rfl
   have y2 : w2.cell? ⟨w1.heap.size,2,none⟩ = some (.int .i64 t.num):=by rw [Lib.cell_of_heap hbx2]; rfl
   have y3 : w2.cell? ⟨w1.heap.size,3,none⟩ = some (.slice ao t.kids.length c):=by rw [Lib.cell_of_heap hbx2]; rfl
   have c3:=cT w2 (.slice ao t.kids.length c) ((hG.later hB2).up hB2.size) (hk1.fr (fun b hb => hb2.block b hb) (fun _ h => Nat.lt_of_lt_of_le h hb2.size))
   clear hk1 hbx hbx2
   generalize hTP : textP t = tp at *
   obtain ⟨tx,te⟩:=tp
   rcases HT.out with h4 | ⟨h0,hl⟩
   · injection h4 with h41 h42
     subst h41 h42
     go_wp2_with fail
     refine c3.mono ?_
     rintro e w3 ⟨rfl,hb3⟩
     go_wp2
     go_ret
     exact ⟨rfl,hB2.trans (hb3.mono hB2.size)⟩
   · simp only at h0 hl
     subst h0
     go_wp2_with fail
     refine c3.mono ?_
     rintro e w3 ⟨rfl,hb3⟩
     clear c3 y0 y1 y2 y3
     have hB3:=hB2.trans (hb3.mono hB2.size)
     have c4:=parse_any ⟨tx.toArray⟩ (by unfold maxLen; show tx.toArray.size ≤ _; simp; omega) w3 (hG.later hB3).gl
     rw [show (ByteArray.mk tx.toArray).data.toList = tx from by simp] at c4
     rcases HTB.out trivial with hp | ⟨a,hp,ha⟩
     · rw [hp] at c4
       go_wp2_with fail
       refine c4.mono ?_
       rintro e w4 ⟨hb4,sl4,rfl,hk4⟩
       clear c4
       obtain ⟨ao4,d,rfl⟩:=(Lst.kids hk4).slice
       obtain ⟨V,hV⟩ : ∃ V,w4.alloc (.cells #[.int .i64 t.kind,.string ⟨t.text.toArray⟩,.int .i64 t.num,.slice ao4 t.kids.length d] 24) = V:=⟨_,rfl⟩
       have hbV : Below w4.heap.size w4 V:=hV ▸ (Below.refl _ _).alloc (Nat.le_refl _) _
       have hB4:=hB3.trans (hb4.mono hB3.size)
       have hB5:=hB4.trans (hbV.mono hB4.size)
       have c5:=cT V (.slice ao4 t.kids.length d) ((hG.later hB5).up hB5.size) (hk4.fr (fun b hb => hbV.block b hb.2) (fun _ h => Nat.lt_of_lt_of_le h.2 hbV.size))
       subst hV
       go_wp2_with fail
       refine c5.mono ?_
       rintro e w5 ⟨rfl,hb5⟩
       go_wp2
       go_ret
       exact ⟨by simp,hB5.trans (hb5.mono hB5.size)⟩
     · rw [hp] at c4
       go_wp2_with fail
       refine c4.mono ?_
       rintro e w4 ⟨hb4,rfl⟩
       clear c4
       go_wp2
       go_ret
       have hB4:=hB3.trans (hb4.mono hB3.size)
       exact ⟨by simp,hB4.alloc hB4.size _⟩
end Go.Proofs.YtffnaknidofobaaGreatDoor
