/-
  For every text the law PrintOnce returns true and leaves its argument as it was: the text of a program's text is its own text, or one of them is too large. Conditions: strconv's two sentinel errors and the listed tables as their initialisers lay them (tied); the pruned copy of the project.
-/
import Derived.Test.YtffnaknidofobaaGreatDoorRows
import Derived.Test.YtffnaknidofobaaGreatDoorNumJt
import Derived.ProofKit
import Derived.LaidMore
import Derived.OpenShut
import Derived.MakeChecks
import Derived.Stop.LaidErr
import Derived.Stop.Joined
import Derived.Deep.DeepHandedRow
import Derived.Deep.DeepWitnessRowRef
import Derived.Test.YtffnaknidofobaaGreatDoorSndEJt
import Derived.Lib.LaidTab
import Derived.Test.YtffnaknidofobaaGreatDoorPmNJt
import Derived.Test.YtffnaknidofobaaGreatDoorPrPJt
import Derived.Test.YtffnaknidofobaaGreatDoorCards
import Derived.Test.YtffnaknidofobaaGreatDoorTie
namespace Go.Proofs.YtffnaknidofobaaGreatDoor
open Go.ChangeShapes Go.WideShapes Go.ChangeAt Go.RowKit
set_option maxRecDepth 20000 in
theorem own : ownKnob Tryz.prog.godebug = none:=by kernel_rfl
set_option maxRecDepth 20000 in
theorem gSyn : Tryz.prog.globalNamed "strconv.ErrSyntax" = some 1 := by kernel_rfl
set_option maxRecDepth 20000 in
theorem gRng : Tryz.prog.globalNamed "strconv.ErrRange" = some 2 := by kernel_rfl
set_option maxRecDepth 20000 in
theorem tSyn : (Tryz.prog.globals[1]?).map (·.type) = some 113:=by kernel_rfl
set_option maxRecDepth 20000 in
theorem tRng : (Tryz.prog.globals[2]?).map (·.type) = some 113:=by kernel_rfl
/-- The list that every row of this seat bears. -/
def laid5 : List (String × DataW Unit):=Rows.printTellsRow.laid
set_option maxRecDepth 20000 in
theorem iface_cell {n nm : String} {d : DataW Unit} {r : List (String × DataW Unit)} {W : World} {g : Nat} (h : laidMet Tryz.prog ((n,.iface nm d) :: r) W) (hg : Tryz.prog.globalNamed n = some g) (ht : (Tryz.prog.globals[g]?).map (·.type) = some 113) :
    ∃ u v,W.cell? ⟨g,0,none⟩ = some (.iface u v):=by
  obtain ⟨ps,⟨g0,t0,cs0,f0,p0,q0,hg0,ht0,hv0,hd0,_,e0⟩,_,_⟩:=h
  obtain rfl:=Option.some.inj (hg.symm.trans hg0)
  obtain rfl:=Option.some.inj (ht.symm.trans ht0)
  obtain ⟨f1,u,v,hcs,_⟩:=iface_of_trod Tryz.underlying113 hd0
  have:=World.var?_cell hg0 hv0 0
  rw [Array.eq_one_of_toList hcs] at this
  exact ⟨u,v,by simpa using this⟩
set_option maxRecDepth 20000 in
theorem gl_of_laid {W : World} (h : laidMetH Tryz.prog laid5 W) : Gl W:=by
 rw [MakeChecks.laidMetH_plain _ _ _ (by kernel_rfl)] at h
 have h3 : laidMet Tryz.prog (("strconv.ErrRange", Rows.laid_strconv_ErrRange) :: ("strconv.ErrSyntax", Rows.laid_strconv_ErrSyntax) :: []) W := h.tail.tail.tail
 have h4 : laidMet Tryz.prog (("strconv.ErrSyntax", Rows.laid_strconv_ErrSyntax) :: []) W := h3.tail
 obtain ⟨u1,v1,c1⟩:=iface_cell h3 gRng tRng
 obtain ⟨u0,v0,c0⟩:=iface_cell h4 gSyn tSyn
 exact ⟨⟨u0,v0,c0⟩,⟨u1,v1,c1⟩,World.block_lt_of_cell? _ _ c1⟩
/-- The door's own heap meets the list. -/
theorem door_met (os : Os) (args : Array Value) : laidMetH Tryz.prog laid5 ((World.doorLaid Tryz.prog 62 os).forCall (fun _ _ => 0) ⟨#[],args,[]⟩).memory :=
  laidMetH_of_parts3 (fuel:=8) (laidMet_of_run' 8 (by kernel_rfl) (by kernel_rfl)) (by kernel_rfl) (by kernel_rfl)
end Go.Proofs.YtffnaknidofobaaGreatDoor

namespace Go.Proofs.YtffnaknidofobaaGreatDoor
open Go.ChangeShapes Go.WideShapes Go.ChangeAt Go.RowKit
set_option maxRecDepth 20000 in
theorem gPow : Tryz.prog.globalNamed "internal/strconv.uint64pow10" = some 0 := by kernel_rfl
set_option maxRecDepth 20000 in
theorem tPow : (Tryz.prog.globals[0]?).map (·.type) = some 159:=by kernel_rfl
set_option maxRecDepth 20000 in
theorem gBru : Tryz.prog.globalNamed "math/bits.deBruijn64tab" = some 5 := by kernel_rfl
set_option maxRecDepth 20000 in
theorem gw_of_laid {W : World} (h : laidMetH Tryz.prog laid5 W) : Gw W.heap.size W:=by
 have hG:=gl_of_laid h
 rw [MakeChecks.laidMetH_plain _ _ _ (by kernel_rfl)] at h
 have h2 : laidMet Tryz.prog (("math/bits.deBruijn64tab", Rows.laid_math_bits_deBruijn64tab) :: ("internal/strconv.uint64pow10", Rows.laid_internal_strconv_uint64pow10) :: ("strconv.ErrRange", Rows.laid_strconv_ErrRange) :: ("strconv.ErrSyntax", Rows.laid_strconv_ErrSyntax) :: []) W := h.tail
 have h3 : laidMet Tryz.prog (("internal/strconv.uint64pow10", Lib.tabData .u64 Lib.pow10Tab) :: ("strconv.ErrRange", Rows.laid_strconv_ErrRange) :: ("strconv.ErrSyntax", Rows.laid_strconv_ErrSyntax) :: []) W := h2.tail
 refine ⟨hG,Lib.tabIs_of_head gPow tPow Tryz.underlying159 Tryz.underlying111 (by kernel_rfl) (by kernel_rfl) h3,?_⟩
 obtain ⟨ps,⟨g',t',cs,fuel,p,q,hg',ht',hvar,hd,_,_⟩,_⟩:=h2
 unfold World.var? at hvar
 rw [gBru] at hvar
 rcases Nat.lt_or_ge 5 W.heap.size with h5 | h5
 · exact h5
 · have : W.heap[5]? = none:=Array.getElem?_eq_none h5
   simp [this] at hvar
end Go.Proofs.YtffnaknidofobaaGreatDoor

namespace Go.Proofs.YtffnaknidofobaaGreatDoor
open Go.RowKit
attribute [local go_sem ↓] Go.wp_at_zero Go.wp_at_succ
theorem Gw.up {B B' : Nat} {w : World} (h : Gw B w) (hB : B ≤ B') : Gw B' w:=⟨h.gl,h.tab,Nat.le_trans h.le hB⟩
def awT : Tr:=.mk 1 [] 0 [.mk 4 [109,97,105,110] 0 [.mk 7 [] 0 [],.mk 20 [] 0 [.mk 24 [] 0 [.mk 51 [] 0 [.mk 44 [112,114,105,110,116] 0 [],.mk 40 [] 1 []]]]]]
theorem awP : parseP [102,117,110,99,32,109,97,105,110,40,41,123,112,114,105,110,116,40,49,41,59,125] = (some awT,0,0):=by kernel_rfl
theorem awX : ∀ n,txtT n awT:=by
 intro n
 rcases n with _ | _ | _ | _ | _ | _ | _ | n <;> simp [txtT,awT,Tr.text,Tr.kids,maxLen]
theorem awS : textP awT = ([102,117,110,99,32,109,97,105,110,32,40,32,41,32,123,10,112,114,105,110,116,32,40,32,49,32,41,32,59,10,125,10],0):=by decide +kernel
set_option maxRecDepth 20000 in
set_option maxHeartbeats 1600000 in
theorem awake_any (w : World) (hG : Gw w.heap.size w) : Calls Tryz.prog 11 #[] w fun e w' => e = .returned (.bool true) ∧ Below w.heap.size w w':=by
 have c1:=parse_any ⟨#[102,117,110,99,32,109,97,105,110,40,41,123,112,114,105,110,116,40,49,41,59,125]⟩ (by decide) w hG.gl
 rw [show (ByteArray.mk #[102,117,110,99,32,109,97,105,110,40,41,123,112,114,105,110,116,40,49,41,59,125]).data.toList = [102,117,110,99,32,109,97,105,110,40,41,123,112,114,105,110,116,40,49,41,59,125] from rfl,awP] at c1
 go_enter Tryz.func11,Tryz.ntmps11
 go_wp2_with fail
 refine c1.mono ?_
 rintro e w1 ⟨hb1,sl,rfl,hk⟩
 clear c1
 have hz1:=hb1.size
 obtain ⟨ao,c,rfl⟩:=(Lst.kids hk).slice
 obtain ⟨W,hW⟩ : ∃ W,w1.alloc (.cells #[.int .i64 1,.string ⟨awT.text.toArray⟩,.int .i64 awT.num,.slice ao awT.kids.length c] 24) = W:=⟨_,rfl⟩
 have hbW : Below w1.heap.size w1 W:=hW ▸ (Below.refl _ _).alloc (Nat.le_refl _) _
 have hzW:=hbW.size
 have hB : Below w.heap.size w W:=hb1.trans (hbW.mono hz1)
 have c2:=printText_any awT (.slice ao awT.kids.length c) W ((hG.later hB).up hB.size) awX (parse_good awP).2 (hk.fr (fun b hb => hbW.block b hb.2) (fun _ h => Nat.lt_of_lt_of_le h.2 hzW))
 rw [awS] at c2
 clear hk
 subst hW
 go_wp2_with fail
 refine c2.mono ?_
 rintro e w2 ⟨rfl,hb2⟩
 clear c2
 go_wp2
 go_ret
 exact ⟨rfl,hB.trans (hb2.mono hB.size)⟩
end Go.Proofs.YtffnaknidofobaaGreatDoor

namespace Go.Proofs.YtffnaknidofobaaGreatDoor
open Go.RowKit
attribute [local go_sem ↓] Go.wp_at_zero Go.wp_at_succ
theorem textP_sound {t : Tr} (hs : soundT t = true) : textP t = ([],4) ∨ (textP t).2 = 0 ∧ (textP t).1.length ≤ 65536:=by
 unfold textP textR
 rw [if_pos hs]
 split
 · exact .inl rfl
 · exact .inr ⟨rfl,by simp only; omega⟩
theorem parseP_none {l : List UInt8} {a : Nat} {er : Int} (h : parseP l = (none,a,er)) : er ≠ 0:=by
 rcases (parse_fault h).2 with h | h | h <;> omega
set_option maxRecDepth 20000 in
set_option maxHeartbeats 800000 in
theorem once_any (s : ByteArray) (hs : s.size ≤ maxLen) (w : World) (hG : Gw w.heap.size w) : Calls Tryz.prog 5 #[.string s] w fun e w' => e = .returned (.bool true) ∧ Below w.heap.size w w':=by
 have c1:=parse_any s hs w hG.gl
 have HG:=Lib.hid hG
 rcases hp : parseP s.data.toList with ⟨_ | t,a,er⟩
 · rw [hp] at c1
   have he:=parseP_none hp
   have he2 : (er != 0) = true:=by simpa using he
   clear hp
   go_enter Tryz.func5,Tryz.ntmps5
   go_wp2_with fail
   refine c1.mono ?_
   rintro e w1 ⟨hb1,rfl⟩
   clear c1
   obtain ⟨W,hW⟩ : ∃ W,w1.alloc (.cells #[.int .i64 0,.string ⟨#[]⟩,.int .i64 0,.slice none 0 0] 24) = W:=⟨_,rfl⟩
   have hB : Below w.heap.size w W:=hb1.trans ((hW ▸ (Below.refl _ _).alloc (Nat.le_refl _) _ : Below w1.heap.size w1 W).mono hb1.size)
   have c2:=awake_any W ((hG.later hB).up hB.size)
   subst hW
   go_wp2_with fail
   refine c2.mono ?_
   rintro e w2 ⟨rfl,hb2⟩
   have hB2:=hB.trans (hb2.mono hB.size)
   clear c2
   have c3:=awake_any w2 ((HG.out.later hB2).up hB2.size)
   go_wp2_with fail
   refine c3.mono ?_
   rintro e w3 ⟨rfl,hb3⟩
   clear c3
   go_wp2
   go_ret
   exact ⟨rfl,hB2.trans (hb3.mono hB2.size)⟩
 · obtain ⟨_,_,ha,he,_⟩:=parseP_some hp
   subst ha he
   rw [hp] at c1
   obtain ⟨hS,hN⟩:=parse_good hp
   have hX:=sound_tx hS
   have HTB:=Lib.hid (text_back hS hN)
   have HT : Hid (textP t = ([],4) ∨ (textP t).2 = 0 ∧ (textP t).1.length ≤ 65536):=textP_sound hS
   have cT:=fun W sl (hg : Gw W.heap.size W) (hk : KT W (· < W.heap.size) t sl) => printText_any t sl W hg hX hN hk
   clear hp hS hN hX
   go_enter Tryz.func5,Tryz.ntmps5
   go_wp2_with fail
   refine c1.mono ?_
   rintro e w1 ⟨hb1,sl,rfl,hk⟩
   clear c1
   have hz1:=hb1.size
   obtain ⟨ao,c,rfl⟩:=(Lst.kids hk).slice
   obtain ⟨W,hW⟩ : ∃ W,w1.alloc (.cells #[.int .i64 t.kind,.string ⟨t.text.toArray⟩,.int .i64 t.num,.slice ao t.kids.length c] 24) = W:=⟨_,rfl⟩
   have hbW : Below w1.heap.size w1 W:=hW ▸ (Below.refl _ _).alloc (Nat.le_refl _) _
   have hzW:=hbW.size
   have hB : Below w.heap.size w W:=hb1.trans (hbW.mono hz1)
   have hbx : W.heap[w1.heap.size]? = some (nbx t (.slice ao t.kids.length c)):=by rw [← hW]; exact heap_alloc_new w1 _
   have hk1 : KT W (· < W.heap.size) t (.slice ao t.kids.length c):=hk.fr (fun b hb => hbW.block b hb.2) (fun _ h => Nat.lt_of_lt_of_le h.2 hzW)
   have hlt : w1.heap.size < W.heap.size:=by rw [← hW]; simp
   have c2:=awake_any W ((hG.later hB).up hB.size)
   clear hk
   subst hW
   go_wp2_with fail
   refine c2.mono ?_
   rintro e w2 ⟨rfl,hb2⟩
   clear c2
   have hB2:=hB.trans (hb2.mono hB.size)
   have hbx2 : w2.heap[w1.heap.size]? = some (nbx t (.slice ao t.kids.length c)):=(hb2.block _ hlt).trans hbx
   have y0 : w2.cell? ⟨w1.heap.size,0,none⟩ = some (.int .i64 t.kind):=by rw [Lib.cell_of_heap hbx2]; rfl
   have y1 : w2.cell? ⟨w1.heap.size,1,none⟩ = some (.string ⟨t.text.toArray⟩):=by rw [Lib.cell_of_heap hbx2]; rfl
   have y2 : w2.cell? ⟨w1.heap.size,2,none⟩ = some (.int .i64 t.num):=by rw [Lib.cell_of_heap hbx2]; rfl
   have y3 : w2.cell? ⟨w1.heap.size,3,none⟩ = some (.slice ao t.kids.length c):=by rw [Lib.cell_of_heap hbx2]; rfl
   have c3:=cT w2 (.slice ao t.kids.length c) ((hG.later hB2).up hB2.size) (hk1.fr (fun b hb => hb2.block b hb) (fun _ h => Nat.lt_of_lt_of_le h hb2.size))
   clear hk1 hbx hbx2
   generalize hTP : textP t = tp at *
   obtain ⟨tx,te⟩:=tp
   rcases HT.out with h4 | ⟨h0,hl⟩
   · injection h4 with h41 h42
     subst h41 h42
     go_wp2_with fail
     refine c3.mono ?_
     rintro e w3 ⟨rfl,hb3⟩
     go_wp2
     go_ret
     exact ⟨rfl,hB2.trans (hb3.mono hB2.size)⟩
   · simp only at h0 hl
     subst h0
     go_wp2_with fail
     refine c3.mono ?_
     rintro e w3 ⟨rfl,hb3⟩
     clear c3 y0 y1 y2 y3
     have hB3:=hB2.trans (hb3.mono hB2.size)
     have c4:=parse_any ⟨tx.toArray⟩ (by unfold maxLen; show tx.toArray.size ≤ _; simp; omega) w3 (hG.later hB3).gl
     rw [show (ByteArray.mk tx.toArray).data.toList = tx from by simp] at c4
     rcases HTB.out trivial with hp | ⟨a,hp,ha⟩
     · rw [hp] at c4
       go_wp2_with fail
       refine c4.mono ?_
       rintro e w4 ⟨hb4,sl4,rfl,hk4⟩
       clear c4
       obtain ⟨ao4,d,rfl⟩:=(Lst.kids hk4).slice
       obtain ⟨V,hV⟩ : ∃ V,w4.alloc (.cells #[.int .i64 t.kind,.string ⟨t.text.toArray⟩,.int .i64 t.num,.slice ao4 t.kids.length d] 24) = V:=⟨_,rfl⟩
       have hbV : Below w4.heap.size w4 V:=hV ▸ (Below.refl _ _).alloc (Nat.le_refl _) _
       have hB4:=hB3.trans (hb4.mono hB3.size)
       have hB5:=hB4.trans (hbV.mono hB4.size)
       have c5:=cT V (.slice ao4 t.kids.length d) ((hG.later hB5).up hB5.size) (hk4.fr (fun b hb => hbV.block b hb.2) (fun _ h => Nat.lt_of_lt_of_le h.2 hbV.size))
       subst hV
       go_wp2_with fail
       refine c5.mono ?_
       rintro e w5 ⟨rfl,hb5⟩
       go_wp2
       go_ret
       exact ⟨by simp,hB5.trans (hb5.mono hB5.size)⟩
     · rw [hp] at c4
       go_wp2_with fail
       refine c4.mono ?_
       rintro e w4 ⟨hb4,rfl⟩
       clear c4
       go_wp2
       go_ret
       have hB4:=hB3.trans (hb4.mono hB3.size)
       exact ⟨by simp,hB4.alloc hB4.size _⟩
end Go.Proofs.YtffnaknidofobaaGreatDoor

namespace Go.Proofs.YtffnaknidofobaaGreatDoor.printOnceProof
open Go.ChangeShapes Go.WideShapes Go.ChangeAt Go.RowKit
open Go.ChangeMaps (open_string shut_string)
set_option maxRecDepth 100000 in
theorem contract (H : Type) (enc : TypeId × Value → H) (W : World) (base : Nat) (args : Array Value) (ds gs : List (DataW H)) (before : List MemPlace)
    (hval : ∀ (j : Nat) t v,Tryz.f5.params[j]? = some t → args[j]? = some v → Value.okWide Tryz.prog W .any base t v)
    (hW : DataW.Whole enc Tryz.prog Tryz.f5.params.toList Rows.printOnceSpec.vars false W args.toList ds gs before) (hL : laidMetH Tryz.prog laid5 W) :
    Calls Tryz.prog 5 args W fun e W' => ∃ v,e = .returned v ∧ Rows.printOnceSpec.post enc Tryz.prog Tryz.f5 false true false false W args v W':=by
  have hW':=hW
  obtain ⟨p,q,hA0,hV,rfl,hfz,hnd⟩:=hW
  have hA : DataW.TrodAll enc Tryz.prog W 0 (fun _ => true) true Tryz.f5.params.toList args.toList ds p:=hA0
  rw [Tryz.params5] at hA hval
  obtain ⟨v0,vs0,d0,ds0,p0,q0,hargs,rfl,rfl,h0,r0⟩:=trodAll_cons hA
  obtain ⟨rfl,rfl,rfl⟩:=trodAll_nil r0
  obtain rfl : args = #[v0]:=by cases args; simp_all
  obtain ⟨rfl,rfl⟩:=trodVars_none hV
  obtain ⟨s,rfl,rfl,rfl,hs⟩:=open_string Tryz.underlying9 (hval 0 9 v0 rfl rfl) h0
  clear hA0
  simp only [List.append_nil] at hW'
  refine (once_any s hs W (gw_of_laid hL)).mono fun e W' ⟨he,hb⟩ => ?_
  subst he
  exact ⟨_,rfl,_,_,_,[],[],[],hW',(trodAll_cons_mk (shut_bool Tryz.underlying4 _) trodAll_mk0),(trodAll_cons_mk (shut_string Tryz.underlying9 hs) trodAll_mk0),rfl,hb.frame _,fun h => by cases h⟩
theorem reads (os : Os) {H : Type} (enc : TypeId × Value → H) : ∃ places,DataW.whole enc Tryz.prog ((World.doorLaid Tryz.prog 62 os).forCall (fun _ _ => 0) ⟨#[],#[.string .empty],[]⟩).memory Tryz.f5.params.toList Rows.printOnceSpec.vars false (#[.string .empty] : Array Value).toList 8 = some ([.lit (.string [])],[],places) :=
  ⟨[],by kernel_rfl⟩
set_option maxRecDepth 100000 in
theorem lifted (os : Os) (started : os.Started) (H : Type) (enc : TypeId × Value → H) (F : Stop.Interp) :
    ReturnsInHanded {} Tryz.checked os 5 .any ((OpenSpec.ofChange Rows.printOnceSpec).preRow enc Tryz.prog Tryz.f5 Rows.printOnceRow.domain false Rows.printOnceRow.laid) (((OpenSpec.ofChange Rows.printOnceSpec).at F).post enc Tryz.prog Tryz.f5 false true false false):=by
  obtain ⟨places,hx⟩:=reads os enc
  refine returnsInHanded_of_row (C:=Tryz.checked) (s:=OpenSpec.ofChange Rows.printOnceSpec) own started (by kernel_rfl) Tryz.func5
    (witness_row_atRef (enc:=enc) (C:=Tryz.checked) false (World.doorLaid Tryz.prog 62 os) #[.string .empty] rfl (by kernel_rfl) (by kernel_rfl) (by kernel_rfl)
      (OpenSpec.preRow_of_cond 8 hx (by kernel_rfl) (fun k hk => by cases hk) (by kernel_rfl) (door_met os _))) ?_
  intro W base args ds gs before hval hW _ _ _ hL _ _
  exact contract H enc W base args ds gs before hval hW hL
theorem said : Rows.PrintOnceSaid :=
  OpenClaim.holds_of_cond 5 Tryz.f5 rfl rfl rfl rfl rfl rfl rfl ⟨rfl,rfl,rfl,rfl,rfl⟩ rfl rfl rfl rfl rfl (by kernel_rfl) Tryz.func5 (by kernel_rfl)
    (of_decide_eq_true (by kernel_rfl)) (by unfold Func.isWrapper; first | (rw [if_pos (by decide +kernel)]; kernel_rfl) | (rw [if_neg (by decide +kernel)]; exact ⟨rfl,rfl⟩))
    (fun os started H enc _ F => by rw [OpenClaim.pre_eq_preRow]; exact lifted os started H enc F)
theorem plain (f : FuncId) (fn : Func) (hf : Tryz.pinned.checked.prog.funcNamed "halyard/halyardlaw03.PrintOnce" = some f) (hfn : Tryz.pinned.checked.prog.funcs[f]? = some fn) :
    true = Tryz.pinned.checked.prog.looks [] ∧ ∀ (j : Nat) t,fn.params[j]? = some t → Tryz.pinned.checked.prog.wantsStandIn t = false:=by
  obtain rfl : f = 5 := Option.some.inj ((show Tryz.prog.funcNamed "halyard/halyardlaw03.PrintOnce" = some 5 by kernel_rfl).symm.trans hf) |>.symm
  obtain rfl : fn = Tryz.f5:=(Option.some.inj (Tryz.func5.symm.trans hfn)).symm
  refine ⟨by kernel_rfl,fun j t ht => ?_⟩
  rw [Tryz.params5] at ht
  obtain rfl : t = 9:=by simpa using Array.mem_of_getElem? ht
  exact (show Tryz.prog.wantsStandIn 9 = false by kernel_rfl)
end Go.Proofs.YtffnaknidofobaaGreatDoor.printOnceProof
namespace Go.Proofs.YtffnaknidofobaaGreatDoor
/-- The card. -/
theorem printOnce_card : Rows.PrintOnceCardSaid :=
  Claim7.holds_tied_plain_at .later [] _ _ _ _ printOnceProof.said (fun _ h => by cases h) (by kernel_rfl) (fun _ h => by cases h) printOnce_row_tie rfl ⟨rfl,rfl⟩ (by kernel_rfl) rfl printOnceProof.plain (by kernel_rfl)
end Go.Proofs.YtffnaknidofobaaGreatDoor
