/- puts, the rest. -/
import Derived.Test.YtkdojpnihinpbaaGreatDoorVfTdJo
import Derived.Test.YtkdojpnihinpbaaGreatDoorVfTkJo
namespace Go.Proofs.YtkdojpnihinpbaaGreatDoor
set_option maxRecDepth 100000
set_option maxHeartbeats 1000000
open Go.RowKit
section
variable {B A:Nat} {w w' : World} {p:Pg} {f:Fd} {V:Fv} {fi at_ mo:Int} {X:Nat→Prop}
theorem field_ok (F:FlAt B w A p f V fi at_ mo) {k x y:Int} (hn:p.ty.length≤1024) (hk:isKB p.ty.length k=true) (h2:2≤bareK k) (h:fieldP p k x=some y):Calls Tryz.prog 96 #[.pointer (some ⟨A,0,none⟩),.int .i64 k,.int .i64 x] w fun e w'=>e=.returned (.int .i64 y)∧Below w.heap.size w w':=(field_any F hn hk h2 x).mono fun e w' hh=>by
 unfold FdO at hh
 rw [h] at hh
 exact hh
theorem field_no (F:FlAt B w A p f V fi at_ mo) {k x:Int} (hn:p.ty.length≤1024) (hk:isKB p.ty.length k=true) (h2:2≤bareK k) (h:fieldP p k x=none):Calls Tryz.prog 96 #[.pointer (some ⟨A,0,none⟩),.int .i64 k,.int .i64 x] w fun e w'=>e=.panicked (fch fi at_ 11)∧Below w.heap.size w w':=(field_any F hn hk h2 x).mono fun e w' hh=>by
 unfold FdO at hh
 rw [h] at hh
 exact hh
theorem pu_14a (F:FlAt B w A p f V fi at_ mo) (i:In3) (top low:Int) (hX:∀ j,X j→B≤j∧j<w.heap.size) (ho:i.o=14) (hn:p.ty.length≤1024) (hk:isKB p.ty.length low=true) (h2:2≤bareK low) {y:Int} (hfd:fieldP p low i.a=some y):Calls Tryz.prog 76 #[.pointer (some ⟨A,0,none⟩),.agg #[.int .i64 i.o,.int .i64 i.a,.int .i64 i.b],.int .i64 top,.int .i64 low] w (PtO X fi at_ (.ok [y]) w):=by
 obtain ⟨W1,hW1,b1,hI⟩:=bxi w i
 have F1:=F.below b1
 have HB:=hide b1
 have HF1:=hide F1
 have HX:=hide hX
 have i0:W1.cell? ⟨w.heap.size,0,none⟩=some (.int .i64 i.o):=cell_of hI rfl
 have i1:W1.cell? ⟨w.heap.size,1,none⟩=some (.int .i64 i.a):=cell_of hI rfl
 have i2:W1.cell? ⟨w.heap.size,2,none⟩=some (.int .i64 i.b):=cell_of hI rfl
 have hlA:=lt_of_block F.box
 have hlI:=lt_of_block hI
 clear b1 F1 hI F hX
 have p0:W1.cell? ⟨A,0,none⟩=some (.int .i64 fi):=cell_of HF1.out.box rfl
 have p1:W1.cell? ⟨A,1,none⟩=some (.int .i64 at_):=cell_of HF1.out.box rfl
 have HCL:=hide (show ∀ W:World,Below W1.heap.size W1 W→W.cell? ⟨A,0,none⟩=some (.int .i64 fi)∧W.cell? ⟨A,1,none⟩=some (.int .i64 at_)∧W.cell? ⟨w.heap.size,1,none⟩=some (.int .i64 i.a)∧W.cell? ⟨w.heap.size,2,none⟩=some (.int .i64 i.b) from fun W h=>⟨(h.cell (p:=⟨A,0,none⟩) (World.block_lt_of_cell? W1 _ p0)).trans p0,(h.cell (p:=⟨A,1,none⟩) (World.block_lt_of_cell? W1 _ p1)).trans p1,(h.cell (p:=⟨w.heap.size,1,none⟩) (World.block_lt_of_cell? W1 _ i1)).trans i1,(h.cell (p:=⟨w.heap.size,2,none⟩) (World.block_lt_of_cell? W1 _ i2)).trans i2⟩)
 have HFW:=hide (show ∀ W:World,Below W1.heap.size W1 W→FlAt B W A p f V fi at_ mo from fun W h=>HF1.out.below h)
 have HFD:=hide (fun (W:World) (h:Below W1.heap.size W1 W)=>field_ok (HFW.out W h) hn hk h2 hfd)
 clear hn hk h2 hfd
 rw [ho] at i0 hW1 ⊢
 clear ho
 go_enter Tryz.func76,Tryz.ntmps76
 go_wp2_with fail
 refine (HFD.out W1 (Below.refl _ _)).mono ?_
 rintro e w2 ⟨rfl,hb2⟩
 have HB2:=hide (bel_tr HB.out hb2)
 clear hb2
 go_wp2
 go_ret
 exact pt_new HX.out HB2.out (by simp) rfl rfl
theorem pu_14b (F:FlAt B w A p f V fi at_ mo) (i:In3) (top low:Int) (hX:∀ j,X j→B≤j∧j<w.heap.size) (ho:i.o=14) (hn:p.ty.length≤1024) (hk:isKB p.ty.length low=true) (h2:2≤bareK low) (hfd:fieldP p low i.a=none):Calls Tryz.prog 76 #[.pointer (some ⟨A,0,none⟩),.agg #[.int .i64 i.o,.int .i64 i.a,.int .i64 i.b],.int .i64 top,.int .i64 low] w (PtO X fi at_ (.error 11) w):=by
 obtain ⟨W1,hW1,b1,hI⟩:=bxi w i
 have F1:=F.below b1
 have HB:=hide b1
 have HF1:=hide F1
 have HX:=hide hX
 have i0:W1.cell? ⟨w.heap.size,0,none⟩=some (.int .i64 i.o):=cell_of hI rfl
 have i1:W1.cell? ⟨w.heap.size,1,none⟩=some (.int .i64 i.a):=cell_of hI rfl
 have i2:W1.cell? ⟨w.heap.size,2,none⟩=some (.int .i64 i.b):=cell_of hI rfl
 have hlA:=lt_of_block F.box
 have hlI:=lt_of_block hI
 clear b1 F1 hI F hX
 have p0:W1.cell? ⟨A,0,none⟩=some (.int .i64 fi):=cell_of HF1.out.box rfl
 have p1:W1.cell? ⟨A,1,none⟩=some (.int .i64 at_):=cell_of HF1.out.box rfl
 have HCL:=hide (show ∀ W:World,Below W1.heap.size W1 W→W.cell? ⟨A,0,none⟩=some (.int .i64 fi)∧W.cell? ⟨A,1,none⟩=some (.int .i64 at_)∧W.cell? ⟨w.heap.size,1,none⟩=some (.int .i64 i.a)∧W.cell? ⟨w.heap.size,2,none⟩=some (.int .i64 i.b) from fun W h=>⟨(h.cell (p:=⟨A,0,none⟩) (World.block_lt_of_cell? W1 _ p0)).trans p0,(h.cell (p:=⟨A,1,none⟩) (World.block_lt_of_cell? W1 _ p1)).trans p1,(h.cell (p:=⟨w.heap.size,1,none⟩) (World.block_lt_of_cell? W1 _ i1)).trans i1,(h.cell (p:=⟨w.heap.size,2,none⟩) (World.block_lt_of_cell? W1 _ i2)).trans i2⟩)
 have HFW:=hide (show ∀ W:World,Below W1.heap.size W1 W→FlAt B W A p f V fi at_ mo from fun W h=>HF1.out.below h)
 have HFD:=hide (fun (W:World) (h:Below W1.heap.size W1 W)=>field_no (HFW.out W h) hn hk h2 hfd)
 clear hn hk h2 hfd
 rw [ho] at i0 hW1 ⊢
 clear ho
 go_enter Tryz.func76,Tryz.ntmps76
 go_wp2_with fail
 refine (HFD.out W1 (Below.refl _ _)).mono ?_
 rintro e w2 ⟨rfl,hb2⟩
 exact ⟨rfl,rfl,bel_tr HB.out hb2⟩
theorem pu_15b (F:FlAt B w A p f V fi at_ mo) (i:In3) (top low:Int) (hX:∀ j,X j→B≤j∧j<w.heap.size) (ho:i.o=15) (hn:p.ty.length≤1024) (hk:isKB p.ty.length low=true) (h2:2≤bareK low) (hfd:fieldP p low i.a=none):Calls Tryz.prog 76 #[.pointer (some ⟨A,0,none⟩),.agg #[.int .i64 i.o,.int .i64 i.a,.int .i64 i.b],.int .i64 top,.int .i64 low] w (PtO X fi at_ (.error 11) w):=by
 obtain ⟨W1,hW1,b1,hI⟩:=bxi w i
 have F1:=F.below b1
 have HB:=hide b1
 have HF1:=hide F1
 have HX:=hide hX
 have i0:W1.cell? ⟨w.heap.size,0,none⟩=some (.int .i64 i.o):=cell_of hI rfl
 have i1:W1.cell? ⟨w.heap.size,1,none⟩=some (.int .i64 i.a):=cell_of hI rfl
 have i2:W1.cell? ⟨w.heap.size,2,none⟩=some (.int .i64 i.b):=cell_of hI rfl
 have hlA:=lt_of_block F.box
 have hlI:=lt_of_block hI
 clear b1 F1 hI F hX
 have p0:W1.cell? ⟨A,0,none⟩=some (.int .i64 fi):=cell_of HF1.out.box rfl
 have p1:W1.cell? ⟨A,1,none⟩=some (.int .i64 at_):=cell_of HF1.out.box rfl
 have HCL:=hide (show ∀ W:World,Below W1.heap.size W1 W→W.cell? ⟨A,0,none⟩=some (.int .i64 fi)∧W.cell? ⟨A,1,none⟩=some (.int .i64 at_)∧W.cell? ⟨w.heap.size,1,none⟩=some (.int .i64 i.a)∧W.cell? ⟨w.heap.size,2,none⟩=some (.int .i64 i.b) from fun W h=>⟨(h.cell (p:=⟨A,0,none⟩) (World.block_lt_of_cell? W1 _ p0)).trans p0,(h.cell (p:=⟨A,1,none⟩) (World.block_lt_of_cell? W1 _ p1)).trans p1,(h.cell (p:=⟨w.heap.size,1,none⟩) (World.block_lt_of_cell? W1 _ i1)).trans i1,(h.cell (p:=⟨w.heap.size,2,none⟩) (World.block_lt_of_cell? W1 _ i2)).trans i2⟩)
 have HFW:=hide (show ∀ W:World,Below W1.heap.size W1 W→FlAt B W A p f V fi at_ mo from fun W h=>HF1.out.below h)
 have HFD:=hide (fun (W:World) (h:Below W1.heap.size W1 W)=>field_no (HFW.out W h) hn hk h2 hfd)
 clear hn hk h2 hfd
 rw [ho] at i0 hW1 ⊢
 clear ho
 go_enter Tryz.func76,Tryz.ntmps76
 go_wp2_with fail
 refine wp_region_held_drew (S:=(fun W=>W.cell? ⟨A,0,none⟩=some (.int .i64 fi)∧W.cell? ⟨A,1,none⟩=some (.int .i64 at_)∧W.cell? ⟨w.heap.size,1,none⟩=some (.int .i64 i.a)∧W.cell? ⟨w.heap.size,2,none⟩=some (.int .i64 i.b))) (by kernel_rfl) ⟨p0,p1,i1,i2⟩ (fun hHeld1=>?_)
 refine tk 0 ?_;simp only [sp]
 refine tk 1 ?_;simp only [sp]
 refine tk 2 ?_;simp only [sp]
 refine tk 3 ?_;simp only [sp]
 refine tk 4 ?_;simp only [sp]
 refine tk 5 ?_;simp only [sp]
 refine tk 6 ?_;simp only [sp]
 refine tk 7 ?_;simp only [sp]
 refine tk 9 ?_;simp only [sp]
 refine wpAnyH_ready (rs:=[8]) (by kernel_rfl) (by simp) ?_
 refine AllReadyH.cons (dr rfl) (fun K hK=>?_) AllReadyH.nil
 go_simp
 go_at_call 96
 refine (HFD.out _ (below_drew (Below.refl _ _))).mono ?_
 rintro e w2 ⟨rfl,hb2⟩
 exact ⟨rfl,rfl,bel_tr HB.out (bel_tr (below_drew (Below.refl _ _)) hb2)⟩
theorem pu_15a (F:FlAt B w A p f V fi at_ mo) (i:In3) (top low:Int) (hX:∀ j,X j→B≤j∧j<w.heap.size) (ho:i.o=15) (hn:p.ty.length≤1024) (hk:isKB p.ty.length low=true) (h2:2≤bareK low) {y:Int} (hfd:fieldP p low i.a=some y) {r:Except Int (List Int)} (hr1:y=top→r=.ok []) (hr2:y≠top→r=.error 8):Calls Tryz.prog 76 #[.pointer (some ⟨A,0,none⟩),.agg #[.int .i64 i.o,.int .i64 i.a,.int .i64 i.b],.int .i64 top,.int .i64 low] w (PtO X fi at_ r w):=by
 obtain ⟨W1,hW1,b1,hI⟩:=bxi w i
 have F1:=F.below b1
 have HB:=hide b1
 have HF1:=hide F1
 have HX:=hide hX
 have i0:W1.cell? ⟨w.heap.size,0,none⟩=some (.int .i64 i.o):=cell_of hI rfl
 have i1:W1.cell? ⟨w.heap.size,1,none⟩=some (.int .i64 i.a):=cell_of hI rfl
 have i2:W1.cell? ⟨w.heap.size,2,none⟩=some (.int .i64 i.b):=cell_of hI rfl
 have hlA:=lt_of_block F.box
 have hlI:=lt_of_block hI
 clear b1 F1 hI F hX
 have p0:W1.cell? ⟨A,0,none⟩=some (.int .i64 fi):=cell_of HF1.out.box rfl
 have p1:W1.cell? ⟨A,1,none⟩=some (.int .i64 at_):=cell_of HF1.out.box rfl
 have HCL:=hide (show ∀ W:World,Below W1.heap.size W1 W→W.cell? ⟨A,0,none⟩=some (.int .i64 fi)∧W.cell? ⟨A,1,none⟩=some (.int .i64 at_)∧W.cell? ⟨w.heap.size,1,none⟩=some (.int .i64 i.a)∧W.cell? ⟨w.heap.size,2,none⟩=some (.int .i64 i.b) from fun W h=>⟨(h.cell (p:=⟨A,0,none⟩) (World.block_lt_of_cell? W1 _ p0)).trans p0,(h.cell (p:=⟨A,1,none⟩) (World.block_lt_of_cell? W1 _ p1)).trans p1,(h.cell (p:=⟨w.heap.size,1,none⟩) (World.block_lt_of_cell? W1 _ i1)).trans i1,(h.cell (p:=⟨w.heap.size,2,none⟩) (World.block_lt_of_cell? W1 _ i2)).trans i2⟩)
 have HFW:=hide (show ∀ W:World,Below W1.heap.size W1 W→FlAt B W A p f V fi at_ mo from fun W h=>HF1.out.below h)
 have HFD:=hide (fun (W:World) (h:Below W1.heap.size W1 W)=>field_ok (HFW.out W h) hn hk h2 hfd)
 clear hn hk h2 hfd
 have HO:=hide (show ∀ W:World,Below w.heap.size w W→(y == top)=true→PtO X fi at_ r w (.returned (.slice none 0 0)) W from fun W h e=>by
  rw [hr1 (by simpa using e)]
  exact ⟨⟨_,rfl,isAt_none⟩,h⟩)
 have HE:=hide (show ∀ W:World,Below w.heap.size w W→(y == top)=false→PtO X fi at_ r w (.panicked (fch fi at_ 8)) W from fun W h e=>by
  rw [hr2 (by simpa using e)]
  exact ⟨rfl,h⟩)
 clear hr1 hr2
 generalize hbb:(y == top)=bb at *
 rw [ho] at i0 hW1 ⊢
 clear ho
 go_enter Tryz.func76,Tryz.ntmps76
 go_wp2_with fail
 refine wp_region_held_drew (S:=(fun W=>W.cell? ⟨A,0,none⟩=some (.int .i64 fi)∧W.cell? ⟨A,1,none⟩=some (.int .i64 at_)∧W.cell? ⟨w.heap.size,1,none⟩=some (.int .i64 i.a)∧W.cell? ⟨w.heap.size,2,none⟩=some (.int .i64 i.b))) (by kernel_rfl) ⟨p0,p1,i1,i2⟩ (fun hHeld11=>?_)
 refine tk 0 ?_;simp only [sp]
 refine tk 1 ?_;simp only [sp]
 refine tk 2 ?_;simp only [sp]
 refine tk 3 ?_;simp only [sp]
 refine tk 4 ?_;simp only [sp]
 refine tk 5 ?_;simp only [sp]
 refine tk 6 ?_;simp only [sp]
 refine tk 7 ?_;simp only [sp]
 refine tk 9 ?_;simp only [sp]
 refine rd 8 (fun K hK=>?_)
 go_simp
 go_at_call 96
 refine (HFD.out _ (below_drew (Below.refl _ _))).mono ?_
 rintro e w2 ⟨rfl,hb2⟩
 have HB2:=hide (show Below W1.heap.size W1 w2 from bel_tr (below_drew (Below.refl _ _)) hb2)
 clear hb2
 go_wp2_with fail
 refine hK.out _ _ (HCL.out w2 HB2.out) (fun hHeld21=>?_)
 clear hK K
 try simp only [sp]
 refine tk 10 ?_;simp only [sp]
 refine rd 11 (fun K hK=>?_)
 go_simp
 go_at_call 70
 refine (require_any _ fi at_ 8 bb).mono ?_
 rintro e w3 ⟨(⟨hk3,rfl⟩ | ⟨hk3,rfl⟩),hb3⟩
 rotate_left
 · exact ⟨rfl,HE.out w3 (bel_tr HB.out (bel_tr HB2.out hb3)) hk3⟩
 have HB3:=hide (bel_tr HB2.out hb3)
 have HK3:=hide hk3
 clear hb3 hk3
 go_wp2_with fail
 refine hK.out _ _ (HCL.out w3 HB3.out) (fun hHeld23=>?_)
 clear hK K
 try simp only [sp]
 refine wpAnyH_done (by kernel_rfl) ?_ _
 go_wp2
 go_ret
 exact HO.out _ (bel_tr HB.out HB3.out) HK3.out
theorem pu_16b (F:FlAt B w A p f V fi at_ mo) (i:In3) (top low:Int) (hX:∀ j,X j→B≤j∧j<w.heap.size) (ho:i.o=16) (hn:p.ty.length≤1024) (hk:isKB p.ty.length low=true) (h2:2≤bareK low) (hfd:fieldP p low i.a=none):Calls Tryz.prog 76 #[.pointer (some ⟨A,0,none⟩),.agg #[.int .i64 i.o,.int .i64 i.a,.int .i64 i.b],.int .i64 top,.int .i64 low] w (PtO X fi at_ (.error 11) w):=by
 obtain ⟨W1,hW1,b1,hI⟩:=bxi w i
 have F1:=F.below b1
 have HB:=hide b1
 have HF1:=hide F1
 have HX:=hide hX
 have i0:W1.cell? ⟨w.heap.size,0,none⟩=some (.int .i64 i.o):=cell_of hI rfl
 have i1:W1.cell? ⟨w.heap.size,1,none⟩=some (.int .i64 i.a):=cell_of hI rfl
 have i2:W1.cell? ⟨w.heap.size,2,none⟩=some (.int .i64 i.b):=cell_of hI rfl
 have hlA:=lt_of_block F.box
 have hlI:=lt_of_block hI
 clear b1 F1 hI F hX
 have p0:W1.cell? ⟨A,0,none⟩=some (.int .i64 fi):=cell_of HF1.out.box rfl
 have p1:W1.cell? ⟨A,1,none⟩=some (.int .i64 at_):=cell_of HF1.out.box rfl
 have HCL:=hide (show ∀ W:World,Below W1.heap.size W1 W→W.cell? ⟨A,0,none⟩=some (.int .i64 fi)∧W.cell? ⟨A,1,none⟩=some (.int .i64 at_)∧W.cell? ⟨w.heap.size,1,none⟩=some (.int .i64 i.a)∧W.cell? ⟨w.heap.size,2,none⟩=some (.int .i64 i.b) from fun W h=>⟨(h.cell (p:=⟨A,0,none⟩) (World.block_lt_of_cell? W1 _ p0)).trans p0,(h.cell (p:=⟨A,1,none⟩) (World.block_lt_of_cell? W1 _ p1)).trans p1,(h.cell (p:=⟨w.heap.size,1,none⟩) (World.block_lt_of_cell? W1 _ i1)).trans i1,(h.cell (p:=⟨w.heap.size,2,none⟩) (World.block_lt_of_cell? W1 _ i2)).trans i2⟩)
 have HFW:=hide (show ∀ W:World,Below W1.heap.size W1 W→FlAt B W A p f V fi at_ mo from fun W h=>HF1.out.below h)
 have HFD:=hide (fun (W:World) (h:Below W1.heap.size W1 W)=>field_no (HFW.out W h) hn hk h2 hfd)
 clear hn hk h2 hfd
 rw [ho] at i0 hW1 ⊢
 clear ho
 go_enter Tryz.func76,Tryz.ntmps76
 go_wp2_with fail
 refine wp_region_held_drew (S:=(fun W=>W.cell? ⟨A,0,none⟩=some (.int .i64 fi)∧W.cell? ⟨A,1,none⟩=some (.int .i64 at_)∧W.cell? ⟨w.heap.size,1,none⟩=some (.int .i64 i.a)∧W.cell? ⟨w.heap.size,2,none⟩=some (.int .i64 i.b))) (by kernel_rfl) ⟨p0,p1,i1,i2⟩ (fun hHeld24=>?_)
 refine tk 0 ?_;simp only [sp]
 refine tk 1 ?_;simp only [sp]
 refine tk 2 ?_;simp only [sp]
 refine tk 3 ?_;simp only [sp]
 refine tk 4 ?_;simp only [sp]
 refine tk 5 ?_;simp only [sp]
 refine tk 6 ?_;simp only [sp]
 refine tk 7 ?_;simp only [sp]
 refine tk 8 ?_;simp only [sp]
 refine tk 9 ?_;simp only [sp]
 refine tk 10 ?_;simp only [sp]
 refine wpAnyH_ready (rs:=[11]) (by kernel_rfl) (by simp) ?_
 refine AllReadyH.cons (dr rfl) (fun K hK=>?_) AllReadyH.nil
 go_simp
 go_at_call 96
 refine (HFD.out _ (below_drew (Below.refl _ _))).mono ?_
 rintro e w2 ⟨rfl,hb2⟩
 exact ⟨rfl,rfl,bel_tr HB.out (bel_tr (below_drew (Below.refl _ _)) hb2)⟩
theorem pu_16a (F:FlAt B w A p f V fi at_ mo) (i:In3) (top low:Int) (hX:∀ j,X j→B≤j∧j<w.heap.size) (ho:i.o=16) (hn:p.ty.length≤1024) (hk:isKB p.ty.length low=true) (h2:2≤bareK low) {y:Int} (hfd:fieldP p low i.a=some y) {t:Nat} (hb:i.b=(t:Int)) (ht:t<p.ty.length) {r:Except Int (List Int)} (hr1:onlyB p i.b y=true→r=.ok [locK low+2+2*i.b]) (hr2:onlyB p i.b y=false→r=.error 11):Calls Tryz.prog 76 #[.pointer (some ⟨A,0,none⟩),.agg #[.int .i64 i.o,.int .i64 i.a,.int .i64 i.b],.int .i64 top,.int .i64 low] w (PtO X fi at_ r w):=by
 obtain ⟨W1,hW1,b1,hI⟩:=bxi w i
 have F1:=F.below b1
 have HB:=hide b1
 have HF1:=hide F1
 have HX:=hide hX
 have i0:W1.cell? ⟨w.heap.size,0,none⟩=some (.int .i64 i.o):=cell_of hI rfl
 have i1:W1.cell? ⟨w.heap.size,1,none⟩=some (.int .i64 i.a):=cell_of hI rfl
 have i2:W1.cell? ⟨w.heap.size,2,none⟩=some (.int .i64 i.b):=cell_of hI rfl
 have hlA:=lt_of_block F.box
 have hlI:=lt_of_block hI
 clear b1 F1 hI F hX
 have p0:W1.cell? ⟨A,0,none⟩=some (.int .i64 fi):=cell_of HF1.out.box rfl
 have p1:W1.cell? ⟨A,1,none⟩=some (.int .i64 at_):=cell_of HF1.out.box rfl
 have HCL:=hide (show ∀ W:World,Below W1.heap.size W1 W→W.cell? ⟨A,0,none⟩=some (.int .i64 fi)∧W.cell? ⟨A,1,none⟩=some (.int .i64 at_)∧W.cell? ⟨w.heap.size,1,none⟩=some (.int .i64 i.a)∧W.cell? ⟨w.heap.size,2,none⟩=some (.int .i64 i.b) from fun W h=>⟨(h.cell (p:=⟨A,0,none⟩) (World.block_lt_of_cell? W1 _ p0)).trans p0,(h.cell (p:=⟨A,1,none⟩) (World.block_lt_of_cell? W1 _ p1)).trans p1,(h.cell (p:=⟨w.heap.size,1,none⟩) (World.block_lt_of_cell? W1 _ i1)).trans i1,(h.cell (p:=⟨w.heap.size,2,none⟩) (World.block_lt_of_cell? W1 _ i2)).trans i2⟩)
 have HFW:=hide (show ∀ W:World,Below W1.heap.size W1 W→FlAt B W A p f V fi at_ mo from fun W h=>HF1.out.below h)
 have HFD:=hide (fun (W:World) (h:Below W1.heap.size W1 W)=>field_ok (HFW.out W h) hn hk h2 hfd)
 have HOB:=hide (fun (W:World) (h:Below W1.heap.size W1 W)=>only_any (HFW.out W h) t y ht)
 have hlow:bits .and .i64 low 1048576=locK low:=(bits_bare hn hk).2
 have hlk:locK low=0∨locK low=1048576:=by unfold locK;split <;> simp
 have b8:(t:Int)≤1024:=by omega
 have b9:(0:Int)≤(t:Int):=by omega
 have HO:=hide (show ∀ (W:World) (v:Int),Below w.heap.size w W→onlyB p i.b y=true→v=locK low+2+2*i.b→PtO X fi at_ r w (.returned (.slice (some ⟨W.heap.size,0,none⟩) 1 1)) (W.alloc (.cells #[.int .i64 v] 3)) from fun W v h e hv=>by
  rw [hr1 e,← hv]
  exact pt_new HX.out h (by simp) rfl rfl)
 have HE:=hide (show ∀ W:World,Below w.heap.size w W→onlyB p i.b y=false→PtO X fi at_ r w (.panicked (fch fi at_ 11)) W from fun W h e=>by
  rw [hr2 e]
  exact ⟨rfl,h⟩)
 clear hr1 hr2
 rw [hb] at i2 hW1 HCL HO HE ⊢
 clear hb ht
 generalize locK low=lk at *
 have b10:lk≤1048576:=by omega
 have b11:0≤lk:=by omega
 clear hlk
 clear hn hk h2 hfd
 generalize hbb:onlyB p (t:Int) y=bb at *
 rw [ho] at i0 hW1 ⊢
 clear ho
 go_enter Tryz.func76,Tryz.ntmps76
 go_wp2_with fail
 refine wp_region_held_drew (S:=(fun W=>W.cell? ⟨A,0,none⟩=some (.int .i64 fi)∧W.cell? ⟨A,1,none⟩=some (.int .i64 at_)∧W.cell? ⟨w.heap.size,1,none⟩=some (.int .i64 i.a)∧W.cell? ⟨w.heap.size,2,none⟩=some (.int .i64 t))) (by kernel_rfl) ⟨p0,p1,i1,i2⟩ (fun hHeld36=>?_)
 refine tk 0 ?_;simp only [sp]
 refine tk 1 ?_;simp only [sp]
 refine tk 2 ?_;simp only [sp]
 refine tk 3 ?_;simp only [sp]
 refine tk 4 ?_;simp only [sp]
 refine tk 5 ?_;simp only [sp]
 refine tk 6 ?_;simp only [sp]
 refine tk 7 ?_;simp only [sp]
 refine tk 8 ?_;simp only [sp]
 refine tk 9 ?_;simp only [sp]
 refine tk 10 ?_;simp only [sp]
 refine rd 11 (fun K hK=>?_)
 go_simp
 go_at_call 96
 refine (HFD.out _ (below_drew (Below.refl _ _))).mono ?_
 rintro e w2 ⟨rfl,hb2⟩
 have HB2:=hide (show Below W1.heap.size W1 w2 from bel_tr (below_drew (Below.refl _ _)) hb2)
 clear hb2
 go_wp2_with fail
 refine hK.out _ _ (HCL.out w2 HB2.out) (fun hHeld48=>?_)
 clear hK K
 try simp only [sp]
 refine rd 12 (fun K hK=>?_)
 go_simp
 go_at_call 85
 refine (HOB.out _ HB2.out).mono ?_
 rintro e w3 ⟨rfl,rfl⟩
 go_wp2_with fail
 refine hK.out _ _ (HCL.out _ HB2.out) (fun hHeld49=>?_)
 clear hK K
 try simp only [sp]
 refine rd 13 (fun K hK=>?_)
 go_simp
 go_at_call 70
 refine (require_any _ fi at_ 11 bb).mono ?_
 rintro e w4 ⟨(⟨hk4,rfl⟩ | ⟨hk4,rfl⟩),hb4⟩
 rotate_left
 · exact ⟨rfl,HE.out w4 (bel_tr HB.out (bel_tr HB2.out hb4)) hk4⟩
 have HB4:=hide (bel_tr HB2.out hb4)
 have HK4:=hide hk4
 clear hb4 hk4
 go_wp2_with fail
 refine hK.out _ _ (HCL.out w4 HB4.out) (fun hHeld50=>?_)
 clear hK K
 try simp only [sp]
 refine wpAnyH_done (by kernel_rfl) ?_ _
 obtain ⟨_,_,_,j2⟩:=HCL.out w4 HB4.out
 clear p0 p1 i0 i1 i2 hW1 HFD HOB HCL HFW HE
 go_wp2
 go_ret
 exact HO.out _ _ (bel_tr HB.out HB4.out) HK4.out rfl
theorem pu_22 (F:FlAt B w A p f V fi at_ mo) (i:In3) (top low:Int) (hX:∀ j,X j→B≤j∧j<w.heap.size) (ho:i.o=22) {m:Nat} {g:Fd} (ha:i.a=(m:Int)) (hx:p.fu[m]?=some g):Calls Tryz.prog 76 #[.pointer (some ⟨A,0,none⟩),.agg #[.int .i64 i.o,.int .i64 i.a,.int .i64 i.b],.int .i64 top,.int .i64 low] w (PtO X fi at_ (.ok g.re) w):=by
 obtain ⟨W1,hW1,b1,hI⟩:=bxi w i
 have F1:=F.below b1
 have HB:=hide b1
 have HF1:=hide F1
 have HX:=hide hX
 have i0:W1.cell? ⟨w.heap.size,0,none⟩=some (.int .i64 i.o):=cell_of hI rfl
 have i1:W1.cell? ⟨w.heap.size,1,none⟩=some (.int .i64 i.a):=cell_of hI rfl
 have i2:W1.cell? ⟨w.heap.size,2,none⟩=some (.int .i64 i.b):=cell_of hI rfl
 have hlA:=lt_of_block F.box
 have hlI:=lt_of_block hI
 clear b1 F1 hI F hX
 have c3:W1.cell? ⟨A,3,none⟩=some V.v2:=cell_of HF1.out.box rfl
 obtain ⟨gg,oo,c,n,v1,v2,v3,v4,hv,hnn,hlt,hg,⟨y0,y1,y2,y3,y4⟩,r1,r2,r3,r4⟩:=fd_at HF1.out.pg.fu hx
 rw [hv] at c3
 obtain ⟨x2,z2,rfl⟩:=sl_form r2
 have hgw:gg<W1.heap.size:=Nat.lt_of_lt_of_le hg HF1.out.hB
 have e1:decide (m<n)=true:=by simpa using hlt
 have HI:=hide (is_of_sl (X:=X) r2 HF1.out.hB (fun j hj h=>by have:=(HX.out j h).1;omega))
 rw [ha] at i1 hW1 ⊢
 clear hv hnn hx ha r1 r2 r3 r4 y0 y1 y3 y4
 generalize hrl:g.re.length=rl at *
 rw [ho] at i0 hW1 ⊢
 clear ho
 go_enter Tryz.func76,Tryz.ntmps76
 go_wp2_with fail
 go_region
 all_goals go_wp2
 all_goals go_ret
 all_goals exact pt_drew ⟨⟨_,rfl,HI.out⟩,HB.out⟩
theorem pu_23 (F:FlAt B w A p f V fi at_ mo) (i:In3) (top low:Int) (hX:∀ j,X j→B≤j∧j<w.heap.size) (ho:i.o=23) {t m0:Nat} {tb:List Int} {g:Fd} (ha:i.a=(t:Int)) (ht:p.ta[t]?=some tb) (h0:tb[0]?=some (m0:Int)) (hx:p.fu[m0]?=some g):Calls Tryz.prog 76 #[.pointer (some ⟨A,0,none⟩),.agg #[.int .i64 i.o,.int .i64 i.a,.int .i64 i.b],.int .i64 top,.int .i64 low] w (PtO X fi at_ (.ok g.re) w):=by
 obtain ⟨W1,hW1,b1,hI⟩:=bxi w i
 have F1:=F.below b1
 have HB:=hide b1
 have HF1:=hide F1
 have HX:=hide hX
 have i0:W1.cell? ⟨w.heap.size,0,none⟩=some (.int .i64 i.o):=cell_of hI rfl
 have i1:W1.cell? ⟨w.heap.size,1,none⟩=some (.int .i64 i.a):=cell_of hI rfl
 have i2:W1.cell? ⟨w.heap.size,2,none⟩=some (.int .i64 i.b):=cell_of hI rfl
 have hlA:=lt_of_block F.box
 have hlI:=lt_of_block hI
 clear b1 F1 hI F hX
 obtain ⟨v1,v2,v3,v4,⟨r1,r2,r3,r4⟩,CI⟩:=item_any HF1.out ht h0 hx
 have HI:=hide (fun (W:World) (h:Below W1.heap.size W1 W)=>is_of_sl (X:=X) (ints_keep (Nat.le_refl _) (fun j hj=>h.block j (Nat.lt_of_lt_of_le hj HF1.out.hB)) r2) (Nat.le_trans HF1.out.hB h.size) (fun j hj h=>by have:=(HX.out j h).1;omega))
 obtain ⟨x1,z1,rfl⟩:=sl_form r1
 obtain ⟨x2,z2,rfl⟩:=sl_form r2
 obtain ⟨x3,z3,rfl⟩:=sl_form r3
 obtain ⟨x4,z4,rfl⟩:=sl_form r4
 have HCI:=hide CI
 rw [ha] at i1 hW1 ⊢
 clear ht h0 hx ha r1 r2 r3 r4 CI
 generalize g.lo.length=l1 at *
 generalize hrl:g.re.length=l2 at *
 generalize g.ar.length=l3 at *
 generalize g.co.length=l4 at *
 have HFL:=hide (show ∀ W:World,(Instr.field 40 (.agg #[.int .i64 g.pa,.slice x1 l1 z1,.slice x2 l2 z2,.slice x3 l3 z3,.slice x4 l4 z4]) 2).run Tryz.prog W=.ok (.slice x2 l2 z2) W from fun W=>by rfl)
 rw [ho] at i0 hW1 ⊢
 clear ho
 go_enter Tryz.func76,Tryz.ntmps76
 go_wp2_with fail
 refine HCI.out.mono ?_
 rintro e w2 ⟨rfl,hb2⟩
 have HB2:=hide hb2
 clear hb2
 have hfl:=HFL.out w2
 go_wp2
 go_ret
 exact ⟨⟨_,rfl,HI.out _ HB2.out⟩,bel_tr HB.out HB2.out⟩
end
end Go.Proofs.YtkdojpnihinpbaaGreatDoor
