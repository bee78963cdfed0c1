/- puts: the kinds that an instruction puts. -/
import Derived.Test.YtkdojpnihinpbaaDoorVfTdJl
namespace Go.Proofs.YtkdojpnihinpbaaDoor
set_option maxRecDepth 100000
set_option maxHeartbeats 1000000
open Go.RowKit
def PtO (X:Nat→Prop) (fi at_:Int) (r:Except Int (List Int)) (w:World) (e:Ending) (W:World):Prop:=(match r with
  | .ok l=>∃ v,e=.returned v∧IsAt X W v l
  | .error x=>e=.panicked (fch fi at_ x))∧Below w.heap.size w W
section
variable {B A:Nat} {w w' : World} {p:Pg} {f:Fd} {V:Fv} {fi at_ mo:Int} {X:Nat→Prop}
theorem pt_new {W:World} {l:List Int} {C:Array Value} {T:TypeId} {n:Nat} (hX:∀ j,X j→B≤j∧j<w.heap.size) (hb:Below w.heap.size w W) (hl:l.length≤4096) (hC:C=(l.map (Value.int .i64)).toArray) (hn:n=l.length):PtO X fi at_ (.ok l) w (.returned (.slice (some ⟨W.heap.size,0,none⟩) n n)) (W.alloc (.cells C T)):=by
 subst hC hn
 exact ⟨⟨_,rfl,isAt_new (heap_new _ _ rfl) (fun h=>by have:=(hX _ h).2;have:=hb.size;omega) hl⟩,hb.alloc hb.size _⟩
theorem pt_drew {r:Except Int (List Int)} {e:Ending} {W:World} (h:PtO X fi at_ r w e W):PtO X fi at_ r w e W.drew:=by
 cases r with
 | ok l =>
  obtain ⟨⟨v,h1,h2⟩,h3⟩:=h
  exact ⟨⟨v,h1,h2.keep (Kp.drew _ _)⟩,below_drew h3⟩
 | error x=>exact ⟨h.1,below_drew h.2⟩
theorem pu_1 (F:FlAt B w A p f V fi at_ mo) (i:In3) (top low:Int) (hX:∀ j,X j→B≤j∧j<w.heap.size) (ho:i.o=1):Calls Tryd.prog 82 #[.pointer (some ⟨A,0,none⟩),.agg #[.int .i64 i.o,.int .i64 i.a,.int .i64 i.b],.int .i64 top,.int .i64 low] w (PtO X fi at_ (.ok [0]) w):=by
 obtain ⟨W1,hW1,b1,hI⟩:=bxi w i
 have F1:=F.below b1
 have HB:=hide b1
 have HF1:=hide F1
 have HX:=hide hX
 have i0:W1.cell? ⟨w.heap.size,0,none⟩=some (.int .i64 i.o):=cell_of hI rfl
 have i1:W1.cell? ⟨w.heap.size,1,none⟩=some (.int .i64 i.a):=cell_of hI rfl
 have i2:W1.cell? ⟨w.heap.size,2,none⟩=some (.int .i64 i.b):=cell_of hI rfl
 have hlA:=lt_of_block F.box
 have hlI:=lt_of_block hI
 clear b1 F1 hI F hX
 rw [ho] at i0 hW1 ⊢
 clear ho
 go_enter Tryd.func82,Tryd.ntmps82
 go_wp2
 go_ret
 exact pt_new HX.out HB.out (by simp) rfl rfl
theorem pu_7 (F:FlAt B w A p f V fi at_ mo) (i:In3) (top low:Int) (hX:∀ j,X j→B≤j∧j<w.heap.size) (ho:i.o=7):Calls Tryd.prog 82 #[.pointer (some ⟨A,0,none⟩),.agg #[.int .i64 i.o,.int .i64 i.a,.int .i64 i.b],.int .i64 top,.int .i64 low] w (PtO X fi at_ (.ok [0]) w):=by
 obtain ⟨W1,hW1,b1,hI⟩:=bxi w i
 have F1:=F.below b1
 have HB:=hide b1
 have HF1:=hide F1
 have HX:=hide hX
 have i0:W1.cell? ⟨w.heap.size,0,none⟩=some (.int .i64 i.o):=cell_of hI rfl
 have i1:W1.cell? ⟨w.heap.size,1,none⟩=some (.int .i64 i.a):=cell_of hI rfl
 have i2:W1.cell? ⟨w.heap.size,2,none⟩=some (.int .i64 i.b):=cell_of hI rfl
 have hlA:=lt_of_block F.box
 have hlI:=lt_of_block hI
 clear b1 F1 hI F hX
 rw [ho] at i0 hW1 ⊢
 clear ho
 go_enter Tryd.func82,Tryd.ntmps82
 go_wp2
 go_ret
 exact pt_new HX.out HB.out (by simp) rfl rfl
theorem pu_8 (F:FlAt B w A p f V fi at_ mo) (i:In3) (top low:Int) (hX:∀ j,X j→B≤j∧j<w.heap.size) (ho:i.o=8):Calls Tryd.prog 82 #[.pointer (some ⟨A,0,none⟩),.agg #[.int .i64 i.o,.int .i64 i.a,.int .i64 i.b],.int .i64 top,.int .i64 low] w (PtO X fi at_ (.ok [0]) w):=by
 obtain ⟨W1,hW1,b1,hI⟩:=bxi w i
 have F1:=F.below b1
 have HB:=hide b1
 have HF1:=hide F1
 have HX:=hide hX
 have i0:W1.cell? ⟨w.heap.size,0,none⟩=some (.int .i64 i.o):=cell_of hI rfl
 have i1:W1.cell? ⟨w.heap.size,1,none⟩=some (.int .i64 i.a):=cell_of hI rfl
 have i2:W1.cell? ⟨w.heap.size,2,none⟩=some (.int .i64 i.b):=cell_of hI rfl
 have hlA:=lt_of_block F.box
 have hlI:=lt_of_block hI
 clear b1 F1 hI F hX
 rw [ho] at i0 hW1 ⊢
 clear ho
 go_enter Tryd.func82,Tryd.ntmps82
 go_wp2
 go_ret
 exact pt_new HX.out HB.out (by simp) rfl rfl
theorem pu_18 (F:FlAt B w A p f V fi at_ mo) (i:In3) (top low:Int) (hX:∀ j,X j→B≤j∧j<w.heap.size) (ho:i.o=18):Calls Tryd.prog 82 #[.pointer (some ⟨A,0,none⟩),.agg #[.int .i64 i.o,.int .i64 i.a,.int .i64 i.b],.int .i64 top,.int .i64 low] w (PtO X fi at_ (.ok [0]) w):=by
 obtain ⟨W1,hW1,b1,hI⟩:=bxi w i
 have F1:=F.below b1
 have HB:=hide b1
 have HF1:=hide F1
 have HX:=hide hX
 have i0:W1.cell? ⟨w.heap.size,0,none⟩=some (.int .i64 i.o):=cell_of hI rfl
 have i1:W1.cell? ⟨w.heap.size,1,none⟩=some (.int .i64 i.a):=cell_of hI rfl
 have i2:W1.cell? ⟨w.heap.size,2,none⟩=some (.int .i64 i.b):=cell_of hI rfl
 have hlA:=lt_of_block F.box
 have hlI:=lt_of_block hI
 clear b1 F1 hI F hX
 rw [ho] at i0 hW1 ⊢
 clear ho
 go_enter Tryd.func82,Tryd.ntmps82
 go_wp2
 go_ret
 exact pt_new HX.out HB.out (by simp) rfl rfl
theorem pu_20 (F:FlAt B w A p f V fi at_ mo) (i:In3) (top low:Int) (hX:∀ j,X j→B≤j∧j<w.heap.size) (ho:i.o=20):Calls Tryd.prog 82 #[.pointer (some ⟨A,0,none⟩),.agg #[.int .i64 i.o,.int .i64 i.a,.int .i64 i.b],.int .i64 top,.int .i64 low] w (PtO X fi at_ (.ok [0]) w):=by
 obtain ⟨W1,hW1,b1,hI⟩:=bxi w i
 have F1:=F.below b1
 have HB:=hide b1
 have HF1:=hide F1
 have HX:=hide hX
 have i0:W1.cell? ⟨w.heap.size,0,none⟩=some (.int .i64 i.o):=cell_of hI rfl
 have i1:W1.cell? ⟨w.heap.size,1,none⟩=some (.int .i64 i.a):=cell_of hI rfl
 have i2:W1.cell? ⟨w.heap.size,2,none⟩=some (.int .i64 i.b):=cell_of hI rfl
 have hlA:=lt_of_block F.box
 have hlI:=lt_of_block hI
 clear b1 F1 hI F hX
 rw [ho] at i0 hW1 ⊢
 clear ho
 go_enter Tryd.func82,Tryd.ntmps82
 go_wp2
 go_ret
 exact pt_new HX.out HB.out (by simp) rfl rfl
theorem pu_19 (F:FlAt B w A p f V fi at_ mo) (i:In3) (top low:Int) (hX:∀ j,X j→B≤j∧j<w.heap.size) (ho:i.o=19):Calls Tryd.prog 82 #[.pointer (some ⟨A,0,none⟩),.agg #[.int .i64 i.o,.int .i64 i.a,.int .i64 i.b],.int .i64 top,.int .i64 low] w (PtO X fi at_ (.ok [1]) w):=by
 obtain ⟨W1,hW1,b1,hI⟩:=bxi w i
 have F1:=F.below b1
 have HB:=hide b1
 have HF1:=hide F1
 have HX:=hide hX
 have i0:W1.cell? ⟨w.heap.size,0,none⟩=some (.int .i64 i.o):=cell_of hI rfl
 have i1:W1.cell? ⟨w.heap.size,1,none⟩=some (.int .i64 i.a):=cell_of hI rfl
 have i2:W1.cell? ⟨w.heap.size,2,none⟩=some (.int .i64 i.b):=cell_of hI rfl
 have hlA:=lt_of_block F.box
 have hlI:=lt_of_block hI
 clear b1 F1 hI F hX
 rw [ho] at i0 hW1 ⊢
 clear ho
 go_enter Tryd.func82,Tryd.ntmps82
 go_wp2
 go_ret
 exact pt_new HX.out HB.out (by simp) rfl rfl
theorem pu_2 (F:FlAt B w A p f V fi at_ mo) (i:In3) (top low:Int) (hX:∀ j,X j→B≤j∧j<w.heap.size) (ho:i.o=2):Calls Tryd.prog 82 #[.pointer (some ⟨A,0,none⟩),.agg #[.int .i64 i.o,.int .i64 i.a,.int .i64 i.b],.int .i64 top,.int .i64 low] w (PtO X fi at_ (.ok [i.a]) w):=by
 obtain ⟨W1,hW1,b1,hI⟩:=bxi w i
 have F1:=F.below b1
 have HB:=hide b1
 have HF1:=hide F1
 have HX:=hide hX
 have i0:W1.cell? ⟨w.heap.size,0,none⟩=some (.int .i64 i.o):=cell_of hI rfl
 have i1:W1.cell? ⟨w.heap.size,1,none⟩=some (.int .i64 i.a):=cell_of hI rfl
 have i2:W1.cell? ⟨w.heap.size,2,none⟩=some (.int .i64 i.b):=cell_of hI rfl
 have hlA:=lt_of_block F.box
 have hlI:=lt_of_block hI
 clear b1 F1 hI F hX
 rw [ho] at i0 hW1 ⊢
 clear ho
 go_enter Tryd.func82,Tryd.ntmps82
 go_wp2
 go_ret
 exact pt_new HX.out HB.out (by simp) rfl rfl
theorem pu_6 (F:FlAt B w A p f V fi at_ mo) (i:In3) (top low:Int) (hX:∀ j,X j→B≤j∧j<w.heap.size) (ho:i.o=6):Calls Tryd.prog 82 #[.pointer (some ⟨A,0,none⟩),.agg #[.int .i64 i.o,.int .i64 i.a,.int .i64 i.b],.int .i64 top,.int .i64 low] w (PtO X fi at_ (.ok [low,low]) w):=by
 obtain ⟨W1,hW1,b1,hI⟩:=bxi w i
 have F1:=F.below b1
 have HB:=hide b1
 have HF1:=hide F1
 have HX:=hide hX
 have i0:W1.cell? ⟨w.heap.size,0,none⟩=some (.int .i64 i.o):=cell_of hI rfl
 have i1:W1.cell? ⟨w.heap.size,1,none⟩=some (.int .i64 i.a):=cell_of hI rfl
 have i2:W1.cell? ⟨w.heap.size,2,none⟩=some (.int .i64 i.b):=cell_of hI rfl
 have hlA:=lt_of_block F.box
 have hlI:=lt_of_block hI
 clear b1 F1 hI F hX
 rw [ho] at i0 hW1 ⊢
 clear ho
 go_enter Tryd.func82,Tryd.ntmps82
 go_wp2
 go_ret
 exact pt_new HX.out HB.out (by simp) rfl rfl
theorem pu_11 (F:FlAt B w A p f V fi at_ mo) (i:In3) (top low:Int) (hX:∀ j,X j→B≤j∧j<w.heap.size) (ho:i.o=11) {k:Nat} (ha:i.a=(k:Int)) (hk:k≤2000):Calls Tryd.prog 82 #[.pointer (some ⟨A,0,none⟩),.agg #[.int .i64 i.o,.int .i64 i.a,.int .i64 i.b],.int .i64 top,.int .i64 low] w (PtO X fi at_ (.ok [2+2*i.a]) w):=by
 obtain ⟨W1,hW1,b1,hI⟩:=bxi w i
 have F1:=F.below b1
 have HB:=hide b1
 have HF1:=hide F1
 have HX:=hide hX
 have i0:W1.cell? ⟨w.heap.size,0,none⟩=some (.int .i64 i.o):=cell_of hI rfl
 have i1:W1.cell? ⟨w.heap.size,1,none⟩=some (.int .i64 i.a):=cell_of hI rfl
 have i2:W1.cell? ⟨w.heap.size,2,none⟩=some (.int .i64 i.b):=cell_of hI rfl
 have hlA:=lt_of_block F.box
 have hlI:=lt_of_block hI
 clear b1 F1 hI F hX
 rw [ha] at i1 hW1 ⊢
 have b2:(k:Int)≤2000:=by omega
 have b3:(0:Int)≤(k:Int):=by omega
 rw [ho] at i0 hW1 ⊢
 clear ho
 go_enter Tryd.func82,Tryd.ntmps82
 go_wp2
 go_ret
 exact pt_new HX.out HB.out (by simp) rfl rfl
theorem pu_21 (F:FlAt B w A p f V fi at_ mo) (i:In3) (top low:Int) (hX:∀ j,X j→B≤j∧j<w.heap.size) (ho:i.o=21) {k:Nat} (ha:i.a=(k:Int)) (hk:k≤2000):Calls Tryd.prog 82 #[.pointer (some ⟨A,0,none⟩),.agg #[.int .i64 i.o,.int .i64 i.a,.int .i64 i.b],.int .i64 top,.int .i64 low] w (PtO X fi at_ (.ok [2+2*i.a]) w):=by
 obtain ⟨W1,hW1,b1,hI⟩:=bxi w i
 have F1:=F.below b1
 have HB:=hide b1
 have HF1:=hide F1
 have HX:=hide hX
 have i0:W1.cell? ⟨w.heap.size,0,none⟩=some (.int .i64 i.o):=cell_of hI rfl
 have i1:W1.cell? ⟨w.heap.size,1,none⟩=some (.int .i64 i.a):=cell_of hI rfl
 have i2:W1.cell? ⟨w.heap.size,2,none⟩=some (.int .i64 i.b):=cell_of hI rfl
 have hlA:=lt_of_block F.box
 have hlI:=lt_of_block hI
 clear b1 F1 hI F hX
 rw [ha] at i1 hW1 ⊢
 have b2:(k:Int)≤2000:=by omega
 have b3:(0:Int)≤(k:Int):=by omega
 rw [ho] at i0 hW1 ⊢
 clear ho
 go_enter Tryd.func82,Tryd.ntmps82
 go_wp2
 go_ret
 exact pt_new HX.out HB.out (by simp) rfl rfl
theorem pu_12 (F:FlAt B w A p f V fi at_ mo) (i:In3) (top low:Int) (hX:∀ j,X j→B≤j∧j<w.heap.size) (ho:i.o=12) {k:Nat} (ha:i.a=(k:Int)) (hk:k≤2000):Calls Tryd.prog 82 #[.pointer (some ⟨A,0,none⟩),.agg #[.int .i64 i.o,.int .i64 i.a,.int .i64 i.b],.int .i64 top,.int .i64 low] w (PtO X fi at_ (.ok [3+2*i.a]) w):=by
 obtain ⟨W1,hW1,b1,hI⟩:=bxi w i
 have F1:=F.below b1
 have HB:=hide b1
 have HF1:=hide F1
 have HX:=hide hX
 have i0:W1.cell? ⟨w.heap.size,0,none⟩=some (.int .i64 i.o):=cell_of hI rfl
 have i1:W1.cell? ⟨w.heap.size,1,none⟩=some (.int .i64 i.a):=cell_of hI rfl
 have i2:W1.cell? ⟨w.heap.size,2,none⟩=some (.int .i64 i.b):=cell_of hI rfl
 have hlA:=lt_of_block F.box
 have hlI:=lt_of_block hI
 clear b1 F1 hI F hX
 rw [ha] at i1 hW1 ⊢
 have b2:(k:Int)≤2000:=by omega
 have b3:(0:Int)≤(k:Int):=by omega
 rw [ho] at i0 hW1 ⊢
 clear ho
 go_enter Tryd.func82,Tryd.ntmps82
 go_wp2
 go_ret
 exact pt_new HX.out HB.out (by simp) rfl rfl
theorem pu_29 (F:FlAt B w A p f V fi at_ mo) (i:In3) (top low:Int) (hX:∀ j,X j→B≤j∧j<w.heap.size) (ho:i.o=29) {k:Nat} (ha:i.b=(k:Int)) (hk:k≤2000):Calls Tryd.prog 82 #[.pointer (some ⟨A,0,none⟩),.agg #[.int .i64 i.o,.int .i64 i.a,.int .i64 i.b],.int .i64 top,.int .i64 low] w (PtO X fi at_ (.ok [3+2*i.b]) w):=by
 obtain ⟨W1,hW1,b1,hI⟩:=bxi w i
 have F1:=F.below b1
 have HB:=hide b1
 have HF1:=hide F1
 have HX:=hide hX
 have i0:W1.cell? ⟨w.heap.size,0,none⟩=some (.int .i64 i.o):=cell_of hI rfl
 have i1:W1.cell? ⟨w.heap.size,1,none⟩=some (.int .i64 i.a):=cell_of hI rfl
 have i2:W1.cell? ⟨w.heap.size,2,none⟩=some (.int .i64 i.b):=cell_of hI rfl
 have hlA:=lt_of_block F.box
 have hlI:=lt_of_block hI
 clear b1 F1 hI F hX
 rw [ha] at i2 hW1 ⊢
 have b2:(k:Int)≤2000:=by omega
 have b3:(0:Int)≤(k:Int):=by omega
 rw [ho] at i0 hW1 ⊢
 clear ho
 go_enter Tryd.func82,Tryd.ntmps82
 go_wp2
 go_ret
 exact pt_new HX.out HB.out (by simp) rfl rfl
theorem pu_17 (F:FlAt B w A p f V fi at_ mo) (i:In3) (top low:Int) (hX:∀ j,X j→B≤j∧j<w.heap.size) (ho:i.o=17) (hlo:3≤low∧low≤4000000):Calls Tryd.prog 82 #[.pointer (some ⟨A,0,none⟩),.agg #[.int .i64 i.o,.int .i64 i.a,.int .i64 i.b],.int .i64 top,.int .i64 low] w (PtO X fi at_ (.ok [low - 1]) w):=by
 obtain ⟨W1,hW1,b1,hI⟩:=bxi w i
 have F1:=F.below b1
 have HB:=hide b1
 have HF1:=hide F1
 have HX:=hide hX
 have i0:W1.cell? ⟨w.heap.size,0,none⟩=some (.int .i64 i.o):=cell_of hI rfl
 have i1:W1.cell? ⟨w.heap.size,1,none⟩=some (.int .i64 i.a):=cell_of hI rfl
 have i2:W1.cell? ⟨w.heap.size,2,none⟩=some (.int .i64 i.b):=cell_of hI rfl
 have hlA:=lt_of_block F.box
 have hlI:=lt_of_block hI
 clear b1 F1 hI F hX
 obtain ⟨b4,b5⟩:=hlo
 rw [ho] at i0 hW1 ⊢
 clear ho
 go_enter Tryd.func82,Tryd.ntmps82
 go_wp2
 go_ret
 rw [show low - 1=low - 3+2 by omega]
 exact pt_new HX.out HB.out (by simp) rfl rfl
theorem pu_3 (F:FlAt B w A p f V fi at_ mo) (i:In3) (top low:Int) (hX:∀ j,X j→B≤j∧j<w.heap.size) (ho:i.o=3) {k:Nat} {x:Int} (ha:i.a=(k:Int)) (hx:f.lo[k]?=some x):Calls Tryd.prog 82 #[.pointer (some ⟨A,0,none⟩),.agg #[.int .i64 i.o,.int .i64 i.a,.int .i64 i.b],.int .i64 top,.int .i64 low] w (PtO X fi at_ (.ok [x]) w):=by
 obtain ⟨W1,hW1,b1,hI⟩:=bxi w i
 have F1:=F.below b1
 have HB:=hide b1
 have HF1:=hide F1
 have HX:=hide hX
 have i0:W1.cell? ⟨w.heap.size,0,none⟩=some (.int .i64 i.o):=cell_of hI rfl
 have i1:W1.cell? ⟨w.heap.size,1,none⟩=some (.int .i64 i.a):=cell_of hI rfl
 have i2:W1.cell? ⟨w.heap.size,2,none⟩=some (.int .i64 i.b):=cell_of hI rfl
 have hlA:=lt_of_block F.box
 have hlI:=lt_of_block hI
 clear b1 F1 hI F hX
 have cq:W1.cell? ⟨A,7,none⟩=some V.u1:=cell_of HF1.out.box rfl
 obtain ⟨ao,cap,hao,_,hel⟩:=HF1.out.lo
 rw [hao] at cq
 obtain ⟨g,q,rfl,hg,hc,_⟩:=ints_at hel hx
 have hgw:g<W1.heap.size:=Nat.lt_of_lt_of_le hg HF1.out.hB
 have hlt:k<f.lo.length:=get_lt hx
 have e1:decide (k<f.lo.length)=true:=by simpa using hlt
 rw [ha] at i1 hW1 ⊢
 clear hao hel hx ha
 generalize f.lo.length=ll at *
 rw [ho] at i0 hW1 ⊢
 clear ho
 go_enter Tryd.func82,Tryd.ntmps82
 go_wp2_with fail
 go_region
 all_goals go_wp2
 all_goals go_ret
 all_goals exact pt_drew (pt_new HX.out HB.out (by simp) rfl rfl)
theorem pu_13 (F:FlAt B w A p f V fi at_ mo) (i:In3) (top low:Int) (hX:∀ j,X j→B≤j∧j<w.heap.size) (ho:i.o=13) {k:Nat} {x:Int} (ha:i.a=(k:Int)) (hx:f.ar[k]?=some x) (hxr:0≤x∧x≤2000):Calls Tryd.prog 82 #[.pointer (some ⟨A,0,none⟩),.agg #[.int .i64 i.o,.int .i64 i.a,.int .i64 i.b],.int .i64 top,.int .i64 low] w (PtO X fi at_ (.ok [1048576+2+2*x]) w):=by
 obtain ⟨W1,hW1,b1,hI⟩:=bxi w i
 have F1:=F.below b1
 have HB:=hide b1
 have HF1:=hide F1
 have HX:=hide hX
 have i0:W1.cell? ⟨w.heap.size,0,none⟩=some (.int .i64 i.o):=cell_of hI rfl
 have i1:W1.cell? ⟨w.heap.size,1,none⟩=some (.int .i64 i.a):=cell_of hI rfl
 have i2:W1.cell? ⟨w.heap.size,2,none⟩=some (.int .i64 i.b):=cell_of hI rfl
 have hlA:=lt_of_block F.box
 have hlI:=lt_of_block hI
 clear b1 F1 hI F hX
 have cq:W1.cell? ⟨A,9,none⟩=some V.u3:=cell_of HF1.out.box rfl
 obtain ⟨ao,cap,hao,_,hel⟩:=HF1.out.ar
 rw [hao] at cq
 obtain ⟨g,q,rfl,hg,hc,_⟩:=ints_at hel hx
 have hgw:g<W1.heap.size:=Nat.lt_of_lt_of_le hg HF1.out.hB
 have hlt:k<f.ar.length:=get_lt hx
 have e1:decide (k<f.ar.length)=true:=by simpa using hlt
 rw [ha] at i1 hW1 ⊢
 obtain ⟨b4,b5⟩:=hxr
 have b6:IntKind.i64.wrap (2*x)=2*x:=by
  obtain ⟨y,rfl⟩ : ∃ y:Nat,x=(y:Int):=⟨x.toNat,by omega⟩
  rw [show (2:Int)*(y:Int)=((2*y:Nat):Int) by omega]
  exact wrap_nat (by omega)
 have b7:IntKind.i64.wrap (1048578+2*x)=1048578+2*x:=by
  obtain ⟨y,rfl⟩ : ∃ y:Nat,x=(y:Int):=⟨x.toNat,by omega⟩
  rw [show (1048578:Int)+2*(y:Int)=((1048578+2*y:Nat):Int) by omega]
  exact wrap_nat (by omega)
 rw [show (1048576:Int)+2+2*x=1048578+2*x by omega]
 clear hao hel hx ha
 generalize f.ar.length=ll at *
 rw [ho] at i0 hW1 ⊢
 clear ho
 go_enter Tryd.func82,Tryd.ntmps82
 go_wp2_with fail
 go_region
 all_goals go_wp2
 all_goals go_ret
 all_goals exact pt_drew (pt_new HX.out HB.out (by simp) rfl rfl)
theorem pu_rest (F:FlAt B w A p f V fi at_ mo) (i:In3) (top low:Int) (hX:∀ j,X j→B≤j∧j<w.heap.size) (ho:i.o≠1∧i.o≠7∧i.o≠8∧i.o≠18∧i.o≠20∧i.o≠2∧i.o≠3∧i.o≠6∧i.o≠11∧i.o≠21∧i.o≠12∧i.o≠13∧i.o≠14∧i.o≠15∧i.o≠16∧i.o≠17∧i.o≠19∧i.o≠22∧i.o≠23∧i.o≠29):Calls Tryd.prog 82 #[.pointer (some ⟨A,0,none⟩),.agg #[.int .i64 i.o,.int .i64 i.a,.int .i64 i.b],.int .i64 top,.int .i64 low] w (PtO X fi at_ (.ok []) w):=by
 obtain ⟨W1,hW1,b1,hI⟩:=bxi w i
 have F1:=F.below b1
 have HB:=hide b1
 have HF1:=hide F1
 have HX:=hide hX
 have i0:W1.cell? ⟨w.heap.size,0,none⟩=some (.int .i64 i.o):=cell_of hI rfl
 have i1:W1.cell? ⟨w.heap.size,1,none⟩=some (.int .i64 i.a):=cell_of hI rfl
 have i2:W1.cell? ⟨w.heap.size,2,none⟩=some (.int .i64 i.b):=cell_of hI rfl
 have hlA:=lt_of_block F.box
 have hlI:=lt_of_block hI
 clear b1 F1 hI F hX
 have q1:(i.o == 1)=false:=by simp;omega
 have q7:(i.o == 7)=false:=by simp;omega
 have q8:(i.o == 8)=false:=by simp;omega
 have q18:(i.o == 18)=false:=by simp;omega
 have q20:(i.o == 20)=false:=by simp;omega
 have q2:(i.o == 2)=false:=by simp;omega
 have q3:(i.o == 3)=false:=by simp;omega
 have q6:(i.o == 6)=false:=by simp;omega
 have q11:(i.o == 11)=false:=by simp;omega
 have q21:(i.o == 21)=false:=by simp;omega
 have q12:(i.o == 12)=false:=by simp;omega
 have q13:(i.o == 13)=false:=by simp;omega
 have q14:(i.o == 14)=false:=by simp;omega
 have q15:(i.o == 15)=false:=by simp;omega
 have q16:(i.o == 16)=false:=by simp;omega
 have q17:(i.o == 17)=false:=by simp;omega
 have q19:(i.o == 19)=false:=by simp;omega
 have q22:(i.o == 22)=false:=by simp;omega
 have q23:(i.o == 23)=false:=by simp;omega
 have q29:(i.o == 29)=false:=by simp;omega
 clear ho
 go_enter Tryd.func82,Tryd.ntmps82
 go_wp2
 go_ret
 exact ⟨⟨_,rfl,isAt_none⟩,HB.out⟩
end
end Go.Proofs.YtkdojpnihinpbaaDoor
