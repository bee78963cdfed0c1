/- names: are A and B what they must be? -/
import Derived.Test.YtkdojpnihinpbaaGreatDoorVfHJo
namespace Go.Proofs.YtkdojpnihinpbaaGreatDoor
set_option maxRecDepth 100000
set_option maxHeartbeats 1000000
open Go.RowKit
section
variable {B A:Nat} {w w' : World} {p:Pg} {f:Fd} {V:Fv} {fi at_ mo:Int}
theorem FlAt.below (F:FlAt B w A p f V fi at_ mo) (h:Below w.heap.size w w'):FlAt B w' A p f V fi at_ mo :=
  F.keep (fun j hj=>h.block j (Nat.lt_of_lt_of_le hj F.hB)) (h.block A (lt_of_block F.box)) h.size
structure NmC (W:World) (A b:Nat) (i:In3) (n1 n2 n3 n4 l1 l3:Nat):Prop where
  c2:∃ a c,W.cell? ⟨A,2,none⟩=some (.slice a n1 c)
  c3:∃ a c,W.cell? ⟨A,3,none⟩=some (.slice a n2 c)
  c4:∃ a c,W.cell? ⟨A,4,none⟩=some (.slice a n3 c)
  c5:∃ a c,W.cell? ⟨A,5,none⟩=some (.slice a n4 c)
  c7:∃ a c,W.cell? ⟨A,7,none⟩=some (.slice a l1 c)
  c9:∃ a c,W.cell? ⟨A,9,none⟩=some (.slice a l3 c)
  i0:W.cell? ⟨b,0,none⟩=some (.int .i64 i.o)
  i1:W.cell? ⟨b,1,none⟩=some (.int .i64 i.a)
  i2:W.cell? ⟨b,2,none⟩=some (.int .i64 i.b)
theorem sl_form {α:Type} {k:Nat} {P:World→List Value→α→Prop} {v:Value} {l:List α} (R:SlAt k P B w v l):∃ a c,v=.slice a l.length c:=by
 obtain ⟨a,c,h,_⟩:=R
 exact ⟨a,c,h⟩
theorem FlAt.nmc (F:FlAt B w A p f V fi at_ mo) (i:In3) {b:Nat} (hb:w.heap[b]?=some (.cells #[.int .i64 i.o,.int .i64 i.a,.int .i64 i.b] 46 (0,0))):NmC w A b i p.ty.length p.fu.length p.ta.length p.st.length f.lo.length f.ar.length:=by
 obtain ⟨a1,d1,h1⟩:=sl_form F.pg.ty
 obtain ⟨a2,d2,h2⟩:=sl_form F.pg.fu
 obtain ⟨a3,d3,h3⟩:=sl_form F.pg.ta
 obtain ⟨a4,d4,h4⟩:=sl_form F.pg.st
 obtain ⟨a5,d5,h5⟩:=sl_form F.lo
 obtain ⟨a6,d6,h6⟩:=sl_form F.ar
 exact ⟨⟨a1,d1,h1 ▸ cell_of F.box rfl⟩,⟨a2,d2,h2 ▸ cell_of F.box rfl⟩,⟨a3,d3,h3 ▸ cell_of F.box rfl⟩,⟨a4,d4,h4 ▸ cell_of F.box rfl⟩,⟨a5,d5,h5 ▸ cell_of F.box rfl⟩,⟨a6,d6,h6 ▸ cell_of F.box rfl⟩,cell_of hb rfl,cell_of hb rfl,cell_of hb rfl⟩
theorem nm_lo_3 (F:FlAt B w A p f V fi at_ mo) (i:In3) (ho:i.o=3):Calls Tryz.prog 73 #[.pointer (some ⟨A,0,none⟩),.agg #[.int .i64 i.o,.int .i64 i.a,.int .i64 i.b]] w fun e w'=>e=.returned (.bool (inB i.a f.lo.length))∧Below w.heap.size w w':=by
 obtain ⟨W1,hW1,b1,-⟩:=bxi w i
 have F1:=F.below b1
 have HB:=hide b1
 have HF1:=hide F1
 have N:=F1.nmc i (b:=w.heap.size) (by rw [← hW1];exact heap_new _ _ rfl)
 obtain ⟨⟨a2,d2,c2⟩,⟨a3,d3,c3⟩,⟨a4,d4,c4⟩,⟨a5,d5,c5⟩,⟨a7,d7,c7⟩,⟨a9,d9,c9⟩,i0,i1,i2⟩:=N
 have hlA:=lt_of_block F.box
 clear b1 F1 F
 generalize p.ty.length=n1 at *
 generalize p.fu.length=n2 at *
 generalize p.ta.length=n3 at *
 generalize p.st.length=n4 at *
 generalize f.lo.length=l1 at *
 generalize f.ar.length=l3 at *
 rw [ho] at i0 hW1 ⊢
 clear ho
 go_enter Tryz.func73,Tryz.ntmps73
 go_wp2_with fail
 go_quiet ((first | (go_at_call 32;exact Calls.quiet_of_same (within_any _ _ _))))
 go_wp2
 go_ret
 exact ⟨rfl,below_drewN HB.out _⟩
theorem nm_lo_4 (F:FlAt B w A p f V fi at_ mo) (i:In3) (ho:i.o=4):Calls Tryz.prog 73 #[.pointer (some ⟨A,0,none⟩),.agg #[.int .i64 i.o,.int .i64 i.a,.int .i64 i.b]] w fun e w'=>e=.returned (.bool (inB i.a f.lo.length))∧Below w.heap.size w w':=by
 obtain ⟨W1,hW1,b1,-⟩:=bxi w i
 have F1:=F.below b1
 have HB:=hide b1
 have HF1:=hide F1
 have N:=F1.nmc i (b:=w.heap.size) (by rw [← hW1];exact heap_new _ _ rfl)
 obtain ⟨⟨a2,d2,c2⟩,⟨a3,d3,c3⟩,⟨a4,d4,c4⟩,⟨a5,d5,c5⟩,⟨a7,d7,c7⟩,⟨a9,d9,c9⟩,i0,i1,i2⟩:=N
 have hlA:=lt_of_block F.box
 clear b1 F1 F
 generalize p.ty.length=n1 at *
 generalize p.fu.length=n2 at *
 generalize p.ta.length=n3 at *
 generalize p.st.length=n4 at *
 generalize f.lo.length=l1 at *
 generalize f.ar.length=l3 at *
 rw [ho] at i0 hW1 ⊢
 clear ho
 go_enter Tryz.func73,Tryz.ntmps73
 go_wp2_with fail
 go_quiet ((first | (go_at_call 32;exact Calls.quiet_of_same (within_any _ _ _))))
 go_wp2
 go_ret
 exact ⟨rfl,below_drewN HB.out _⟩
theorem nm_ar_13 (F:FlAt B w A p f V fi at_ mo) (i:In3) (ho:i.o=13):Calls Tryz.prog 73 #[.pointer (some ⟨A,0,none⟩),.agg #[.int .i64 i.o,.int .i64 i.a,.int .i64 i.b]] w fun e w'=>e=.returned (.bool (inB i.a f.ar.length))∧Below w.heap.size w w':=by
 obtain ⟨W1,hW1,b1,-⟩:=bxi w i
 have F1:=F.below b1
 have HB:=hide b1
 have HF1:=hide F1
 have N:=F1.nmc i (b:=w.heap.size) (by rw [← hW1];exact heap_new _ _ rfl)
 obtain ⟨⟨a2,d2,c2⟩,⟨a3,d3,c3⟩,⟨a4,d4,c4⟩,⟨a5,d5,c5⟩,⟨a7,d7,c7⟩,⟨a9,d9,c9⟩,i0,i1,i2⟩:=N
 have hlA:=lt_of_block F.box
 clear b1 F1 F
 generalize p.ty.length=n1 at *
 generalize p.fu.length=n2 at *
 generalize p.ta.length=n3 at *
 generalize p.st.length=n4 at *
 generalize f.lo.length=l1 at *
 generalize f.ar.length=l3 at *
 rw [ho] at i0 hW1 ⊢
 clear ho
 go_enter Tryz.func73,Tryz.ntmps73
 go_wp2_with fail
 go_quiet ((first | (go_at_call 32;exact Calls.quiet_of_same (within_any _ _ _))))
 go_wp2
 go_ret
 exact ⟨rfl,below_drewN HB.out _⟩
theorem nm_fu_22 (F:FlAt B w A p f V fi at_ mo) (i:In3) (ho:i.o=22):Calls Tryz.prog 73 #[.pointer (some ⟨A,0,none⟩),.agg #[.int .i64 i.o,.int .i64 i.a,.int .i64 i.b]] w fun e w'=>e=.returned (.bool (inB i.a p.fu.length))∧Below w.heap.size w w':=by
 obtain ⟨W1,hW1,b1,-⟩:=bxi w i
 have F1:=F.below b1
 have HB:=hide b1
 have HF1:=hide F1
 have N:=F1.nmc i (b:=w.heap.size) (by rw [← hW1];exact heap_new _ _ rfl)
 obtain ⟨⟨a2,d2,c2⟩,⟨a3,d3,c3⟩,⟨a4,d4,c4⟩,⟨a5,d5,c5⟩,⟨a7,d7,c7⟩,⟨a9,d9,c9⟩,i0,i1,i2⟩:=N
 have hlA:=lt_of_block F.box
 clear b1 F1 F
 generalize p.ty.length=n1 at *
 generalize p.fu.length=n2 at *
 generalize p.ta.length=n3 at *
 generalize p.st.length=n4 at *
 generalize f.lo.length=l1 at *
 generalize f.ar.length=l3 at *
 rw [ho] at i0 hW1 ⊢
 clear ho
 go_enter Tryz.func73,Tryz.ntmps73
 go_wp2_with fail
 go_quiet ((first | (go_at_call 32;exact Calls.quiet_of_same (within_any _ _ _))))
 go_wp2
 go_ret
 exact ⟨rfl,below_drewN HB.out _⟩
theorem nm_ta_23 (F:FlAt B w A p f V fi at_ mo) (i:In3) (ho:i.o=23):Calls Tryz.prog 73 #[.pointer (some ⟨A,0,none⟩),.agg #[.int .i64 i.o,.int .i64 i.a,.int .i64 i.b]] w fun e w'=>e=.returned (.bool (inB i.a p.ta.length))∧Below w.heap.size w w':=by
 obtain ⟨W1,hW1,b1,-⟩:=bxi w i
 have F1:=F.below b1
 have HB:=hide b1
 have HF1:=hide F1
 have N:=F1.nmc i (b:=w.heap.size) (by rw [← hW1];exact heap_new _ _ rfl)
 obtain ⟨⟨a2,d2,c2⟩,⟨a3,d3,c3⟩,⟨a4,d4,c4⟩,⟨a5,d5,c5⟩,⟨a7,d7,c7⟩,⟨a9,d9,c9⟩,i0,i1,i2⟩:=N
 have hlA:=lt_of_block F.box
 clear b1 F1 F
 generalize p.ty.length=n1 at *
 generalize p.fu.length=n2 at *
 generalize p.ta.length=n3 at *
 generalize p.st.length=n4 at *
 generalize f.lo.length=l1 at *
 generalize f.ar.length=l3 at *
 rw [ho] at i0 hW1 ⊢
 clear ho
 go_enter Tryz.func73,Tryz.ntmps73
 go_wp2_with fail
 go_quiet ((first | (go_at_call 32;exact Calls.quiet_of_same (within_any _ _ _))))
 go_wp2
 go_ret
 exact ⟨rfl,below_drewN HB.out _⟩
theorem nm_ty_11 (F:FlAt B w A p f V fi at_ mo) (i:In3) (ho:i.o=11):Calls Tryz.prog 73 #[.pointer (some ⟨A,0,none⟩),.agg #[.int .i64 i.o,.int .i64 i.a,.int .i64 i.b]] w fun e w'=>e=.returned (.bool (inB i.a p.ty.length))∧Below w.heap.size w w':=by
 obtain ⟨W1,hW1,b1,-⟩:=bxi w i
 have F1:=F.below b1
 have HB:=hide b1
 have HF1:=hide F1
 have N:=F1.nmc i (b:=w.heap.size) (by rw [← hW1];exact heap_new _ _ rfl)
 obtain ⟨⟨a2,d2,c2⟩,⟨a3,d3,c3⟩,⟨a4,d4,c4⟩,⟨a5,d5,c5⟩,⟨a7,d7,c7⟩,⟨a9,d9,c9⟩,i0,i1,i2⟩:=N
 have hlA:=lt_of_block F.box
 clear b1 F1 F
 generalize p.ty.length=n1 at *
 generalize p.fu.length=n2 at *
 generalize p.ta.length=n3 at *
 generalize p.st.length=n4 at *
 generalize f.lo.length=l1 at *
 generalize f.ar.length=l3 at *
 rw [ho] at i0 hW1 ⊢
 clear ho
 go_enter Tryz.func73,Tryz.ntmps73
 go_wp2_with fail
 refine (within_any _ _ _).mono ?_
 rintro e w2 ⟨rfl,rfl⟩
 go_wp2
 go_ret
 exact ⟨rfl,HB.out⟩
theorem nm_ty_12 (F:FlAt B w A p f V fi at_ mo) (i:In3) (ho:i.o=12):Calls Tryz.prog 73 #[.pointer (some ⟨A,0,none⟩),.agg #[.int .i64 i.o,.int .i64 i.a,.int .i64 i.b]] w fun e w'=>e=.returned (.bool (inB i.a p.ty.length))∧Below w.heap.size w w':=by
 obtain ⟨W1,hW1,b1,-⟩:=bxi w i
 have F1:=F.below b1
 have HB:=hide b1
 have HF1:=hide F1
 have N:=F1.nmc i (b:=w.heap.size) (by rw [← hW1];exact heap_new _ _ rfl)
 obtain ⟨⟨a2,d2,c2⟩,⟨a3,d3,c3⟩,⟨a4,d4,c4⟩,⟨a5,d5,c5⟩,⟨a7,d7,c7⟩,⟨a9,d9,c9⟩,i0,i1,i2⟩:=N
 have hlA:=lt_of_block F.box
 clear b1 F1 F
 generalize p.ty.length=n1 at *
 generalize p.fu.length=n2 at *
 generalize p.ta.length=n3 at *
 generalize p.st.length=n4 at *
 generalize f.lo.length=l1 at *
 generalize f.ar.length=l3 at *
 rw [ho] at i0 hW1 ⊢
 clear ho
 go_enter Tryz.func73,Tryz.ntmps73
 go_wp2_with fail
 refine (within_any _ _ _).mono ?_
 rintro e w2 ⟨rfl,rfl⟩
 go_wp2
 go_ret
 exact ⟨rfl,HB.out⟩
theorem nm_ty_21 (F:FlAt B w A p f V fi at_ mo) (i:In3) (ho:i.o=21):Calls Tryz.prog 73 #[.pointer (some ⟨A,0,none⟩),.agg #[.int .i64 i.o,.int .i64 i.a,.int .i64 i.b]] w fun e w'=>e=.returned (.bool (inB i.a p.ty.length))∧Below w.heap.size w w':=by
 obtain ⟨W1,hW1,b1,-⟩:=bxi w i
 have F1:=F.below b1
 have HB:=hide b1
 have HF1:=hide F1
 have N:=F1.nmc i (b:=w.heap.size) (by rw [← hW1];exact heap_new _ _ rfl)
 obtain ⟨⟨a2,d2,c2⟩,⟨a3,d3,c3⟩,⟨a4,d4,c4⟩,⟨a5,d5,c5⟩,⟨a7,d7,c7⟩,⟨a9,d9,c9⟩,i0,i1,i2⟩:=N
 have hlA:=lt_of_block F.box
 clear b1 F1 F
 generalize p.ty.length=n1 at *
 generalize p.fu.length=n2 at *
 generalize p.ta.length=n3 at *
 generalize p.st.length=n4 at *
 generalize f.lo.length=l1 at *
 generalize f.ar.length=l3 at *
 rw [ho] at i0 hW1 ⊢
 clear ho
 go_enter Tryz.func73,Tryz.ntmps73
 go_wp2_with fail
 refine (within_any _ _ _).mono ?_
 rintro e w2 ⟨rfl,rfl⟩
 go_wp2
 go_ret
 exact ⟨rfl,HB.out⟩
theorem nm_tb_16 (F:FlAt B w A p f V fi at_ mo) (i:In3) (ho:i.o=16):Calls Tryz.prog 73 #[.pointer (some ⟨A,0,none⟩),.agg #[.int .i64 i.o,.int .i64 i.a,.int .i64 i.b]] w fun e w'=>e=.returned (.bool (inB i.b p.ty.length))∧Below w.heap.size w w':=by
 obtain ⟨W1,hW1,b1,-⟩:=bxi w i
 have F1:=F.below b1
 have HB:=hide b1
 have HF1:=hide F1
 have N:=F1.nmc i (b:=w.heap.size) (by rw [← hW1];exact heap_new _ _ rfl)
 obtain ⟨⟨a2,d2,c2⟩,⟨a3,d3,c3⟩,⟨a4,d4,c4⟩,⟨a5,d5,c5⟩,⟨a7,d7,c7⟩,⟨a9,d9,c9⟩,i0,i1,i2⟩:=N
 have hlA:=lt_of_block F.box
 clear b1 F1 F
 generalize p.ty.length=n1 at *
 generalize p.fu.length=n2 at *
 generalize p.ta.length=n3 at *
 generalize p.st.length=n4 at *
 generalize f.lo.length=l1 at *
 generalize f.ar.length=l3 at *
 rw [ho] at i0 hW1 ⊢
 clear ho
 go_enter Tryz.func73,Tryz.ntmps73
 go_wp2_with fail
 refine (within_any _ _ _).mono ?_
 rintro e w2 ⟨rfl,rfl⟩
 go_wp2
 go_ret
 exact ⟨rfl,HB.out⟩
end
theorem fm4 {B:Nat} {w:World} {p:Pg} {v1 v2 v3 v4:Value} (P:PgAt B w v1 v2 v3 v4 p):(∃ a d,v1=.slice a p.ty.length d)∧(∃ a d,v2=.slice a p.fu.length d)∧(∃ a d,v3=.slice a p.ta.length d)∧∃ a d,v4=.slice a p.st.length d:=⟨sl_form P.ty,sl_form P.fu,sl_form P.ta,sl_form P.st⟩
theorem fm3 {B:Nat} {w:World} {l m n:List Int} {u1 u2 u3:Value} (s1:SlAt 1 IntP B w u1 l) (s2:SlAt 1 IntP B w u2 m) (s3:SlAt 1 IntP B w u3 n):(∃ a d,u1=.slice a l.length d)∧(∃ a d,u2=.slice a m.length d)∧∃ a d,u3=.slice a n.length d:=⟨sl_form s1,sl_form s2,sl_form s3⟩
end Go.Proofs.YtkdojpnihinpbaaGreatDoor

namespace Go.Proofs.YtkdojpnihinpbaaGreatDoor
set_option maxRecDepth 100000
set_option maxHeartbeats 1000000
open Go.RowKit
section
variable {B A:Nat} {w w' : World} {p:Pg} {f:Fd} {V:Fv} {fi at_ mo:Int}
theorem nm_nil_a (F:FlAt B w A p f V fi at_ mo) (i:In3) (ho:i.o=2) (h0:i.a=0):Calls Tryz.prog 73 #[.pointer (some ⟨A,0,none⟩),.agg #[.int .i64 i.o,.int .i64 i.a,.int .i64 i.b]] w fun e w'=>e=.returned (.bool false)∧Below w.heap.size w w':=by
 obtain ⟨W1,hW1,b1,-⟩:=bxi w i
 have F1:=F.below b1
 have HB:=hide b1
 have HF1:=hide F1
 have N:=F1.nmc i (b:=w.heap.size) (by rw [← hW1];exact heap_new _ _ rfl)
 obtain ⟨⟨a2,d2,c2⟩,⟨a3,d3,c3⟩,⟨a4,d4,c4⟩,⟨a5,d5,c5⟩,⟨a7,d7,c7⟩,⟨a9,d9,c9⟩,i0,i1,i2⟩:=N
 have hlA:=lt_of_block F.box
 clear b1 F1 F
 generalize p.ty.length=n1 at *
 generalize p.fu.length=n2 at *
 generalize p.ta.length=n3 at *
 generalize p.st.length=n4 at *
 generalize f.lo.length=l1 at *
 generalize f.ar.length=l3 at *
 rw [ho] at i0 hW1 ⊢
 clear ho
 rw [h0] at i1 hW1 ⊢
 clear h0
 go_enter Tryz.func73,Tryz.ntmps73
 go_wp2
 go_ret
 exact ⟨rfl,HB.out⟩
theorem nm_nil_b (F:FlAt B w A p f V fi at_ mo) (i:In3) (ho:i.o=2) (h0:i.a≠0) (hr : -9223372036854775808≤i.a∧i.a≤9223372036854775807):Calls Tryz.prog 73 #[.pointer (some ⟨A,0,none⟩),.agg #[.int .i64 i.o,.int .i64 i.a,.int .i64 i.b]] w fun e w'=>e=.returned (.bool (isKB p.ty.length i.a))∧Below w.heap.size w w':=by
 obtain ⟨W1,hW1,b1,-⟩:=bxi w i
 have F1:=F.below b1
 have HB:=hide b1
 have HF1:=hide F1
 have N:=F1.nmc i (b:=w.heap.size) (by rw [← hW1];exact heap_new _ _ rfl)
 obtain ⟨⟨a2,d2,c2⟩,⟨a3,d3,c3⟩,⟨a4,d4,c4⟩,⟨a5,d5,c5⟩,⟨a7,d7,c7⟩,⟨a9,d9,c9⟩,i0,i1,i2⟩:=N
 have hlA:=lt_of_block F.box
 clear b1 F1 F
 generalize p.ty.length=n1 at *
 generalize p.fu.length=n2 at *
 generalize p.ta.length=n3 at *
 generalize p.st.length=n4 at *
 generalize f.lo.length=l1 at *
 generalize f.ar.length=l3 at *
 rw [ho] at i0 hW1 ⊢
 clear ho
 have HR:=hide hr
 have z0:(i.a != 0)=true:=by simpa using h0
 clear hr
 go_enter Tryz.func73,Tryz.ntmps73
 go_wp2_with fail
 refine (isKind_any _ _ _ HR.out).mono ?_
 rintro e w2 ⟨rfl,rfl⟩
 go_wp2
 go_ret
 exact ⟨rfl,HB.out⟩
theorem nm_ari_a (F:FlAt B w A p f V fi at_ mo) (i:In3) (ho:i.o=7) (h0:0≤i.a):Calls Tryz.prog 73 #[.pointer (some ⟨A,0,none⟩),.agg #[.int .i64 i.o,.int .i64 i.a,.int .i64 i.b]] w fun e w'=>e=.returned (.bool (decide (i.a≤9)))∧Below w.heap.size w w':=by
 obtain ⟨W1,hW1,b1,-⟩:=bxi w i
 have F1:=F.below b1
 have HB:=hide b1
 have HF1:=hide F1
 have N:=F1.nmc i (b:=w.heap.size) (by rw [← hW1];exact heap_new _ _ rfl)
 obtain ⟨⟨a2,d2,c2⟩,⟨a3,d3,c3⟩,⟨a4,d4,c4⟩,⟨a5,d5,c5⟩,⟨a7,d7,c7⟩,⟨a9,d9,c9⟩,i0,i1,i2⟩:=N
 have hlA:=lt_of_block F.box
 clear b1 F1 F
 generalize p.ty.length=n1 at *
 generalize p.fu.length=n2 at *
 generalize p.ta.length=n3 at *
 generalize p.st.length=n4 at *
 generalize f.lo.length=l1 at *
 generalize f.ar.length=l3 at *
 rw [ho] at i0 hW1 ⊢
 clear ho
 have z0:decide (0≤i.a)=true:=by simpa using h0
 go_enter Tryz.func73,Tryz.ntmps73
 go_wp2
 go_ret
 exact ⟨rfl,HB.out⟩
theorem nm_ari_b (F:FlAt B w A p f V fi at_ mo) (i:In3) (ho:i.o=7) (h0:i.a<0):Calls Tryz.prog 73 #[.pointer (some ⟨A,0,none⟩),.agg #[.int .i64 i.o,.int .i64 i.a,.int .i64 i.b]] w fun e w'=>e=.returned (.bool false)∧Below w.heap.size w w':=by
 obtain ⟨W1,hW1,b1,-⟩:=bxi w i
 have F1:=F.below b1
 have HB:=hide b1
 have HF1:=hide F1
 have N:=F1.nmc i (b:=w.heap.size) (by rw [← hW1];exact heap_new _ _ rfl)
 obtain ⟨⟨a2,d2,c2⟩,⟨a3,d3,c3⟩,⟨a4,d4,c4⟩,⟨a5,d5,c5⟩,⟨a7,d7,c7⟩,⟨a9,d9,c9⟩,i0,i1,i2⟩:=N
 have hlA:=lt_of_block F.box
 clear b1 F1 F
 generalize p.ty.length=n1 at *
 generalize p.fu.length=n2 at *
 generalize p.ta.length=n3 at *
 generalize p.st.length=n4 at *
 generalize f.lo.length=l1 at *
 generalize f.ar.length=l3 at *
 rw [ho] at i0 hW1 ⊢
 clear ho
 have z0:decide (0≤i.a)=false:=by simpa using h0
 go_enter Tryz.func73,Tryz.ntmps73
 go_wp2
 go_ret
 exact ⟨rfl,HB.out⟩
theorem nm_str_a (F:FlAt B w A p f V fi at_ mo) (i:In3) (ho:i.o=29) (h1:inB i.a p.st.length=false):Calls Tryz.prog 73 #[.pointer (some ⟨A,0,none⟩),.agg #[.int .i64 i.o,.int .i64 i.a,.int .i64 i.b]] w fun e w'=>e=.returned (.bool false)∧Below w.heap.size w w':=by
 obtain ⟨W1,hW1,b1,-⟩:=bxi w i
 have F1:=F.below b1
 have HB:=hide b1
 have HF1:=hide F1
 have N:=F1.nmc i (b:=w.heap.size) (by rw [← hW1];exact heap_new _ _ rfl)
 obtain ⟨⟨a2,d2,c2⟩,⟨a3,d3,c3⟩,⟨a4,d4,c4⟩,⟨a5,d5,c5⟩,⟨a7,d7,c7⟩,⟨a9,d9,c9⟩,i0,i1,i2⟩:=N
 have hlA:=lt_of_block F.box
 clear b1 F1 F
 generalize p.ty.length=n1 at *
 generalize p.fu.length=n2 at *
 generalize p.ta.length=n3 at *
 generalize p.st.length=n4 at *
 generalize f.lo.length=l1 at *
 generalize f.ar.length=l3 at *
 rw [ho] at i0 hW1 ⊢
 clear ho
 have HW:=hide (fun W:World=>within_any W i.a n4)
 rw [h1] at HW
 go_enter Tryz.func73,Tryz.ntmps73
 go_wp2_with fail
 go_quiet ((first | (go_at_call 32;exact Calls.quiet_of_same (HW.out _))))
 go_wp2
 go_ret
 exact ⟨rfl,below_drewN HB.out _⟩
theorem nm_str_b (F:FlAt B w A p f V fi at_ mo) (i:In3) (ho:i.o=29) (h1:inB i.a p.st.length=true) (h2:inB i.b p.ty.length=false):Calls Tryz.prog 73 #[.pointer (some ⟨A,0,none⟩),.agg #[.int .i64 i.o,.int .i64 i.a,.int .i64 i.b]] w fun e w'=>e=.returned (.bool false)∧Below w.heap.size w w':=by
 obtain ⟨W1,hW1,b1,-⟩:=bxi w i
 have F1:=F.below b1
 have HB:=hide b1
 have HF1:=hide F1
 have N:=F1.nmc i (b:=w.heap.size) (by rw [← hW1];exact heap_new _ _ rfl)
 obtain ⟨⟨a2,d2,c2⟩,⟨a3,d3,c3⟩,⟨a4,d4,c4⟩,⟨a5,d5,c5⟩,⟨a7,d7,c7⟩,⟨a9,d9,c9⟩,i0,i1,i2⟩:=N
 have hlA:=lt_of_block F.box
 clear b1 F1 F
 generalize p.ty.length=n1 at *
 generalize p.fu.length=n2 at *
 generalize p.ta.length=n3 at *
 generalize p.st.length=n4 at *
 generalize f.lo.length=l1 at *
 generalize f.ar.length=l3 at *
 rw [ho] at i0 hW1 ⊢
 clear ho
 go_enter Tryz.func73,Tryz.ntmps73
 go_wp2_with fail
 go_quiet ((go_at_call 32;exact Calls.quiet_of_same (within_any _ _ _)))
 go_wp2
 go_ret
 exact ⟨rfl,below_drewN HB.out _⟩
theorem nm_str_c (F:FlAt B w A p f V fi at_ mo) (i:In3) (ho:i.o=29) (h1:inB i.a p.st.length=true) {t:Nat} (hb:i.b=(t:Int)) (ht:t<p.ty.length):Calls Tryz.prog 73 #[.pointer (some ⟨A,0,none⟩),.agg #[.int .i64 i.o,.int .i64 i.a,.int .i64 i.b]] w fun e w'=>e=.returned (.bool (onlyB p (t:Int) 0))∧Below w.heap.size w w':=by
 obtain ⟨W1,hW1,b1,-⟩:=bxi w i
 have F1:=F.below b1
 have HB:=hide b1
 have HF1:=hide F1
 have N:=F1.nmc i (b:=w.heap.size) (by rw [← hW1];exact heap_new _ _ rfl)
 obtain ⟨⟨a2,d2,c2⟩,⟨a3,d3,c3⟩,⟨a4,d4,c4⟩,⟨a5,d5,c5⟩,⟨a7,d7,c7⟩,⟨a9,d9,c9⟩,i0,i1,i2⟩:=N
 have hlA:=lt_of_block F.box
 clear b1 F1 F
 have hT:=hide ht
 generalize p.ty.length=n1 at ht c2
 generalize p.fu.length=n2 at *
 generalize p.ta.length=n3 at *
 generalize p.st.length=n4 at *
 generalize f.lo.length=l1 at *
 generalize f.ar.length=l3 at *
 rw [ho] at i0 hW1 ⊢
 clear ho
 have h2:inB (t:Int) n1=true:=by simp [inB];omega
 have HO:=hide (fun q:Nat=>only_any (HF1.out.below (below_drewN (Below.refl _ _) q)) t 0 hT.out)
 rw [hb] at i2 hW1 ⊢
 clear hb ht
 go_enter Tryz.func73,Tryz.ntmps73
 go_wp2_with fail
 go_quiet ((first | (go_at_call 32;exact Calls.quiet_of_same (within_any _ _ _)) | (go_at_call 85;exact Calls.quiet_of_same (HO.out _))))
 go_wp2
 go_ret
 exact ⟨rfl,below_drewN HB.out _⟩
theorem nm_rest (F:FlAt B w A p f V fi at_ mo) (i:In3) (ho:i.o≠2∧i.o≠3∧i.o≠4∧i.o≠7∧i.o≠11∧i.o≠12∧i.o≠21∧i.o≠13∧i.o≠16∧i.o≠22∧i.o≠23∧i.o≠29):Calls Tryz.prog 73 #[.pointer (some ⟨A,0,none⟩),.agg #[.int .i64 i.o,.int .i64 i.a,.int .i64 i.b]] w fun e w'=>e=.returned (.bool true)∧Below w.heap.size w w':=by
 obtain ⟨W1,hW1,b1,-⟩:=bxi w i
 have F1:=F.below b1
 have HB:=hide b1
 have HF1:=hide F1
 have N:=F1.nmc i (b:=w.heap.size) (by rw [← hW1];exact heap_new _ _ rfl)
 obtain ⟨⟨a2,d2,c2⟩,⟨a3,d3,c3⟩,⟨a4,d4,c4⟩,⟨a5,d5,c5⟩,⟨a7,d7,c7⟩,⟨a9,d9,c9⟩,i0,i1,i2⟩:=N
 have hlA:=lt_of_block F.box
 clear b1 F1 F
 generalize p.ty.length=n1 at *
 generalize p.fu.length=n2 at *
 generalize p.ta.length=n3 at *
 generalize p.st.length=n4 at *
 generalize f.lo.length=l1 at *
 generalize f.ar.length=l3 at *
 have q2:(i.o == 2)=false:=by simp;omega
 have q3:(i.o == 3)=false:=by simp;omega
 have q4:(i.o == 4)=false:=by simp;omega
 have q7:(i.o == 7)=false:=by simp;omega
 have q11:(i.o == 11)=false:=by simp;omega
 have q12:(i.o == 12)=false:=by simp;omega
 have q21:(i.o == 21)=false:=by simp;omega
 have q13:(i.o == 13)=false:=by simp;omega
 have q16:(i.o == 16)=false:=by simp;omega
 have q22:(i.o == 22)=false:=by simp;omega
 have q23:(i.o == 23)=false:=by simp;omega
 have q29:(i.o == 29)=false:=by simp;omega
 clear ho
 go_enter Tryz.func73,Tryz.ntmps73
 go_wp2
 go_ret
 exact ⟨rfl,HB.out⟩
theorem names_any (F:FlAt B w A p f V fi at_ mo) (i:In3) (hr : -9223372036854775808≤i.a∧i.a≤9223372036854775807):Calls Tryz.prog 73 #[.pointer (some ⟨A,0,none⟩),.agg #[.int .i64 i.o,.int .i64 i.a,.int .i64 i.b]] w fun e w'=>e=.returned (.bool (namesB p f i))∧Below w.heap.size w w':=by
 unfold namesB
 split
 · rename_i h
   by_cases h0:i.a=0
   · rw [show (decide (i.a≠0) && isKB p.ty.length i.a)=false by simp [h0]]
     exact nm_nil_a F i h h0
   · rw [show (decide (i.a≠0) && isKB p.ty.length i.a)=isKB p.ty.length i.a by simp [h0]]
     exact nm_nil_b F i h h0 hr
 · split
   · rename_i h
     rcases h with h | h
     · exact nm_lo_3 F i h
     · exact nm_lo_4 F i h
   · split
     · rename_i h
       by_cases h0:0≤i.a
       · rw [show decide (0≤i.a∧i.a≤9)=decide (i.a≤9) by simp [h0]]
         exact nm_ari_a F i h h0
       · rw [show decide (0≤i.a∧i.a≤9)=false by simp [h0]]
         exact nm_ari_b F i h (by omega)
     · split
       · rename_i h
         rcases h with h | h | h
         · exact nm_ty_11 F i h
         · exact nm_ty_12 F i h
         · exact nm_ty_21 F i h
       · split
         · rename_i h
           exact nm_ar_13 F i h
         · split
           · rename_i h
             exact nm_tb_16 F i h
           · split
             · rename_i h
               exact nm_fu_22 F i h
             · split
               · rename_i h
                 exact nm_ta_23 F i h
               · split
                 · rename_i h
                   cases h1:inB i.a p.st.length with
                   | false=>exact nm_str_a F i h h1
                   | true =>
                    cases h2:inB i.b p.ty.length with
                    | false=>exact nm_str_b F i h h1 h2
                    | true =>
                     obtain ⟨t,ht⟩ : ∃ t:Nat,i.b=(t:Int):=⟨i.b.toNat,by simp only [inB,decide_eq_true_eq] at h2;omega⟩
                     rw [Bool.true_and,Bool.true_and,show onlyB p i.b 0=onlyB p (t:Int) 0 by rw [ht]]
                     exact nm_str_c F i h h1 ht (by simp only [inB,decide_eq_true_eq] at h2;omega)
                 · exact nm_rest F i (by omega)
end
end Go.Proofs.YtkdojpnihinpbaaGreatDoor
