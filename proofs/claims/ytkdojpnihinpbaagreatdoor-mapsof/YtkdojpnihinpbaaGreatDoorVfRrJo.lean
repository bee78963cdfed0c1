/- The document's ranges and needs. -/
import Derived.Test.YtkdojpnihinpbaaGreatDoorVfRaJo
import Derived.Test.YtkdojpnihinpbaaGreatDoorVfTkJo
namespace Go.Proofs.YtkdojpnihinpbaaGreatDoor
set_option maxRecDepth 100000
set_option maxHeartbeats 1000000
open Go.RowKit
structure Rx (B:Nat) (w W:World) (p:Pg) (f:Fd) (i:In3) (v1 v2 v3 v4 u1 u2 u3 u4:Value):Prop where
  bel:Below w.heap.size w W
  e0:W.heap[w.heap.size]?=some (.cells #[v1,v2,v3,v4] 27 (0,0))
  e1:W.heap[w.heap.size+1]?=some (.cells #[.int .i64 f.pa,u1,u2,u3,u4] 40 (0,0))
  e2:W.heap[w.heap.size+2]?=some (.cells #[.int .i64 i.o,.int .i64 i.a,.int .i64 i.b] 46 (0,0))
  hB:B≤w.heap.size
  pg:PgAt B W v1 v2 v3 v4 p
  lo:SlAt 1 IntP B W u1 f.lo
  re:SlAt 1 IntP B W u2 f.re
  ar:SlAt 1 IntP B W u3 f.ar
section
variable {B:Nat} {w W W' : World} {p:Pg} {f:Fd} {i:In3} {v1 v2 v3 v4 u1 u2 u3 u4:Value}
theorem exR {B:Nat} {w W:World} {p:Pg} {f:Fd} {i:In3} {v1 v2 v3 v4 u1 u2 u3 u4:Value} (_:Rx B w W p f i v1 v2 v3 v4 u1 u2 u3 u4):∃ W1,W=W1:=⟨_,rfl⟩
theorem Rx.new (P:PgAt B w v1 v2 v3 v4 p) (hB:B≤w.heap.size) (s1:SlAt 1 IntP B w u1 f.lo) (s2:SlAt 1 IntP B w u2 f.re) (s3:SlAt 1 IntP B w u3 f.ar):Rx B w (((w.alloc (.cells #[v1,v2,v3,v4] 27)).alloc (.cells #[.int .i64 f.pa,u1,u2,u3,u4] 40)).alloc (.cells #[.int .i64 i.o,.int .i64 i.a,.int .i64 i.b] 46)) p f i v1 v2 v3 v4 u1 u2 u3 u4:=by
 have b1:Below w.heap.size w (((w.alloc (.cells #[v1,v2,v3,v4] 27)).alloc (.cells #[.int .i64 f.pa,u1,u2,u3,u4] 40)).alloc (.cells #[.int .i64 i.o,.int .i64 i.a,.int .i64 i.b] 46)):=(((Below.refl _ _).alloc (Nat.le_refl _) _).alloc (by simp) _).alloc (by simp;omega) _
 have hk:∀ j,j<B→(((w.alloc (.cells #[v1,v2,v3,v4] 27)).alloc (.cells #[.int .i64 f.pa,u1,u2,u3,u4] 40)).alloc (.cells #[.int .i64 i.o,.int .i64 i.a,.int .i64 i.b] 46)).heap[j]?=w.heap[j]?:=fun j hj=>b1.block j (by omega)
 exact ⟨b1,by rw [heap_alloc_old _ _ (by simp;omega),heap_alloc_old _ _ (by simp)];exact heap_new _ _ rfl,by rw [heap_alloc_old _ _ (by simp)];exact heap_new _ _ (by simp),heap_new _ _ (by simp),hB,P.keep (Nat.le_refl _) hk,ints_keep (Nat.le_refl _) hk s1,ints_keep (Nat.le_refl _) hk s2,ints_keep (Nat.le_refl _) hk s3⟩
theorem Rx.up (R:Rx B w W p f i v1 v2 v3 v4 u1 u2 u3 u4) (h:Below W.heap.size W W'):Rx B w W' p f i v1 v2 v3 v4 u1 u2 u3 u4:=by
 have hk:∀ j,j<B→W'.heap[j]?=W.heap[j]?:=fun j hj=>h.block j (by have:=R.hB;have:=R.bel.size;omega)
 exact ⟨bel_tr R.bel h,(h.block _ (lt_of_block R.e0)).trans R.e0,(h.block _ (lt_of_block R.e1)).trans R.e1,(h.block _ (lt_of_block R.e2)).trans R.e2,R.hB,R.pg.keep (Nat.le_refl _) hk,ints_keep (Nat.le_refl _) hk R.lo,ints_keep (Nat.le_refl _) hk R.re,ints_keep (Nat.le_refl _) hk R.ar⟩
theorem Rx.c0 (R:Rx B w W p f i v1 v2 v3 v4 u1 u2 u3 u4):W.cell? ⟨w.heap.size,0,none⟩=some v1∧W.cell? ⟨w.heap.size,1,none⟩=some v2∧W.cell? ⟨w.heap.size,2,none⟩=some v3∧W.cell? ⟨w.heap.size,3,none⟩=some v4:=⟨cell_of R.e0 rfl,cell_of R.e0 rfl,cell_of R.e0 rfl,cell_of R.e0 rfl⟩
theorem Rx.c1 (R:Rx B w W p f i v1 v2 v3 v4 u1 u2 u3 u4):W.cell? ⟨w.heap.size+1,0,none⟩=some (.int .i64 f.pa)∧W.cell? ⟨w.heap.size+1,1,none⟩=some u1∧W.cell? ⟨w.heap.size+1,2,none⟩=some u2∧W.cell? ⟨w.heap.size+1,3,none⟩=some u3:=⟨cell_of R.e1 rfl,cell_of R.e1 rfl,cell_of R.e1 rfl,cell_of R.e1 rfl⟩
theorem Rx.c2 (R:Rx B w W p f i v1 v2 v3 v4 u1 u2 u3 u4):W.cell? ⟨w.heap.size+2,0,none⟩=some (.int .i64 i.o)∧W.cell? ⟨w.heap.size+2,1,none⟩=some (.int .i64 i.a)∧W.cell? ⟨w.heap.size+2,2,none⟩=some (.int .i64 i.b):=⟨cell_of R.e2 rfl,cell_of R.e2 rfl,cell_of R.e2 rfl⟩
theorem Rx.lt (R:Rx B w W p f i v1 v2 v3 v4 u1 u2 u3 u4):w.heap.size<W.heap.size∧w.heap.size+1<W.heap.size∧w.heap.size+2<W.heap.size:=⟨lt_of_block R.e0,lt_of_block R.e1,lt_of_block R.e2⟩
end
section
variable {B:Nat} {w:World} {p:Pg} {f:Fd} {a b:Int} {v1 v2 v3 v4 u1 u2 u3 u4:Value}
theorem rg_3 (P:PgAt B w v1 v2 v3 v4 p) (hB:B≤w.heap.size) (s1:SlAt 1 IntP B w u1 f.lo) (s2:SlAt 1 IntP B w u2 f.re) (s3:SlAt 1 IntP B w u3 f.ar):Calls Tryz.prog 25 #[.agg #[v1,v2,v3,v4],.agg #[.int .i64 f.pa,u1,u2,u3,u4],.agg #[.int .i64 3,.int .i64 a,.int .i64 b]] w fun e w'=>e=.returned (.bool (inB a f.lo.length))∧Below w.heap.size w w':=by
 obtain ⟨⟨a1,d1,rfl⟩,⟨a2,d2,rfl⟩,⟨a3,d3,rfl⟩,a4,d4,rfl⟩:=fm4 P
 obtain ⟨⟨b1,x1,rfl⟩,⟨b2,x2,rfl⟩,b3,x3,rfl⟩:=fm3 s1 s2 s3
 have R:=Rx.new (i:=⟨3,a,b⟩) (u4:=u4) P hB s1 s2 s3
 dsimp only at R
 obtain ⟨W1,hW1⟩:=exR R
 rw [hW1] at R
 obtain ⟨c00,c01,c02,c03⟩:=R.c0
 obtain ⟨c10,c11,c12,c13⟩:=R.c1
 obtain ⟨c20,c21,c22⟩:=R.c2
 obtain ⟨l0,l1,l2⟩:=R.lt
 dsimp only at c20 c21 c22
 have HR:=hide R
 clear P hB s1 s2 s3 R
 go_enter Tryz.func25,Tryz.ntmps25
 go_wp2_with fail
 refine (rin_any W1 a f.lo.length).mono ?_
 rintro e w2 ⟨rfl,rfl⟩
 go_wp2_with fail
 go_ret
 exact ⟨rfl,HR.out.bel⟩
theorem rg_4 (P:PgAt B w v1 v2 v3 v4 p) (hB:B≤w.heap.size) (s1:SlAt 1 IntP B w u1 f.lo) (s2:SlAt 1 IntP B w u2 f.re) (s3:SlAt 1 IntP B w u3 f.ar):Calls Tryz.prog 25 #[.agg #[v1,v2,v3,v4],.agg #[.int .i64 f.pa,u1,u2,u3,u4],.agg #[.int .i64 4,.int .i64 a,.int .i64 b]] w fun e w'=>e=.returned (.bool (inB a f.lo.length))∧Below w.heap.size w w':=by
 obtain ⟨⟨a1,d1,rfl⟩,⟨a2,d2,rfl⟩,⟨a3,d3,rfl⟩,a4,d4,rfl⟩:=fm4 P
 obtain ⟨⟨b1,x1,rfl⟩,⟨b2,x2,rfl⟩,b3,x3,rfl⟩:=fm3 s1 s2 s3
 have R:=Rx.new (i:=⟨4,a,b⟩) (u4:=u4) P hB s1 s2 s3
 dsimp only at R
 obtain ⟨W1,hW1⟩:=exR R
 rw [hW1] at R
 obtain ⟨c00,c01,c02,c03⟩:=R.c0
 obtain ⟨c10,c11,c12,c13⟩:=R.c1
 obtain ⟨c20,c21,c22⟩:=R.c2
 obtain ⟨l0,l1,l2⟩:=R.lt
 dsimp only at c20 c21 c22
 have HR:=hide R
 clear P hB s1 s2 s3 R
 go_enter Tryz.func25,Tryz.ntmps25
 go_wp2_with fail
 refine (rin_any W1 a f.lo.length).mono ?_
 rintro e w2 ⟨rfl,rfl⟩
 go_wp2_with fail
 go_ret
 exact ⟨rfl,HR.out.bel⟩
theorem rg_11 (P:PgAt B w v1 v2 v3 v4 p) (hB:B≤w.heap.size) (s1:SlAt 1 IntP B w u1 f.lo) (s2:SlAt 1 IntP B w u2 f.re) (s3:SlAt 1 IntP B w u3 f.ar):Calls Tryz.prog 25 #[.agg #[v1,v2,v3,v4],.agg #[.int .i64 f.pa,u1,u2,u3,u4],.agg #[.int .i64 11,.int .i64 a,.int .i64 b]] w fun e w'=>e=.returned (.bool (inB a p.ty.length))∧Below w.heap.size w w':=by
 obtain ⟨⟨a1,d1,rfl⟩,⟨a2,d2,rfl⟩,⟨a3,d3,rfl⟩,a4,d4,rfl⟩:=fm4 P
 obtain ⟨⟨b1,x1,rfl⟩,⟨b2,x2,rfl⟩,b3,x3,rfl⟩:=fm3 s1 s2 s3
 have R:=Rx.new (i:=⟨11,a,b⟩) (u4:=u4) P hB s1 s2 s3
 dsimp only at R
 obtain ⟨W1,hW1⟩:=exR R
 rw [hW1] at R
 obtain ⟨c00,c01,c02,c03⟩:=R.c0
 obtain ⟨c10,c11,c12,c13⟩:=R.c1
 obtain ⟨c20,c21,c22⟩:=R.c2
 obtain ⟨l0,l1,l2⟩:=R.lt
 dsimp only at c20 c21 c22
 have HR:=hide R
 clear P hB s1 s2 s3 R
 go_enter Tryz.func25,Tryz.ntmps25
 go_wp2_with fail
 refine (rin_any W1 a p.ty.length).mono ?_
 rintro e w2 ⟨rfl,rfl⟩
 go_wp2_with fail
 go_ret
 exact ⟨rfl,HR.out.bel⟩
theorem rg_12 (P:PgAt B w v1 v2 v3 v4 p) (hB:B≤w.heap.size) (s1:SlAt 1 IntP B w u1 f.lo) (s2:SlAt 1 IntP B w u2 f.re) (s3:SlAt 1 IntP B w u3 f.ar):Calls Tryz.prog 25 #[.agg #[v1,v2,v3,v4],.agg #[.int .i64 f.pa,u1,u2,u3,u4],.agg #[.int .i64 12,.int .i64 a,.int .i64 b]] w fun e w'=>e=.returned (.bool (inB a p.ty.length))∧Below w.heap.size w w':=by
 obtain ⟨⟨a1,d1,rfl⟩,⟨a2,d2,rfl⟩,⟨a3,d3,rfl⟩,a4,d4,rfl⟩:=fm4 P
 obtain ⟨⟨b1,x1,rfl⟩,⟨b2,x2,rfl⟩,b3,x3,rfl⟩:=fm3 s1 s2 s3
 have R:=Rx.new (i:=⟨12,a,b⟩) (u4:=u4) P hB s1 s2 s3
 dsimp only at R
 obtain ⟨W1,hW1⟩:=exR R
 rw [hW1] at R
 obtain ⟨c00,c01,c02,c03⟩:=R.c0
 obtain ⟨c10,c11,c12,c13⟩:=R.c1
 obtain ⟨c20,c21,c22⟩:=R.c2
 obtain ⟨l0,l1,l2⟩:=R.lt
 dsimp only at c20 c21 c22
 have HR:=hide R
 clear P hB s1 s2 s3 R
 go_enter Tryz.func25,Tryz.ntmps25
 go_wp2_with fail
 refine (rin_any W1 a p.ty.length).mono ?_
 rintro e w2 ⟨rfl,rfl⟩
 go_wp2_with fail
 go_ret
 exact ⟨rfl,HR.out.bel⟩
theorem rg_21 (P:PgAt B w v1 v2 v3 v4 p) (hB:B≤w.heap.size) (s1:SlAt 1 IntP B w u1 f.lo) (s2:SlAt 1 IntP B w u2 f.re) (s3:SlAt 1 IntP B w u3 f.ar):Calls Tryz.prog 25 #[.agg #[v1,v2,v3,v4],.agg #[.int .i64 f.pa,u1,u2,u3,u4],.agg #[.int .i64 21,.int .i64 a,.int .i64 b]] w fun e w'=>e=.returned (.bool (inB a p.ty.length))∧Below w.heap.size w w':=by
 obtain ⟨⟨a1,d1,rfl⟩,⟨a2,d2,rfl⟩,⟨a3,d3,rfl⟩,a4,d4,rfl⟩:=fm4 P
 obtain ⟨⟨b1,x1,rfl⟩,⟨b2,x2,rfl⟩,b3,x3,rfl⟩:=fm3 s1 s2 s3
 have R:=Rx.new (i:=⟨21,a,b⟩) (u4:=u4) P hB s1 s2 s3
 dsimp only at R
 obtain ⟨W1,hW1⟩:=exR R
 rw [hW1] at R
 obtain ⟨c00,c01,c02,c03⟩:=R.c0
 obtain ⟨c10,c11,c12,c13⟩:=R.c1
 obtain ⟨c20,c21,c22⟩:=R.c2
 obtain ⟨l0,l1,l2⟩:=R.lt
 dsimp only at c20 c21 c22
 have HR:=hide R
 clear P hB s1 s2 s3 R
 go_enter Tryz.func25,Tryz.ntmps25
 go_wp2_with fail
 refine (rin_any W1 a p.ty.length).mono ?_
 rintro e w2 ⟨rfl,rfl⟩
 go_wp2_with fail
 go_ret
 exact ⟨rfl,HR.out.bel⟩
theorem rg_13 (P:PgAt B w v1 v2 v3 v4 p) (hB:B≤w.heap.size) (s1:SlAt 1 IntP B w u1 f.lo) (s2:SlAt 1 IntP B w u2 f.re) (s3:SlAt 1 IntP B w u3 f.ar):Calls Tryz.prog 25 #[.agg #[v1,v2,v3,v4],.agg #[.int .i64 f.pa,u1,u2,u3,u4],.agg #[.int .i64 13,.int .i64 a,.int .i64 b]] w fun e w'=>e=.returned (.bool (inB a f.ar.length))∧Below w.heap.size w w':=by
 obtain ⟨⟨a1,d1,rfl⟩,⟨a2,d2,rfl⟩,⟨a3,d3,rfl⟩,a4,d4,rfl⟩:=fm4 P
 obtain ⟨⟨b1,x1,rfl⟩,⟨b2,x2,rfl⟩,b3,x3,rfl⟩:=fm3 s1 s2 s3
 have R:=Rx.new (i:=⟨13,a,b⟩) (u4:=u4) P hB s1 s2 s3
 dsimp only at R
 obtain ⟨W1,hW1⟩:=exR R
 rw [hW1] at R
 obtain ⟨c00,c01,c02,c03⟩:=R.c0
 obtain ⟨c10,c11,c12,c13⟩:=R.c1
 obtain ⟨c20,c21,c22⟩:=R.c2
 obtain ⟨l0,l1,l2⟩:=R.lt
 dsimp only at c20 c21 c22
 have HR:=hide R
 clear P hB s1 s2 s3 R
 go_enter Tryz.func25,Tryz.ntmps25
 go_wp2_with fail
 refine (rin_any W1 a f.ar.length).mono ?_
 rintro e w2 ⟨rfl,rfl⟩
 go_wp2_with fail
 go_ret
 exact ⟨rfl,HR.out.bel⟩
theorem rg_16 (P:PgAt B w v1 v2 v3 v4 p) (hB:B≤w.heap.size) (s1:SlAt 1 IntP B w u1 f.lo) (s2:SlAt 1 IntP B w u2 f.re) (s3:SlAt 1 IntP B w u3 f.ar):Calls Tryz.prog 25 #[.agg #[v1,v2,v3,v4],.agg #[.int .i64 f.pa,u1,u2,u3,u4],.agg #[.int .i64 16,.int .i64 a,.int .i64 b]] w fun e w'=>e=.returned (.bool (inB b p.ty.length))∧Below w.heap.size w w':=by
 obtain ⟨⟨a1,d1,rfl⟩,⟨a2,d2,rfl⟩,⟨a3,d3,rfl⟩,a4,d4,rfl⟩:=fm4 P
 obtain ⟨⟨b1,x1,rfl⟩,⟨b2,x2,rfl⟩,b3,x3,rfl⟩:=fm3 s1 s2 s3
 have R:=Rx.new (i:=⟨16,a,b⟩) (u4:=u4) P hB s1 s2 s3
 dsimp only at R
 obtain ⟨W1,hW1⟩:=exR R
 rw [hW1] at R
 obtain ⟨c00,c01,c02,c03⟩:=R.c0
 obtain ⟨c10,c11,c12,c13⟩:=R.c1
 obtain ⟨c20,c21,c22⟩:=R.c2
 obtain ⟨l0,l1,l2⟩:=R.lt
 dsimp only at c20 c21 c22
 have HR:=hide R
 clear P hB s1 s2 s3 R
 go_enter Tryz.func25,Tryz.ntmps25
 go_wp2_with fail
 refine (rin_any W1 b p.ty.length).mono ?_
 rintro e w2 ⟨rfl,rfl⟩
 go_wp2_with fail
 go_ret
 exact ⟨rfl,HR.out.bel⟩
theorem rg_22 (P:PgAt B w v1 v2 v3 v4 p) (hB:B≤w.heap.size) (s1:SlAt 1 IntP B w u1 f.lo) (s2:SlAt 1 IntP B w u2 f.re) (s3:SlAt 1 IntP B w u3 f.ar):Calls Tryz.prog 25 #[.agg #[v1,v2,v3,v4],.agg #[.int .i64 f.pa,u1,u2,u3,u4],.agg #[.int .i64 22,.int .i64 a,.int .i64 b]] w fun e w'=>e=.returned (.bool (inB a p.fu.length))∧Below w.heap.size w w':=by
 obtain ⟨⟨a1,d1,rfl⟩,⟨a2,d2,rfl⟩,⟨a3,d3,rfl⟩,a4,d4,rfl⟩:=fm4 P
 obtain ⟨⟨b1,x1,rfl⟩,⟨b2,x2,rfl⟩,b3,x3,rfl⟩:=fm3 s1 s2 s3
 have R:=Rx.new (i:=⟨22,a,b⟩) (u4:=u4) P hB s1 s2 s3
 dsimp only at R
 obtain ⟨W1,hW1⟩:=exR R
 rw [hW1] at R
 obtain ⟨c00,c01,c02,c03⟩:=R.c0
 obtain ⟨c10,c11,c12,c13⟩:=R.c1
 obtain ⟨c20,c21,c22⟩:=R.c2
 obtain ⟨l0,l1,l2⟩:=R.lt
 dsimp only at c20 c21 c22
 have HR:=hide R
 clear P hB s1 s2 s3 R
 go_enter Tryz.func25,Tryz.ntmps25
 go_wp2_with fail
 refine (rin_any W1 a p.fu.length).mono ?_
 rintro e w2 ⟨rfl,rfl⟩
 go_wp2_with fail
 go_ret
 exact ⟨rfl,HR.out.bel⟩
theorem rg_23 (P:PgAt B w v1 v2 v3 v4 p) (hB:B≤w.heap.size) (s1:SlAt 1 IntP B w u1 f.lo) (s2:SlAt 1 IntP B w u2 f.re) (s3:SlAt 1 IntP B w u3 f.ar):Calls Tryz.prog 25 #[.agg #[v1,v2,v3,v4],.agg #[.int .i64 f.pa,u1,u2,u3,u4],.agg #[.int .i64 23,.int .i64 a,.int .i64 b]] w fun e w'=>e=.returned (.bool (inB a p.ta.length))∧Below w.heap.size w w':=by
 obtain ⟨⟨a1,d1,rfl⟩,⟨a2,d2,rfl⟩,⟨a3,d3,rfl⟩,a4,d4,rfl⟩:=fm4 P
 obtain ⟨⟨b1,x1,rfl⟩,⟨b2,x2,rfl⟩,b3,x3,rfl⟩:=fm3 s1 s2 s3
 have R:=Rx.new (i:=⟨23,a,b⟩) (u4:=u4) P hB s1 s2 s3
 dsimp only at R
 obtain ⟨W1,hW1⟩:=exR R
 rw [hW1] at R
 obtain ⟨c00,c01,c02,c03⟩:=R.c0
 obtain ⟨c10,c11,c12,c13⟩:=R.c1
 obtain ⟨c20,c21,c22⟩:=R.c2
 obtain ⟨l0,l1,l2⟩:=R.lt
 dsimp only at c20 c21 c22
 have HR:=hide R
 clear P hB s1 s2 s3 R
 go_enter Tryz.func25,Tryz.ntmps25
 go_wp2_with fail
 refine (rin_any W1 a p.ta.length).mono ?_
 rintro e w2 ⟨rfl,rfl⟩
 go_wp2_with fail
 go_ret
 exact ⟨rfl,HR.out.bel⟩
theorem rg_7 (P:PgAt B w v1 v2 v3 v4 p) (hB:B≤w.heap.size) (s1:SlAt 1 IntP B w u1 f.lo) (s2:SlAt 1 IntP B w u2 f.re) (s3:SlAt 1 IntP B w u3 f.ar):Calls Tryz.prog 25 #[.agg #[v1,v2,v3,v4],.agg #[.int .i64 f.pa,u1,u2,u3,u4],.agg #[.int .i64 7,.int .i64 a,.int .i64 b]] w fun e w'=>e=.returned (.bool (inB a 10))∧Below w.heap.size w w':=by
 obtain ⟨⟨a1,d1,rfl⟩,⟨a2,d2,rfl⟩,⟨a3,d3,rfl⟩,a4,d4,rfl⟩:=fm4 P
 obtain ⟨⟨b1,x1,rfl⟩,⟨b2,x2,rfl⟩,b3,x3,rfl⟩:=fm3 s1 s2 s3
 have R:=Rx.new (i:=⟨7,a,b⟩) (u4:=u4) P hB s1 s2 s3
 dsimp only at R
 obtain ⟨W1,hW1⟩:=exR R
 rw [hW1] at R
 obtain ⟨c00,c01,c02,c03⟩:=R.c0
 obtain ⟨c10,c11,c12,c13⟩:=R.c1
 obtain ⟨c20,c21,c22⟩:=R.c2
 obtain ⟨l0,l1,l2⟩:=R.lt
 dsimp only at c20 c21 c22
 have HR:=hide R
 clear P hB s1 s2 s3 R
 go_enter Tryz.func25,Tryz.ntmps25
 go_wp2_with fail
 refine (rin_any W1 a 10).mono ?_
 rintro e w2 ⟨rfl,rfl⟩
 go_wp2_with fail
 go_ret
 exact ⟨rfl,HR.out.bel⟩
theorem rg_2a (P:PgAt B w v1 v2 v3 v4 p) (hB:B≤w.heap.size) (s1:SlAt 1 IntP B w u1 f.lo) (s2:SlAt 1 IntP B w u2 f.re) (s3:SlAt 1 IntP B w u3 f.ar) (ha:a=0):Calls Tryz.prog 25 #[.agg #[v1,v2,v3,v4],.agg #[.int .i64 f.pa,u1,u2,u3,u4],.agg #[.int .i64 2,.int .i64 a,.int .i64 b]] w fun e w'=>e=.returned (.bool false)∧Below w.heap.size w w':=by
 obtain ⟨⟨a1,d1,rfl⟩,⟨a2,d2,rfl⟩,⟨a3,d3,rfl⟩,a4,d4,rfl⟩:=fm4 P
 obtain ⟨⟨b1,x1,rfl⟩,⟨b2,x2,rfl⟩,b3,x3,rfl⟩:=fm3 s1 s2 s3
 have R:=Rx.new (i:=⟨2,a,b⟩) (u4:=u4) P hB s1 s2 s3
 dsimp only at R
 obtain ⟨W1,hW1⟩:=exR R
 rw [hW1] at R
 obtain ⟨c00,c01,c02,c03⟩:=R.c0
 obtain ⟨c10,c11,c12,c13⟩:=R.c1
 obtain ⟨c20,c21,c22⟩:=R.c2
 obtain ⟨l0,l1,l2⟩:=R.lt
 dsimp only at c20 c21 c22
 have HR:=hide R
 clear P hB s1 s2 s3 R
 subst ha
 go_enter Tryz.func25,Tryz.ntmps25
 go_wp2_with fail
 go_ret
 exact ⟨rfl,HR.out.bel⟩
theorem rg_2b (P:PgAt B w v1 v2 v3 v4 p) (hB:B≤w.heap.size) (s1:SlAt 1 IntP B w u1 f.lo) (s2:SlAt 1 IntP B w u2 f.re) (s3:SlAt 1 IntP B w u3 f.ar) (ha:¬ a=0) (hn:p.ty.length≤1024) (hb : -9223372036854775808≤a∧a≤9223372036854775807):Calls Tryz.prog 25 #[.agg #[v1,v2,v3,v4],.agg #[.int .i64 f.pa,u1,u2,u3,u4],.agg #[.int .i64 2,.int .i64 a,.int .i64 b]] w fun e w'=>e=.returned (.bool (isKB p.ty.length a))∧Below w.heap.size w w':=by
 obtain ⟨⟨a1,d1,rfl⟩,⟨a2,d2,rfl⟩,⟨a3,d3,rfl⟩,a4,d4,rfl⟩:=fm4 P
 obtain ⟨⟨b1,x1,rfl⟩,⟨b2,x2,rfl⟩,b3,x3,rfl⟩:=fm3 s1 s2 s3
 have R:=Rx.new (i:=⟨2,a,b⟩) (u4:=u4) P hB s1 s2 s3
 dsimp only at R
 obtain ⟨W1,hW1⟩:=exR R
 rw [hW1] at R
 obtain ⟨c00,c01,c02,c03⟩:=R.c0
 obtain ⟨c10,c11,c12,c13⟩:=R.c1
 obtain ⟨c20,c21,c22⟩:=R.c2
 obtain ⟨l0,l1,l2⟩:=R.lt
 dsimp only at c20 c21 c22
 have HR:=hide R
 clear P hB s1 s2 s3 R
 have z0:(a != 0)=true:=by simpa using ha
 have HK:=hide (rkind_any HR.out.pg hn hb true)
 rw [if_pos rfl] at HK
 clear ha hb
 go_enter Tryz.func25,Tryz.ntmps25
 go_wp2_with fail
 refine HK.out.mono ?_
 rintro e w2 ⟨rfl,hb2⟩
 have HB2:=hide (bel_tr HR.out.bel hb2)
 clear hb2
 go_wp2_with fail
 go_ret
 exact ⟨rfl,HB2.out⟩
theorem rg_29a (P:PgAt B w v1 v2 v3 v4 p) (hB:B≤w.heap.size) (s1:SlAt 1 IntP B w u1 f.lo) (s2:SlAt 1 IntP B w u2 f.re) (s3:SlAt 1 IntP B w u3 f.ar) (ha:inB a p.st.length=false):Calls Tryz.prog 25 #[.agg #[v1,v2,v3,v4],.agg #[.int .i64 f.pa,u1,u2,u3,u4],.agg #[.int .i64 29,.int .i64 a,.int .i64 b]] w fun e w'=>e=.returned (.bool false)∧Below w.heap.size w w':=by
 obtain ⟨⟨a1,d1,rfl⟩,⟨a2,d2,rfl⟩,⟨a3,d3,rfl⟩,a4,d4,rfl⟩:=fm4 P
 obtain ⟨⟨b1,x1,rfl⟩,⟨b2,x2,rfl⟩,b3,x3,rfl⟩:=fm3 s1 s2 s3
 have R:=Rx.new (i:=⟨29,a,b⟩) (u4:=u4) P hB s1 s2 s3
 dsimp only at R
 obtain ⟨W1,hW1⟩:=exR R
 rw [hW1] at R
 obtain ⟨c00,c01,c02,c03⟩:=R.c0
 obtain ⟨c10,c11,c12,c13⟩:=R.c1
 obtain ⟨c20,c21,c22⟩:=R.c2
 obtain ⟨l0,l1,l2⟩:=R.lt
 dsimp only at c20 c21 c22
 have HR:=hide R
 clear P hB s1 s2 s3 R
 have HI:=hide (rin_any W1 a p.st.length)
 rw [ha] at HI
 clear ha
 go_enter Tryz.func25,Tryz.ntmps25
 go_wp2_with fail
 refine HI.out.mono ?_
 rintro e w2 ⟨rfl,rfl⟩
 go_wp2_with fail
 go_ret
 exact ⟨rfl,HR.out.bel⟩
theorem rg_29b (P:PgAt B w v1 v2 v3 v4 p) (hB:B≤w.heap.size) (s1:SlAt 1 IntP B w u1 f.lo) (s2:SlAt 1 IntP B w u2 f.re) (s3:SlAt 1 IntP B w u3 f.ar) (ha:inB a p.st.length=true):Calls Tryz.prog 25 #[.agg #[v1,v2,v3,v4],.agg #[.int .i64 f.pa,u1,u2,u3,u4],.agg #[.int .i64 29,.int .i64 a,.int .i64 b]] w fun e w'=>e=.returned (.bool (inB b p.ty.length && onlyB p b 0))∧Below w.heap.size w w':=by
 obtain ⟨⟨a1,d1,rfl⟩,⟨a2,d2,rfl⟩,⟨a3,d3,rfl⟩,a4,d4,rfl⟩:=fm4 P
 obtain ⟨⟨b1,x1,rfl⟩,⟨b2,x2,rfl⟩,b3,x3,rfl⟩:=fm3 s1 s2 s3
 have R:=Rx.new (i:=⟨29,a,b⟩) (u4:=u4) P hB s1 s2 s3
 dsimp only at R
 obtain ⟨W1,hW1⟩:=exR R
 rw [hW1] at R
 obtain ⟨c00,c01,c02,c03⟩:=R.c0
 obtain ⟨c10,c11,c12,c13⟩:=R.c1
 obtain ⟨c20,c21,c22⟩:=R.c2
 obtain ⟨l0,l1,l2⟩:=R.lt
 dsimp only at c20 c21 c22
 have HR:=hide R
 clear P hB s1 s2 s3 R
 have HI:=hide (rin_any W1 a p.st.length)
 have HK:=hide (rsingle_any HR.out.pg (Nat.le_trans HR.out.hB HR.out.bel.size) b 0)
 rw [ha] at HI
 clear ha
 go_enter Tryz.func25,Tryz.ntmps25
 go_wp2_with fail
 refine HI.out.mono ?_
 rintro e w2 ⟨rfl,rfl⟩
 go_wp2_with fail
 refine HK.out.mono ?_
 rintro e w3 ⟨rfl,hb3⟩
 have HB3:=hide (bel_tr HR.out.bel hb3)
 clear hb3
 go_wp2_with fail
 go_ret
 exact ⟨rfl,HB3.out⟩
theorem rg_r {o:Int} (P:PgAt B w v1 v2 v3 v4 p) (hB:B≤w.heap.size) (s1:SlAt 1 IntP B w u1 f.lo) (s2:SlAt 1 IntP B w u2 f.re) (s3:SlAt 1 IntP B w u3 f.ar) (h2:(o == 2)=false) (h3:(o == 3)=false) (h4:(o == 4)=false) (h7:(o == 7)=false) (h11:(o == 11)=false) (h12:(o == 12)=false) (h13:(o == 13)=false) (h16:(o == 16)=false) (h21:(o == 21)=false) (h22:(o == 22)=false) (h23:(o == 23)=false) (h29:(o == 29)=false):Calls Tryz.prog 25 #[.agg #[v1,v2,v3,v4],.agg #[.int .i64 f.pa,u1,u2,u3,u4],.agg #[.int .i64 o,.int .i64 a,.int .i64 b]] w fun e w'=>e=.returned (.bool true)∧Below w.heap.size w w':=by
 obtain ⟨⟨a1,d1,rfl⟩,⟨a2,d2,rfl⟩,⟨a3,d3,rfl⟩,a4,d4,rfl⟩:=fm4 P
 obtain ⟨⟨b1,x1,rfl⟩,⟨b2,x2,rfl⟩,b3,x3,rfl⟩:=fm3 s1 s2 s3
 have R:=Rx.new (i:=⟨o,a,b⟩) (u4:=u4) P hB s1 s2 s3
 dsimp only at R
 obtain ⟨W1,hW1⟩:=exR R
 rw [hW1] at R
 obtain ⟨c00,c01,c02,c03⟩:=R.c0
 obtain ⟨c10,c11,c12,c13⟩:=R.c1
 obtain ⟨c20,c21,c22⟩:=R.c2
 obtain ⟨l0,l1,l2⟩:=R.lt
 dsimp only at c20 c21 c22
 have HR:=hide R
 clear P hB s1 s2 s3 R
 go_enter Tryz.func25,Tryz.ntmps25
 go_wp2_with fail
 go_ret
 exact ⟨rfl,HR.out.bel⟩
theorem ranges_any (P:PgAt B w v1 v2 v3 v4 p) (hB:B≤w.heap.size) (s1:SlAt 1 IntP B w u1 f.lo) (s2:SlAt 1 IntP B w u2 f.re) (s3:SlAt 1 IntP B w u3 f.ar) (hn:p.ty.length≤1024) {i:In3} (ho:1≤i.o∧i.o≤29) (hb : -9223372036854775808≤i.a∧i.a≤9223372036854775807):Calls Tryz.prog 25 #[.agg #[v1,v2,v3,v4],.agg #[.int .i64 f.pa,u1,u2,u3,u4],.agg #[.int .i64 i.o,.int .i64 i.a,.int .i64 i.b]] w fun e w'=>e=.returned (.bool (namesB p f i))∧Below w.heap.size w w':=by
 obtain ⟨o,a,b⟩:=i
 dsimp only at ho hb ⊢
 by_cases h2:o=2
 · subst h2
   have hN:namesB p f ⟨2,a,b⟩=(decide (a≠0) && isKB p.ty.length a):=by simp [namesB]
   rw [hN]
   by_cases ha:a=0
   · have:=rg_2a (b:=b) (u4:=u4) P hB s1 s2 s3 ha
     rw [show (decide (a≠0) && isKB p.ty.length a)=false by simp [ha]]
     exact this
   · rw [show (decide (a≠0) && isKB p.ty.length a)=isKB p.ty.length a by simp [ha]]
     exact rg_2b P hB s1 s2 s3 ha hn hb
 by_cases h3:o=3
 · subst h3
   rw [show namesB p f ⟨3,a,b⟩=inB a f.lo.length by simp [namesB]]
   exact rg_3 P hB s1 s2 s3
 by_cases h4:o=4
 · subst h4
   rw [show namesB p f ⟨4,a,b⟩=inB a f.lo.length by simp [namesB]]
   exact rg_4 P hB s1 s2 s3
 by_cases h11:o=11
 · subst h11
   rw [show namesB p f ⟨11,a,b⟩=inB a p.ty.length by simp [namesB]]
   exact rg_11 P hB s1 s2 s3
 by_cases h12:o=12
 · subst h12
   rw [show namesB p f ⟨12,a,b⟩=inB a p.ty.length by simp [namesB]]
   exact rg_12 P hB s1 s2 s3
 by_cases h21:o=21
 · subst h21
   rw [show namesB p f ⟨21,a,b⟩=inB a p.ty.length by simp [namesB]]
   exact rg_21 P hB s1 s2 s3
 by_cases h13:o=13
 · subst h13
   rw [show namesB p f ⟨13,a,b⟩=inB a f.ar.length by simp [namesB]]
   exact rg_13 P hB s1 s2 s3
 by_cases h16:o=16
 · subst h16
   rw [show namesB p f ⟨16,a,b⟩=inB b p.ty.length by simp [namesB]]
   exact rg_16 P hB s1 s2 s3
 by_cases h22:o=22
 · subst h22
   rw [show namesB p f ⟨22,a,b⟩=inB a p.fu.length by simp [namesB]]
   exact rg_22 P hB s1 s2 s3
 by_cases h23:o=23
 · subst h23
   rw [show namesB p f ⟨23,a,b⟩=inB a p.ta.length by simp [namesB]]
   exact rg_23 P hB s1 s2 s3
 by_cases h7:o=7
 · subst h7
   rw [show namesB p f ⟨7,a,b⟩=inB a 10 by simp only [namesB,inB];rw [if_neg (by decide),if_neg (by decide),if_pos trivial];exact decide_eq_decide.2 (by omega)]
   exact rg_7 P hB s1 s2 s3
 by_cases h29:o=29
 · subst h29
   rw [show namesB p f ⟨29,a,b⟩=(inB a p.st.length && inB b p.ty.length && onlyB p b 0) by simp [namesB]]
   cases ha:inB a p.st.length with
   | false=>rw [Bool.false_and,Bool.false_and];exact rg_29a P hB s1 s2 s3 ha
   | true=>rw [Bool.true_and];exact rg_29b P hB s1 s2 s3 ha
 clear ho
 rw [show namesB p f ⟨o,a,b⟩=true by simp [namesB,h2,h3,h4,h7,h11,h12,h13,h16,h21,h22,h23,h29]]
 exact rg_r P hB s1 s2 s3 (bne_int h2) (bne_int h3) (bne_int h4) (bne_int h7) (bne_int h11) (bne_int h12) (bne_int h13) (bne_int h16) (bne_int h21) (bne_int h22) (bne_int h23) (bne_int h29)
theorem nd_1 (P:PgAt B w v1 v2 v3 v4 p) (hB:B≤w.heap.size) (s1:SlAt 1 IntP B w u1 f.lo) (s2:SlAt 1 IntP B w u2 f.re) (s3:SlAt 1 IntP B w u3 f.ar):Calls Tryz.prog 26 #[.agg #[v1,v2,v3,v4],.agg #[.int .i64 f.pa,u1,u2,u3,u4],.agg #[.int .i64 1,.int .i64 a,.int .i64 b]] w fun e w'=>e=.returned (.int .i64 0)∧Below w.heap.size w w':=by
 obtain ⟨⟨a1,d1,rfl⟩,⟨a2,d2,rfl⟩,⟨a3,d3,rfl⟩,a4,d4,rfl⟩:=fm4 P
 obtain ⟨⟨b1,x1,rfl⟩,⟨b2,x2,rfl⟩,b3,x3,rfl⟩:=fm3 s1 s2 s3
 have R:=Rx.new (i:=⟨1,a,b⟩) (u4:=u4) P hB s1 s2 s3
 dsimp only at R
 obtain ⟨W1,hW1⟩:=exR R
 rw [hW1] at R
 obtain ⟨c00,c01,c02,c03⟩:=R.c0
 obtain ⟨c10,c11,c12,c13⟩:=R.c1
 obtain ⟨c20,c21,c22⟩:=R.c2
 obtain ⟨l0,l1,l2⟩:=R.lt
 dsimp only at c20 c21 c22
 have HR:=hide R
 clear P hB s1 s2 s3 R
 go_enter Tryz.func26,Tryz.ntmps26
 go_wp2_with fail
 go_ret
 exact ⟨rfl,HR.out.bel⟩
theorem nd_2 (P:PgAt B w v1 v2 v3 v4 p) (hB:B≤w.heap.size) (s1:SlAt 1 IntP B w u1 f.lo) (s2:SlAt 1 IntP B w u2 f.re) (s3:SlAt 1 IntP B w u3 f.ar):Calls Tryz.prog 26 #[.agg #[v1,v2,v3,v4],.agg #[.int .i64 f.pa,u1,u2,u3,u4],.agg #[.int .i64 2,.int .i64 a,.int .i64 b]] w fun e w'=>e=.returned (.int .i64 0)∧Below w.heap.size w w':=by
 obtain ⟨⟨a1,d1,rfl⟩,⟨a2,d2,rfl⟩,⟨a3,d3,rfl⟩,a4,d4,rfl⟩:=fm4 P
 obtain ⟨⟨b1,x1,rfl⟩,⟨b2,x2,rfl⟩,b3,x3,rfl⟩:=fm3 s1 s2 s3
 have R:=Rx.new (i:=⟨2,a,b⟩) (u4:=u4) P hB s1 s2 s3
 dsimp only at R
 obtain ⟨W1,hW1⟩:=exR R
 rw [hW1] at R
 obtain ⟨c00,c01,c02,c03⟩:=R.c0
 obtain ⟨c10,c11,c12,c13⟩:=R.c1
 obtain ⟨c20,c21,c22⟩:=R.c2
 obtain ⟨l0,l1,l2⟩:=R.lt
 dsimp only at c20 c21 c22
 have HR:=hide R
 clear P hB s1 s2 s3 R
 go_enter Tryz.func26,Tryz.ntmps26
 go_wp2_with fail
 go_ret
 exact ⟨rfl,HR.out.bel⟩
theorem nd_3 (P:PgAt B w v1 v2 v3 v4 p) (hB:B≤w.heap.size) (s1:SlAt 1 IntP B w u1 f.lo) (s2:SlAt 1 IntP B w u2 f.re) (s3:SlAt 1 IntP B w u3 f.ar):Calls Tryz.prog 26 #[.agg #[v1,v2,v3,v4],.agg #[.int .i64 f.pa,u1,u2,u3,u4],.agg #[.int .i64 3,.int .i64 a,.int .i64 b]] w fun e w'=>e=.returned (.int .i64 0)∧Below w.heap.size w w':=by
 obtain ⟨⟨a1,d1,rfl⟩,⟨a2,d2,rfl⟩,⟨a3,d3,rfl⟩,a4,d4,rfl⟩:=fm4 P
 obtain ⟨⟨b1,x1,rfl⟩,⟨b2,x2,rfl⟩,b3,x3,rfl⟩:=fm3 s1 s2 s3
 have R:=Rx.new (i:=⟨3,a,b⟩) (u4:=u4) P hB s1 s2 s3
 dsimp only at R
 obtain ⟨W1,hW1⟩:=exR R
 rw [hW1] at R
 obtain ⟨c00,c01,c02,c03⟩:=R.c0
 obtain ⟨c10,c11,c12,c13⟩:=R.c1
 obtain ⟨c20,c21,c22⟩:=R.c2
 obtain ⟨l0,l1,l2⟩:=R.lt
 dsimp only at c20 c21 c22
 have HR:=hide R
 clear P hB s1 s2 s3 R
 go_enter Tryz.func26,Tryz.ntmps26
 go_wp2_with fail
 go_ret
 exact ⟨rfl,HR.out.bel⟩
theorem nd_9 (P:PgAt B w v1 v2 v3 v4 p) (hB:B≤w.heap.size) (s1:SlAt 1 IntP B w u1 f.lo) (s2:SlAt 1 IntP B w u2 f.re) (s3:SlAt 1 IntP B w u3 f.ar):Calls Tryz.prog 26 #[.agg #[v1,v2,v3,v4],.agg #[.int .i64 f.pa,u1,u2,u3,u4],.agg #[.int .i64 9,.int .i64 a,.int .i64 b]] w fun e w'=>e=.returned (.int .i64 0)∧Below w.heap.size w w':=by
 obtain ⟨⟨a1,d1,rfl⟩,⟨a2,d2,rfl⟩,⟨a3,d3,rfl⟩,a4,d4,rfl⟩:=fm4 P
 obtain ⟨⟨b1,x1,rfl⟩,⟨b2,x2,rfl⟩,b3,x3,rfl⟩:=fm3 s1 s2 s3
 have R:=Rx.new (i:=⟨9,a,b⟩) (u4:=u4) P hB s1 s2 s3
 dsimp only at R
 obtain ⟨W1,hW1⟩:=exR R
 rw [hW1] at R
 obtain ⟨c00,c01,c02,c03⟩:=R.c0
 obtain ⟨c10,c11,c12,c13⟩:=R.c1
 obtain ⟨c20,c21,c22⟩:=R.c2
 obtain ⟨l0,l1,l2⟩:=R.lt
 dsimp only at c20 c21 c22
 have HR:=hide R
 clear P hB s1 s2 s3 R
 go_enter Tryz.func26,Tryz.ntmps26
 go_wp2_with fail
 go_ret
 exact ⟨rfl,HR.out.bel⟩
theorem nd_11 (P:PgAt B w v1 v2 v3 v4 p) (hB:B≤w.heap.size) (s1:SlAt 1 IntP B w u1 f.lo) (s2:SlAt 1 IntP B w u2 f.re) (s3:SlAt 1 IntP B w u3 f.ar):Calls Tryz.prog 26 #[.agg #[v1,v2,v3,v4],.agg #[.int .i64 f.pa,u1,u2,u3,u4],.agg #[.int .i64 11,.int .i64 a,.int .i64 b]] w fun e w'=>e=.returned (.int .i64 0)∧Below w.heap.size w w':=by
 obtain ⟨⟨a1,d1,rfl⟩,⟨a2,d2,rfl⟩,⟨a3,d3,rfl⟩,a4,d4,rfl⟩:=fm4 P
 obtain ⟨⟨b1,x1,rfl⟩,⟨b2,x2,rfl⟩,b3,x3,rfl⟩:=fm3 s1 s2 s3
 have R:=Rx.new (i:=⟨11,a,b⟩) (u4:=u4) P hB s1 s2 s3
 dsimp only at R
 obtain ⟨W1,hW1⟩:=exR R
 rw [hW1] at R
 obtain ⟨c00,c01,c02,c03⟩:=R.c0
 obtain ⟨c10,c11,c12,c13⟩:=R.c1
 obtain ⟨c20,c21,c22⟩:=R.c2
 obtain ⟨l0,l1,l2⟩:=R.lt
 dsimp only at c20 c21 c22
 have HR:=hide R
 clear P hB s1 s2 s3 R
 go_enter Tryz.func26,Tryz.ntmps26
 go_wp2_with fail
 go_ret
 exact ⟨rfl,HR.out.bel⟩
theorem nd_13 (P:PgAt B w v1 v2 v3 v4 p) (hB:B≤w.heap.size) (s1:SlAt 1 IntP B w u1 f.lo) (s2:SlAt 1 IntP B w u2 f.re) (s3:SlAt 1 IntP B w u3 f.ar):Calls Tryz.prog 26 #[.agg #[v1,v2,v3,v4],.agg #[.int .i64 f.pa,u1,u2,u3,u4],.agg #[.int .i64 13,.int .i64 a,.int .i64 b]] w fun e w'=>e=.returned (.int .i64 0)∧Below w.heap.size w w':=by
 obtain ⟨⟨a1,d1,rfl⟩,⟨a2,d2,rfl⟩,⟨a3,d3,rfl⟩,a4,d4,rfl⟩:=fm4 P
 obtain ⟨⟨b1,x1,rfl⟩,⟨b2,x2,rfl⟩,b3,x3,rfl⟩:=fm3 s1 s2 s3
 have R:=Rx.new (i:=⟨13,a,b⟩) (u4:=u4) P hB s1 s2 s3
 dsimp only at R
 obtain ⟨W1,hW1⟩:=exR R
 rw [hW1] at R
 obtain ⟨c00,c01,c02,c03⟩:=R.c0
 obtain ⟨c10,c11,c12,c13⟩:=R.c1
 obtain ⟨c20,c21,c22⟩:=R.c2
 obtain ⟨l0,l1,l2⟩:=R.lt
 dsimp only at c20 c21 c22
 have HR:=hide R
 clear P hB s1 s2 s3 R
 go_enter Tryz.func26,Tryz.ntmps26
 go_wp2_with fail
 go_ret
 exact ⟨rfl,HR.out.bel⟩
theorem nd_28 (P:PgAt B w v1 v2 v3 v4 p) (hB:B≤w.heap.size) (s1:SlAt 1 IntP B w u1 f.lo) (s2:SlAt 1 IntP B w u2 f.re) (s3:SlAt 1 IntP B w u3 f.ar):Calls Tryz.prog 26 #[.agg #[v1,v2,v3,v4],.agg #[.int .i64 f.pa,u1,u2,u3,u4],.agg #[.int .i64 28,.int .i64 a,.int .i64 b]] w fun e w'=>e=.returned (.int .i64 0)∧Below w.heap.size w w':=by
 obtain ⟨⟨a1,d1,rfl⟩,⟨a2,d2,rfl⟩,⟨a3,d3,rfl⟩,a4,d4,rfl⟩:=fm4 P
 obtain ⟨⟨b1,x1,rfl⟩,⟨b2,x2,rfl⟩,b3,x3,rfl⟩:=fm3 s1 s2 s3
 have R:=Rx.new (i:=⟨28,a,b⟩) (u4:=u4) P hB s1 s2 s3
 dsimp only at R
 obtain ⟨W1,hW1⟩:=exR R
 rw [hW1] at R
 obtain ⟨c00,c01,c02,c03⟩:=R.c0
 obtain ⟨c10,c11,c12,c13⟩:=R.c1
 obtain ⟨c20,c21,c22⟩:=R.c2
 obtain ⟨l0,l1,l2⟩:=R.lt
 dsimp only at c20 c21 c22
 have HR:=hide R
 clear P hB s1 s2 s3 R
 go_enter Tryz.func26,Tryz.ntmps26
 go_wp2_with fail
 go_ret
 exact ⟨rfl,HR.out.bel⟩
theorem nd_29 (P:PgAt B w v1 v2 v3 v4 p) (hB:B≤w.heap.size) (s1:SlAt 1 IntP B w u1 f.lo) (s2:SlAt 1 IntP B w u2 f.re) (s3:SlAt 1 IntP B w u3 f.ar):Calls Tryz.prog 26 #[.agg #[v1,v2,v3,v4],.agg #[.int .i64 f.pa,u1,u2,u3,u4],.agg #[.int .i64 29,.int .i64 a,.int .i64 b]] w fun e w'=>e=.returned (.int .i64 0)∧Below w.heap.size w w':=by
 obtain ⟨⟨a1,d1,rfl⟩,⟨a2,d2,rfl⟩,⟨a3,d3,rfl⟩,a4,d4,rfl⟩:=fm4 P
 obtain ⟨⟨b1,x1,rfl⟩,⟨b2,x2,rfl⟩,b3,x3,rfl⟩:=fm3 s1 s2 s3
 have R:=Rx.new (i:=⟨29,a,b⟩) (u4:=u4) P hB s1 s2 s3
 dsimp only at R
 obtain ⟨W1,hW1⟩:=exR R
 rw [hW1] at R
 obtain ⟨c00,c01,c02,c03⟩:=R.c0
 obtain ⟨c10,c11,c12,c13⟩:=R.c1
 obtain ⟨c20,c21,c22⟩:=R.c2
 obtain ⟨l0,l1,l2⟩:=R.lt
 dsimp only at c20 c21 c22
 have HR:=hide R
 clear P hB s1 s2 s3 R
 go_enter Tryz.func26,Tryz.ntmps26
 go_wp2_with fail
 go_ret
 exact ⟨rfl,HR.out.bel⟩
theorem nd_7 (P:PgAt B w v1 v2 v3 v4 p) (hB:B≤w.heap.size) (s1:SlAt 1 IntP B w u1 f.lo) (s2:SlAt 1 IntP B w u2 f.re) (s3:SlAt 1 IntP B w u3 f.ar):Calls Tryz.prog 26 #[.agg #[v1,v2,v3,v4],.agg #[.int .i64 f.pa,u1,u2,u3,u4],.agg #[.int .i64 7,.int .i64 a,.int .i64 b]] w fun e w'=>e=.returned (.int .i64 2)∧Below w.heap.size w w':=by
 obtain ⟨⟨a1,d1,rfl⟩,⟨a2,d2,rfl⟩,⟨a3,d3,rfl⟩,a4,d4,rfl⟩:=fm4 P
 obtain ⟨⟨b1,x1,rfl⟩,⟨b2,x2,rfl⟩,b3,x3,rfl⟩:=fm3 s1 s2 s3
 have R:=Rx.new (i:=⟨7,a,b⟩) (u4:=u4) P hB s1 s2 s3
 dsimp only at R
 obtain ⟨W1,hW1⟩:=exR R
 rw [hW1] at R
 obtain ⟨c00,c01,c02,c03⟩:=R.c0
 obtain ⟨c10,c11,c12,c13⟩:=R.c1
 obtain ⟨c20,c21,c22⟩:=R.c2
 obtain ⟨l0,l1,l2⟩:=R.lt
 dsimp only at c20 c21 c22
 have HR:=hide R
 clear P hB s1 s2 s3 R
 go_enter Tryz.func26,Tryz.ntmps26
 go_wp2_with fail
 go_ret
 exact ⟨rfl,HR.out.bel⟩
theorem nd_8 (P:PgAt B w v1 v2 v3 v4 p) (hB:B≤w.heap.size) (s1:SlAt 1 IntP B w u1 f.lo) (s2:SlAt 1 IntP B w u2 f.re) (s3:SlAt 1 IntP B w u3 f.ar):Calls Tryz.prog 26 #[.agg #[v1,v2,v3,v4],.agg #[.int .i64 f.pa,u1,u2,u3,u4],.agg #[.int .i64 8,.int .i64 a,.int .i64 b]] w fun e w'=>e=.returned (.int .i64 2)∧Below w.heap.size w w':=by
 obtain ⟨⟨a1,d1,rfl⟩,⟨a2,d2,rfl⟩,⟨a3,d3,rfl⟩,a4,d4,rfl⟩:=fm4 P
 obtain ⟨⟨b1,x1,rfl⟩,⟨b2,x2,rfl⟩,b3,x3,rfl⟩:=fm3 s1 s2 s3
 have R:=Rx.new (i:=⟨8,a,b⟩) (u4:=u4) P hB s1 s2 s3
 dsimp only at R
 obtain ⟨W1,hW1⟩:=exR R
 rw [hW1] at R
 obtain ⟨c00,c01,c02,c03⟩:=R.c0
 obtain ⟨c10,c11,c12,c13⟩:=R.c1
 obtain ⟨c20,c21,c22⟩:=R.c2
 obtain ⟨l0,l1,l2⟩:=R.lt
 dsimp only at c20 c21 c22
 have HR:=hide R
 clear P hB s1 s2 s3 R
 go_enter Tryz.func26,Tryz.ntmps26
 go_wp2_with fail
 go_ret
 exact ⟨rfl,HR.out.bel⟩
theorem nd_15 (P:PgAt B w v1 v2 v3 v4 p) (hB:B≤w.heap.size) (s1:SlAt 1 IntP B w u1 f.lo) (s2:SlAt 1 IntP B w u2 f.re) (s3:SlAt 1 IntP B w u3 f.ar):Calls Tryz.prog 26 #[.agg #[v1,v2,v3,v4],.agg #[.int .i64 f.pa,u1,u2,u3,u4],.agg #[.int .i64 15,.int .i64 a,.int .i64 b]] w fun e w'=>e=.returned (.int .i64 2)∧Below w.heap.size w w':=by
 obtain ⟨⟨a1,d1,rfl⟩,⟨a2,d2,rfl⟩,⟨a3,d3,rfl⟩,a4,d4,rfl⟩:=fm4 P
 obtain ⟨⟨b1,x1,rfl⟩,⟨b2,x2,rfl⟩,b3,x3,rfl⟩:=fm3 s1 s2 s3
 have R:=Rx.new (i:=⟨15,a,b⟩) (u4:=u4) P hB s1 s2 s3
 dsimp only at R
 obtain ⟨W1,hW1⟩:=exR R
 rw [hW1] at R
 obtain ⟨c00,c01,c02,c03⟩:=R.c0
 obtain ⟨c10,c11,c12,c13⟩:=R.c1
 obtain ⟨c20,c21,c22⟩:=R.c2
 obtain ⟨l0,l1,l2⟩:=R.lt
 dsimp only at c20 c21 c22
 have HR:=hide R
 clear P hB s1 s2 s3 R
 go_enter Tryz.func26,Tryz.ntmps26
 go_wp2_with fail
 go_ret
 exact ⟨rfl,HR.out.bel⟩
theorem nd_17 (P:PgAt B w v1 v2 v3 v4 p) (hB:B≤w.heap.size) (s1:SlAt 1 IntP B w u1 f.lo) (s2:SlAt 1 IntP B w u2 f.re) (s3:SlAt 1 IntP B w u3 f.ar):Calls Tryz.prog 26 #[.agg #[v1,v2,v3,v4],.agg #[.int .i64 f.pa,u1,u2,u3,u4],.agg #[.int .i64 17,.int .i64 a,.int .i64 b]] w fun e w'=>e=.returned (.int .i64 2)∧Below w.heap.size w w':=by
 obtain ⟨⟨a1,d1,rfl⟩,⟨a2,d2,rfl⟩,⟨a3,d3,rfl⟩,a4,d4,rfl⟩:=fm4 P
 obtain ⟨⟨b1,x1,rfl⟩,⟨b2,x2,rfl⟩,b3,x3,rfl⟩:=fm3 s1 s2 s3
 have R:=Rx.new (i:=⟨17,a,b⟩) (u4:=u4) P hB s1 s2 s3
 dsimp only at R
 obtain ⟨W1,hW1⟩:=exR R
 rw [hW1] at R
 obtain ⟨c00,c01,c02,c03⟩:=R.c0
 obtain ⟨c10,c11,c12,c13⟩:=R.c1
 obtain ⟨c20,c21,c22⟩:=R.c2
 obtain ⟨l0,l1,l2⟩:=R.lt
 dsimp only at c20 c21 c22
 have HR:=hide R
 clear P hB s1 s2 s3 R
 go_enter Tryz.func26,Tryz.ntmps26
 go_wp2_with fail
 go_ret
 exact ⟨rfl,HR.out.bel⟩
theorem nd_24 (P:PgAt B w v1 v2 v3 v4 p) (hB:B≤w.heap.size) (s1:SlAt 1 IntP B w u1 f.lo) (s2:SlAt 1 IntP B w u2 f.re) (s3:SlAt 1 IntP B w u3 f.ar):Calls Tryz.prog 26 #[.agg #[v1,v2,v3,v4],.agg #[.int .i64 f.pa,u1,u2,u3,u4],.agg #[.int .i64 24,.int .i64 a,.int .i64 b]] w fun e w'=>e=.returned (.int .i64 (f.re.length:Int))∧Below w.heap.size w w':=by
 obtain ⟨⟨a1,d1,rfl⟩,⟨a2,d2,rfl⟩,⟨a3,d3,rfl⟩,a4,d4,rfl⟩:=fm4 P
 obtain ⟨⟨b1,x1,rfl⟩,⟨b2,x2,rfl⟩,b3,x3,rfl⟩:=fm3 s1 s2 s3
 have R:=Rx.new (i:=⟨24,a,b⟩) (u4:=u4) P hB s1 s2 s3
 dsimp only at R
 obtain ⟨W1,hW1⟩:=exR R
 rw [hW1] at R
 obtain ⟨c00,c01,c02,c03⟩:=R.c0
 obtain ⟨c10,c11,c12,c13⟩:=R.c1
 obtain ⟨c20,c21,c22⟩:=R.c2
 obtain ⟨l0,l1,l2⟩:=R.lt
 dsimp only at c20 c21 c22
 have HR:=hide R
 clear P hB s1 s2 s3 R
 go_enter Tryz.func26,Tryz.ntmps26
 go_wp2_with fail
 go_ret
 exact ⟨rfl,HR.out.bel⟩
theorem nd_r {o:Int} (P:PgAt B w v1 v2 v3 v4 p) (hB:B≤w.heap.size) (s1:SlAt 1 IntP B w u1 f.lo) (s2:SlAt 1 IntP B w u2 f.re) (s3:SlAt 1 IntP B w u3 f.ar) (h1:(o == 1)=false) (h2:(o == 2)=false) (h3:(o == 3)=false) (h7:(o == 7)=false) (h8:(o == 8)=false) (h9:(o == 9)=false) (h11:(o == 11)=false) (h13:(o == 13)=false) (h15:(o == 15)=false) (h17:(o == 17)=false) (h22:(o == 22)=false) (h23:(o == 23)=false) (h24:(o == 24)=false) (h28:(o == 28)=false) (h29:(o == 29)=false):Calls Tryz.prog 26 #[.agg #[v1,v2,v3,v4],.agg #[.int .i64 f.pa,u1,u2,u3,u4],.agg #[.int .i64 o,.int .i64 a,.int .i64 b]] w fun e w'=>e=.returned (.int .i64 1)∧Below w.heap.size w w':=by
 obtain ⟨⟨a1,d1,rfl⟩,⟨a2,d2,rfl⟩,⟨a3,d3,rfl⟩,a4,d4,rfl⟩:=fm4 P
 obtain ⟨⟨b1,x1,rfl⟩,⟨b2,x2,rfl⟩,b3,x3,rfl⟩:=fm3 s1 s2 s3
 have R:=Rx.new (i:=⟨o,a,b⟩) (u4:=u4) P hB s1 s2 s3
 dsimp only at R
 obtain ⟨W1,hW1⟩:=exR R
 rw [hW1] at R
 obtain ⟨c00,c01,c02,c03⟩:=R.c0
 obtain ⟨c10,c11,c12,c13⟩:=R.c1
 obtain ⟨c20,c21,c22⟩:=R.c2
 obtain ⟨l0,l1,l2⟩:=R.lt
 dsimp only at c20 c21 c22
 have HR:=hide R
 clear P hB s1 s2 s3 R
 go_enter Tryz.func26,Tryz.ntmps26
 go_wp2_with fail
 go_ret
 exact ⟨rfl,HR.out.bel⟩
theorem nd_22 (P:PgAt B w v1 v2 v3 v4 p) (hB:B≤w.heap.size) (s1:SlAt 1 IntP B w u1 f.lo) (s2:SlAt 1 IntP B w u2 f.re) (s3:SlAt 1 IntP B w u3 f.ar) {n:Nat} {g:Fd} (ha:a=(n:Int)) (hg:p.fu[n]?=some g):Calls Tryz.prog 26 #[.agg #[v1,v2,v3,v4],.agg #[.int .i64 f.pa,u1,u2,u3,u4],.agg #[.int .i64 22,.int .i64 a,.int .i64 b]] w fun e w'=>e=.returned (.int .i64 g.pa)∧Below w.heap.size w w':=by
 obtain ⟨⟨a1,d1,rfl⟩,⟨a2,d2,rfl⟩,⟨a3,d3,rfl⟩,a4,d4,rfl⟩:=fm4 P
 obtain ⟨⟨b1,x1,rfl⟩,⟨b2,x2,rfl⟩,b3,x3,rfl⟩:=fm3 s1 s2 s3
 have R:=Rx.new (i:=⟨22,a,b⟩) (u4:=u4) P hB s1 s2 s3
 dsimp only at R
 obtain ⟨W1,hW1⟩:=exR R
 rw [hW1] at R
 obtain ⟨c00,c01,c02,c03⟩:=R.c0
 obtain ⟨c10,c11,c12,c13⟩:=R.c1
 obtain ⟨c20,c21,c22⟩:=R.c2
 obtain ⟨l0,l1,l2⟩:=R.lt
 dsimp only at c20 c21 c22
 have HR:=hide R
 clear P hB s1 s2 s3 R
 subst ha
 obtain ⟨q,o,c,m,_,_,_,_,hv,hm,hl,hq,⟨y0,_,_,_,_⟩,_⟩:=fd_at HR.out.pg.fu hg
 cases hv
 have hqw:q<W1.heap.size:=by have:=HR.out.hB;have:=HR.out.bel.size;omega
 have dd:decide (n<p.fu.length)=true:=by simpa using hl
 clear hm hg
 go_enter Tryz.func26,Tryz.ntmps26
 go_wp2_with fail
 go_ret
 exact ⟨rfl,HR.out.bel⟩
theorem nd_23 (P:PgAt B w v1 v2 v3 v4 p) (hB:B≤w.heap.size) (s1:SlAt 1 IntP B w u1 f.lo) (s2:SlAt 1 IntP B w u2 f.re) (s3:SlAt 1 IntP B w u3 f.ar) {n m:Nat} {t:List Int} {g:Fd} (ha:a=(n:Int)) (ht:p.ta[n]?=some t) (h0:t[0]?=some (m:Int)) (hg:p.fu[m]?=some g) (hp:0≤g.pa∧g.pa≤4096):Calls Tryz.prog 26 #[.agg #[v1,v2,v3,v4],.agg #[.int .i64 f.pa,u1,u2,u3,u4],.agg #[.int .i64 23,.int .i64 a,.int .i64 b]] w fun e w'=>e=.returned (.int .i64 (g.pa+1))∧Below w.heap.size w w':=by
 obtain ⟨⟨a1,d1,rfl⟩,⟨a2,d2,rfl⟩,⟨a3,d3,rfl⟩,a4,d4,rfl⟩:=fm4 P
 obtain ⟨⟨b1,x1,rfl⟩,⟨b2,x2,rfl⟩,b3,x3,rfl⟩:=fm3 s1 s2 s3
 have R:=Rx.new (i:=⟨23,a,b⟩) (u4:=u4) P hB s1 s2 s3
 dsimp only at R
 obtain ⟨W1,hW1⟩:=exR R
 rw [hW1] at R
 obtain ⟨c00,c01,c02,c03⟩:=R.c0
 obtain ⟨c10,c11,c12,c13⟩:=R.c1
 obtain ⟨c20,c21,c22⟩:=R.c2
 obtain ⟨l0,l1,l2⟩:=R.lt
 dsimp only at c20 c21 c22
 have HR:=hide R
 clear P hB s1 s2 s3 R
 subst ha
 have hBW:B≤W1.heap.size:=Nat.le_trans HR.out.hB HR.out.bel.size
 obtain ⟨q,o,c,nn,_,_,_,_,hv,hm,hl,hq,⟨y0,_,_,_,_⟩,_⟩:=fd_at HR.out.pg.fu hg
 cases hv
 obtain ⟨g2,o2,c2,n2,u,hv2,hn2,hl2,hg2,hc2,hsl⟩:=lst_at HR.out.pg.ta ht
 cases hv2
 obtain ⟨g3,o3,c3,hv3,hg3,hc3,_,_⟩:=il_at hsl h0
 subst hv3
 rw [Nat.add_zero] at hc3
 have hqw:q<W1.heap.size:=by omega
 have hg2w:g2<W1.heap.size:=by omega
 have hg3w:g3<W1.heap.size:=by omega
 have dd1:decide (m<p.fu.length)=true:=by simpa using hl
 have dd2:decide (n<p.ta.length)=true:=by simpa using hl2
 have ht0:0<t.length:=get_lt h0
 have dd3:decide (0<t.length)=true:=by simpa using ht0
 have hw:IntKind.i64.wrap (g.pa+1)=g.pa+1:=wrapI (by omega) (by omega)
 have HG:=hide (show ∀ W:World,W=W1.drew→Below w.heap.size w W from fun W h=>by subst h;exact below_drew HR.out.bel)
 clear hm hn2 hsl h0 hg ht hp
 go_enter Tryz.func26,Tryz.ntmps26
 go_upto_region 19 with (fail)
 refine wp_region_held_drew (S:=(fun W:World=>W=W1.drew∧W.cell? ⟨w.heap.size,1,none⟩=some (.slice (some ⟨q,o,none⟩) p.fu.length d2)∧W.cell? ⟨w.heap.size,2,none⟩=some (.slice (some ⟨g2,o2,none⟩) p.ta.length d3)∧W.cell? ⟨w.heap.size+2,1,none⟩=some (.int .i64 (n:Int))∧W.cell? ⟨g2,o2+n,none⟩=some (.slice (some ⟨g3,o3,none⟩) t.length c3)∧W.cell? ⟨g3,o3,none⟩=some (.int .i64 (m:Int))∧W.cell? ⟨q,o+m*5,none⟩=some (.int .i64 g.pa))) (by kernel_rfl) ⟨rfl,c01,c02,c21,hc2,hc3,y0⟩ (fun hHeld1=>?_)
 refine tk 0 ?_;simp only [sp]
 refine tk 1 ?_;simp only [sp]
 refine tk 2 ?_;simp only [sp]
 refine tk 3 ?_;simp only [sp]
 refine tk 4 ?_;simp only [sp]
 refine tk 5 ?_;simp only [sp]
 refine tk 6 ?_;simp only [sp]
 refine tk 7 ?_;simp only [sp]
 refine tk 8 ?_;simp only [sp]
 refine tk 9 ?_;simp only [sp]
 refine tk 10 ?_;simp only [sp]
 refine tk 11 ?_;simp only [sp]
 refine tk 12 ?_;simp only [sp]
 refine tk 13 ?_;simp only [sp]
 refine tk 14 ?_;simp only [sp]
 refine wpAnyH_done (by kernel_rfl) ?_ _
 go_wp2_with fail
 go_ret
 exact ⟨rfl,HG.out _ rfl⟩
theorem tab_first {p:Pg} {t:List Int} (h:tableB p t=true):∃ (m:Nat) (g:Fd),t[0]?=some (m:Int)∧p.fu[m]?=some g:=by
 unfold tableB at h
 simp only [Bool.and_eq_true,decide_eq_true_eq,List.all_eq_true] at h
 obtain ⟨h0,h1⟩:=h
 obtain ⟨x,hx⟩ : ∃ x,t[0]?=some x:=⟨t[0],by simp⟩
 obtain ⟨m,rfl,hm⟩:=in_nat (h1 x (List.mem_of_getElem? hx)).1.1
 exact ⟨m,p.fu[m],hx,by simp⟩
theorem needs_any (P:PgAt B w v1 v2 v3 v4 p) (hB:B≤w.heap.size) (s1:SlAt 1 IntP B w u1 f.lo) (s2:SlAt 1 IntP B w u2 f.re) (s3:SlAt 1 IntP B w u3 f.ar) (H:Hok p) {i:In3} (ho:1≤i.o∧i.o≤29) (hN:namesB p f i=true):Calls Tryz.prog 26 #[.agg #[v1,v2,v3,v4],.agg #[.int .i64 f.pa,u1,u2,u3,u4],.agg #[.int .i64 i.o,.int .i64 i.a,.int .i64 i.b]] w fun e w'=>e=.returned (.int .i64 ((takesP p f i).n:Int))∧Below w.heap.size w w':=by
 obtain ⟨o,a,b⟩:=i
 dsimp only at ho ⊢
 by_cases h1:o=1
 · subst h1
   rw [show (takesP p f ⟨1,a,b⟩).n=0 by simp [takesP,Must.n]]
   exact nd_1 P hB s1 s2 s3
 by_cases h2:o=2
 · subst h2
   rw [show (takesP p f ⟨2,a,b⟩).n=0 by simp [takesP,Must.n]]
   exact nd_2 P hB s1 s2 s3
 by_cases h3:o=3
 · subst h3
   rw [show (takesP p f ⟨3,a,b⟩).n=0 by simp [takesP,Must.n]]
   exact nd_3 P hB s1 s2 s3
 by_cases h7:o=7
 · subst h7
   rw [show (takesP p f ⟨7,a,b⟩).n=2 by simp [takesP,Must.n]]
   exact nd_7 P hB s1 s2 s3
 by_cases h8:o=8
 · subst h8
   rw [show (takesP p f ⟨8,a,b⟩).n=2 by simp [takesP,Must.n]]
   exact nd_8 P hB s1 s2 s3
 by_cases h9:o=9
 · subst h9
   rw [show (takesP p f ⟨9,a,b⟩).n=0 by simp [takesP,Must.n]]
   exact nd_9 P hB s1 s2 s3
 by_cases h11:o=11
 · subst h11
   rw [show (takesP p f ⟨11,a,b⟩).n=0 by simp [takesP,Must.n]]
   exact nd_11 P hB s1 s2 s3
 by_cases h13:o=13
 · subst h13
   rw [show (takesP p f ⟨13,a,b⟩).n=0 by simp [takesP,Must.n]]
   exact nd_13 P hB s1 s2 s3
 by_cases h15:o=15
 · subst h15
   rw [show (takesP p f ⟨15,a,b⟩).n=2 by simp [takesP,Must.n]]
   exact nd_15 P hB s1 s2 s3
 by_cases h17:o=17
 · subst h17
   rw [show (takesP p f ⟨17,a,b⟩).n=2 by simp [takesP,Must.n]]
   exact nd_17 P hB s1 s2 s3
 by_cases h22:o=22
 · subst h22
   have hN2:inB a p.fu.length=true:=by simpa [namesB] using hN
   obtain ⟨n,rfl,hn⟩:=in_nat hN2
   obtain ⟨g,hg⟩ : ∃ g,p.fu[n]?=some g:=⟨p.fu[n],by simp⟩
   have hp:=(H.fu g (List.mem_of_getElem? hg)).pa
   have hE:((takesP p f ⟨22,(n:Int),b⟩).n:Int)=g.pa:=by
    rw [show (takesP p f ⟨22,(n:Int),b⟩).n=(parK (callP p (n:Int))).length by simp [takesP,Must.n]]
    unfold callP parK
    rw [Int.toNat_natCast,hg,Option.getD_some,List.length_take]
    omega
   rw [hE]
   exact nd_22 P hB s1 s2 s3 rfl hg
 by_cases h23:o=23
 · subst h23
   have hN2:inB a p.ta.length=true:=by simpa [namesB] using hN
   obtain ⟨n,rfl,hn⟩:=in_nat hN2
   obtain ⟨t,ht⟩ : ∃ t,p.ta[n]?=some t:=⟨p.ta[n],by simp⟩
   obtain ⟨m,g,h0,hg⟩:=tab_first (H.ta t (List.mem_of_getElem? ht))
   have hp:=(H.fu g (List.mem_of_getElem? hg)).pa
   have hl:=(H.fu g (List.mem_of_getElem? hg)).nl
   have hE:((takesP p f ⟨23,(n:Int),b⟩).n:Int)=g.pa+1:=by
    rw [show (takesP p f ⟨23,(n:Int),b⟩).n=(parK (itemP p (n:Int))++[0]).length by simp [takesP,Must.n]]
    unfold itemP parK
    rw [Int.toNat_natCast,ht,Option.getD_some,h0,Option.getD_some,Int.toNat_natCast,hg,Option.getD_some,List.length_append,List.length_take]
    simp
    omega
   rw [hE]
   exact nd_23 P hB s1 s2 s3 rfl ht h0 hg ⟨hp.1,by omega⟩
 by_cases h24:o=24
 · subst h24
   rw [show (takesP p f ⟨24,a,b⟩).n=f.re.length by simp [takesP,Must.n]]
   exact nd_24 P hB s1 s2 s3
 by_cases h28:o=28
 · subst h28
   rw [show (takesP p f ⟨28,a,b⟩).n=0 by simp [takesP,Must.n]]
   exact nd_28 P hB s1 s2 s3
 by_cases h29:o=29
 · subst h29
   rw [show (takesP p f ⟨29,a,b⟩).n=0 by simp [takesP,Must.n]]
   exact nd_29 P hB s1 s2 s3
 rw [show (takesP p f ⟨o,a,b⟩).n=1 by
  have h:o=4∨o=5∨o=6∨o=10∨o=12∨o=14∨o=16∨o=18∨o=19∨o=20∨o=21∨o=25∨o=26∨o=27:=by omega
  clear hN
  rcases h with rfl | rfl | rfl | rfl | rfl | rfl | rfl | rfl | rfl | rfl | rfl | rfl | rfl | rfl <;> simp [takesP,Must.n]]
 exact nd_r P hB s1 s2 s3 (bne_int h1) (bne_int h2) (bne_int h3) (bne_int h7) (bne_int h8) (bne_int h9) (bne_int h11) (bne_int h13) (bne_int h15) (bne_int h17) (bne_int h22) (bne_int h23) (bne_int h24) (bne_int h28) (bne_int h29)
end
end Go.Proofs.YtkdojpnihinpbaaGreatDoor
