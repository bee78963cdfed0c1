/- What behind leans on: the way's memory, one kind more, a type's fields, a call's stack. -/
import Derived.Test.YtkdojpnihinpbaaGreatDoorVfHJo
import Derived.Test.YtkdojpnihinpbaaGreatDoorVfOJo
import Derived.Test.YtkdojpnihinpbaaGreatDoorVfTkJo
namespace Go.Proofs.YtkdojpnihinpbaaGreatDoor
set_option maxRecDepth 100000
set_option maxHeartbeats 1000000
open Go.RowKit
structure WyAt (B:Nat) (w:World) (v1 v2 v3 v4 u1 u2 u3 u4:Value) (p:Pg) (f:Fd):Prop where
  hB:B≤w.heap.size
  pg:PgAt B w v1 v2 v3 v4 p
  lo:SlAt 1 IntP B w u1 f.lo
  re:SlAt 1 IntP B w u2 f.re
  ar:SlAt 1 IntP B w u3 f.ar
  co:SlAt 3 InsP B w u4 f.co
def BhO (X:Nat→Prop) (E:Nat) (l:List Int) (w:World) (e:Ending) (W:World):Prop:=∃ b',e=.returned (pp b')∧PileAt X W E b' l∧Below w.heap.size w W
section
variable {B E b:Nat} {X:Nat→Prop} {w w' W:World} {v1 v2 v3 v4 u1 u2 u3 u4:Value} {p:Pg} {f:Fd} {l:List Int} {e:Ending}
theorem WyAt.below (Y:WyAt B w v1 v2 v3 v4 u1 u2 u3 u4 p f) (h:Below w.heap.size w w'):WyAt B w' v1 v2 v3 v4 u1 u2 u3 u4 p f :=
  have hk:∀ j,j<B→w'.heap[j]?=w.heap[j]?:=fun j hj=>h.block j (Nat.lt_of_lt_of_le hj Y.hB)
  ⟨Nat.le_trans Y.hB h.size,Y.pg.keep (Nat.le_refl _) hk,ints_keep (Nat.le_refl _) hk Y.lo,ints_keep (Nat.le_refl _) hk Y.re,ints_keep (Nat.le_refl _) hk Y.ar,ins_keep (Nat.le_refl _) hk Y.co⟩
theorem with1 (P:PileAt X w E b l) (hX:∀ j,X j→j<w.heap.size) (hl:l.length≤1000000000000) (k:Int) (T:TypeId):Calls Tryz.prog 34 #[pp b,.slice (some ⟨w.heap.size,0,none⟩) 1 1] (w.alloc (.cells #[.int .i64 k] T)) (BhO X E (l++[k]) w):=by
 have hb:Below w.heap.size w (w.alloc (.cells #[.int .i64 k] T)):=(Below.refl _ _).alloc (Nat.le_refl _) _
 have hI:IsAt X (w.alloc (.cells #[.int .i64 k] T)) (.slice (some ⟨w.heap.size,0,none⟩) [k].length [k].length) [k]:=isAt_new (T:=T) (heap_new _ _ rfl) (fun h=>Nat.lt_irrefl _ (hX _ h)) (by simp)
 refine (with_any (P.keep (Kp.of_below hb)) hI (fun j hj=>Nat.lt_of_lt_of_le (hX j hj) hb.size) (by simp only [List.length_singleton];omega)).mono ?_
 rintro e w2 ⟨b2,rfl,hP,hb2⟩
 exact ⟨b2,rfl,hP,bel_tr hb hb2⟩
theorem fields_any {a1 a2 a3 a4 b1 b2 b3 b4:Option Addr} {d1 d2 d3 d4 n2 n3 n4 m1 m2 m3 m4 e1 e2 e3 e4:Nat} (Y:WyAt B w (.slice a1 p.ty.length d1) (.slice a2 n2 d2) (.slice a3 n3 d3) (.slice a4 n4 d4) (.slice b1 m1 e1) (.slice b2 m2 e2) (.slice b3 m3 e3) (.slice b4 m4 e4) p f) (hn:p.ty.length≤1024) {k:Int} (hk:isKB p.ty.length k=true) {t:Nat} (ht:(bareK k - 2) / 2=(t:Int)) (h2:2≤bareK k) {fs:List Int} (hfs:p.ty[t]?=some fs) (q:Int) :
    Calls Tryz.prog 37 #[.agg #[.slice a1 p.ty.length d1,.slice a2 n2 d2,.slice a3 n3 d3,.slice a4 n4 d4,.int .i64 q,.slice b1 m1 e1,.slice b2 m2 e2,.slice b3 m3 e3,.slice b4 m4 e4],.int .i64 k] w fun e W=>∃ u,e=.returned u∧SlAt 1 IntP B W u fs∧Below w.heap.size w W:=by
  obtain ⟨g,o,c,n,u,hv,hn',hlt,hg,hc,hl⟩:=lst_at Y.pg.ty hfs
  cases hv
  have hbits:=(bits_bare hn hk).1
  have hq:(bareK k - 2).tdiv 2=(t:Int):=by rw [Int.tdiv_eq_ediv_of_nonneg (by omega)];exact ht
  have hd1:decide (t<p.ty.length)=true:=by simpa using hlt
  have hbk:bareK k<1048576+2*1024+2:=by
   have h:=of_decide_eq_true hk
   unfold bareK
   split <;> (unfold bareK at h;first | omega | (split at h <;> omega))
  have hgw:g<w.heap.size:=Nat.lt_of_lt_of_le hg Y.hB
  obtain ⟨W1,hW1⟩ : ∃ W1,w.alloc (.cells #[.slice (some ⟨g,o,none⟩) p.ty.length d1,.slice a2 n2 d2,.slice a3 n3 d3,.slice a4 n4 d4,.int .i64 q,.slice b1 m1 e1,.slice b2 m2 e2,.slice b3 m3 e3,.slice b4 m4 e4] 73)=W1:=⟨_,rfl⟩
  have hb:Below w.heap.size w W1:=by rw [← hW1];exact (Below.refl _ _).alloc (Nat.le_refl _) _
  have hW:W1.heap[w.heap.size]?=some (.cells #[.slice (some ⟨g,o,none⟩) p.ty.length d1,.slice a2 n2 d2,.slice a3 n3 d3,.slice a4 n4 d4,.int .i64 q,.slice b1 m1 e1,.slice b2 m2 e2,.slice b3 m3 e3,.slice b4 m4 e4] 73 (0,0)):=by rw [← hW1];exact heap_new _ _ rfl
  have c0:W1.cell? ⟨w.heap.size,0,none⟩=some (.slice (some ⟨g,o,none⟩) p.ty.length d1):=cell_of hW rfl
  have c1:W1.cell? ⟨g,o+t,none⟩=some u:=(hb.cell (p:=⟨g,o+t,none⟩) hgw).trans hc
  have hlW:=lt_of_block hW
  have hgW:g<W1.heap.size:=Nat.lt_of_lt_of_le hgw hb.size
  have HS:=hide (show SlAt 1 IntP B W1 u fs∧Below w.heap.size w W1 from ⟨ints_keep (Nat.le_refl _) (fun j hj=>hb.block j (Nat.lt_of_lt_of_le hj Y.hB)) hl,hb⟩)
  obtain ⟨ao,cap,rfl,_,_⟩:=hl
  have t0:(0:Int)≤(t:Int):=by omega
  have t1:(t:Int)≤1024:=by omega
  clear Y hk ht hfs hn' hc hb hW hn hg
  generalize bareK k=bk at *
  have w1:IntKind.i64.wrap (bk - 2)=bk - 2:=by go_arith
  go_enter Tryz.func37,Tryz.ntmps37
  go_wp2
  go_ret
  exact ⟨_,rfl,HS.out⟩
theorem called_any {g:Fd} {x1 x2 x3 x4:Value} (P:PileAt X w E b l) (hX:∀ j,X j→B≤j∧j<w.heap.size) (hB:B≤w.heap.size) (hl:l.length≤1000000000000) {q:Nat} (hq:g.pa=(q:Int)) (hql:q≤l.length) (R1:SlAt 1 IntP B w x1 g.lo) (R2:SlAt 1 IntP B w x2 g.re) (R3:SlAt 1 IntP B w x3 g.ar) (R4:SlAt 3 InsP B w x4 g.co) (hr:g.re.length≤4096) :
    Calls Tryz.prog 38 #[.agg #[.int .i64 g.pa,x1,x2,x3,x4],pp b] w (BhO X E (l.take (l.length - q)++g.re) w):=by
  obtain ⟨y1,z1,rfl⟩:=sl_form R1
  obtain ⟨y2,z2,rfl⟩:=sl_form R2
  obtain ⟨y3,z3,rfl⟩:=sl_form R3
  obtain ⟨y4,z4,rfl⟩:=sl_form R4
  rw [hq]
  obtain ⟨W1,hW1⟩ : ∃ W1,w.alloc (.cells #[.int .i64 q,.slice y1 g.lo.length z1,.slice y2 g.re.length z2,.slice y3 g.ar.length z3,.slice y4 g.co.length z4] 40)=W1:=⟨_,rfl⟩
  have hb:Below w.heap.size w W1:=by rw [← hW1];exact (Below.refl _ _).alloc (Nat.le_refl _) _
  have hW:W1.heap[w.heap.size]?=some (.cells #[.int .i64 q,.slice y1 g.lo.length z1,.slice y2 g.re.length z2,.slice y3 g.ar.length z3,.slice y4 g.co.length z4] 40 (0,0)):=by rw [← hW1];exact heap_new _ _ rfl
  have c0:W1.cell? ⟨w.heap.size,0,none⟩=some (.int .i64 q):=cell_of hW rfl
  have c2:W1.cell? ⟨w.heap.size,2,none⟩=some (.slice y2 g.re.length z2):=cell_of hW rfl
  have hlW:=lt_of_block hW
  have HC:=hide (show ∀ W:World,Below W1.heap.size W1 W→W.cell? ⟨w.heap.size,0,none⟩=some (.int .i64 q)∧W.cell? ⟨w.heap.size,2,none⟩=some (.slice y2 g.re.length z2) from fun W h=>⟨(h.cell (p:=⟨w.heap.size,0,none⟩) hlW).trans c0,(h.cell (p:=⟨w.heap.size,2,none⟩) hlW).trans c2⟩)
  have HWO:=hide (show ∀ W:World,Below W1.heap.size W1 W→Calls Tryz.prog 35 #[pp b,.int .i64 q] W (BhO X E (l.take (l.length - q)) W) from fun W h=>without_any (P.keep (Kp.of_below (bel_tr hb h))) hql (fun j hj=>Nat.lt_of_lt_of_le (hX j hj).2 (bel_tr hb h).size) (by omega))
  have HWI:=hide (show ∀ (W:World) (b' : Nat),Below W1.heap.size W1 W→PileAt X W E b' (l.take (l.length - q))→Calls Tryz.prog 34 #[pp b',.slice y2 g.re.length z2] W (BhO X E (l.take (l.length - q)++g.re) W) from fun W b' h hp=>with_any hp (is_of_sl (ints_keep (Nat.le_refl _) (fun j hj=>(bel_tr hb h).block j (Nat.lt_of_lt_of_le hj hB)) R2) (Nat.le_trans hB (bel_tr hb h).size) (fun j hj hx=>by have:=(hX j hx).1;omega)) (fun j hj=>Nat.lt_of_lt_of_le (hX j hj).2 (bel_tr hb h).size) (by rw [List.length_take];omega))
  have HB:=hide hb
  clear P hX hB hl hql R1 R2 R3 R4 hr hb hW hq
  generalize l.take (l.length - q)=l1 at *
  generalize l1++g.re=l2 at *
  generalize g.re.length=n2 at *
  go_enter Tryz.func38,Tryz.ntmps38
  go_wp2_with fail
  refine wp_region_held_drew (S:=(fun W=>W.cell? ⟨w.heap.size,0,none⟩=some (.int .i64 q)∧W.cell? ⟨w.heap.size,2,none⟩=some (.slice y2 n2 z2))) (by kernel_rfl) ⟨c0,c2⟩ (fun hHeld1=>?_)
  refine tk 0 ?_;simp only [sp]
  refine tk 1 ?_;simp only [sp]
  refine tk 2 ?_;simp only [sp]
  refine tk 4 ?_;simp only [sp]
  refine tk 5 ?_;simp only [sp]
  refine rd 3 (fun K hK=>?_)
  go_simp
  go_at_call 35
  refine (HWO.out _ (below_drew (Below.refl _ _))).mono ?_
  rintro e w2 ⟨b2,rfl,hp2,hb2⟩
  have HB2:=hide (show Below W1.heap.size W1 w2 from bel_tr (below_drew (Below.refl _ _)) hb2)
  have HP2:=hide hp2
  clear hb2 hp2
  go_wp2_with fail
  refine hK.out _ _ (HC.out _ HB2.out) (fun hHeld7=>?_)
  clear hK K
  try simp only [sp]
  refine rd 6 (fun K hK=>?_)
  go_simp
  go_at_call 34
  refine (HWI.out _ _ HB2.out HP2.out).mono ?_
  rintro e w3 ⟨b3,rfl,hp3,hb3⟩
  have HB3:=hide (bel_tr HB2.out hb3)
  have HP3:=hide hp3
  clear hb3 hp3
  go_wp2_with fail
  refine hK.out _ _ (HC.out _ HB3.out) (fun hHeld8=>?_)
  clear hK K
  try simp only [sp]
  refine tk 7 ?_;simp only [sp]
  refine wpAnyH_done (by kernel_rfl) ?_ _
  go_wp2
  go_ret
  exact ⟨b3,rfl,HP3.out,bel_tr HB.out HB3.out⟩
end
section
variable {B E b:Nat} {X:Nat→Prop} {w:World} {a1 a2 a3 a4 b1 b2 b3 b4:Option Addr} {d1 d2 d3 d4 e1 e2 e3 e4:Nat} {p:Pg} {f:Fd} {s:List Int}
theorem bpre (Y:WyAt B w (.slice a1 p.ty.length d1) (.slice a2 p.fu.length d2) (.slice a3 p.ta.length d3) (.slice a4 p.st.length d4) (.slice b1 f.lo.length e1) (.slice b2 f.re.length e2) (.slice b3 f.ar.length e3) (.slice b4 f.co.length e4) p f) (i:In3) (P:PileAt X w E b s) (hX:∀ j,X j→B≤j∧j<w.heap.size) (hs:s.length≤1000000000000):∃ W1:World,((w.alloc (.cells #[.slice a1 p.ty.length d1,.slice a2 p.fu.length d2,.slice a3 p.ta.length d3,.slice a4 p.st.length d4,.int .i64 f.pa,.slice b1 f.lo.length e1,.slice b2 f.re.length e2,.slice b3 f.ar.length e3,.slice b4 f.co.length e4] 73)).alloc (.cells #[.int .i64 i.o,.int .i64 i.a,.int .i64 i.b] 46)=W1)∧W1.heap[w.heap.size]?=some (.cells #[.slice a1 p.ty.length d1,.slice a2 p.fu.length d2,.slice a3 p.ta.length d3,.slice a4 p.st.length d4,.int .i64 f.pa,.slice b1 f.lo.length e1,.slice b2 f.re.length e2,.slice b3 f.ar.length e3,.slice b4 f.co.length e4] 73 (0,0))∧W1.cell? ⟨w.heap.size+1,0,none⟩=some (.int .i64 i.o)∧W1.cell? ⟨w.heap.size+1,1,none⟩=some (.int .i64 i.a)∧W1.cell? ⟨w.heap.size+1,2,none⟩=some (.int .i64 i.b)∧w.heap.size<W1.heap.size∧w.heap.size+1<W1.heap.size∧Hid (∀ W:World,Below W1.heap.size W1 W→W.heap[w.heap.size]?=some (.cells #[.slice a1 p.ty.length d1,.slice a2 p.fu.length d2,.slice a3 p.ta.length d3,.slice a4 p.st.length d4,.int .i64 f.pa,.slice b1 f.lo.length e1,.slice b2 f.re.length e2,.slice b3 f.ar.length e3,.slice b4 f.co.length e4] 73 (0,0)))∧Hid (∀ W:World,Below W1.heap.size W1 W→W.heap[w.heap.size+1]?=some (.cells #[.int .i64 i.o,.int .i64 i.a,.int .i64 i.b] 46 (0,0)))∧Hid (Below w.heap.size w W1)∧Hid (∀ W:World,Below W1.heap.size W1 W→WyAt B W (.slice a1 p.ty.length d1) (.slice a2 p.fu.length d2) (.slice a3 p.ta.length d3) (.slice a4 p.st.length d4) (.slice b1 f.lo.length e1) (.slice b2 f.re.length e2) (.slice b3 f.ar.length e3) (.slice b4 f.co.length e4) p f)∧Hid (∀ W:World,Below W1.heap.size W1 W→PileAt X W E b s)∧Hid (∀ W:World,Below W1.heap.size W1 W→∀ j,X j→B≤j∧j<W.heap.size)∧Hid (∀ W:World,Below W1.heap.size W1 W→¬ X W.heap.size)∧Hid (∀ (W:World) (n:Nat),Below W1.heap.size W1 W→n≤s.length→Calls Tryz.prog 35 #[pp b,.int .i64 (n:Int)] W (BhO X E (s.take (s.length - n)) W))∧Hid (∀ (W:World) (b' : Nat) (l' : List Int) (v:Value) (ks:List Int),Below W1.heap.size W1 W→PileAt X W E b' l'→IsAt X W v ks→ks.length≤4096→l'.length≤s.length→Calls Tryz.prog 34 #[pp b',v] W (BhO X E (l' ++ ks) W))∧Hid (∀ (W:World) (b' : Nat) (l' : List Int) (k:Int),Below W1.heap.size W1 W→PileAt X W E b' l'→l'.length≤s.length→Calls Tryz.prog 34 #[pp b',.slice (some ⟨W.heap.size,0,none⟩) 1 1] (W.alloc (.cells #[.int .i64 k] 3)) (BhO X E (l' ++ [k]) W))∧Hid (∀ W:World,Below W1.heap.size W1 W→0<s.length→Calls Tryz.prog 36 #[pp b] W fun e W'=>e=.returned (.int .i64 (s.getLast?.getD 0))∧Below W.heap.size W W')∧Hid (∀ n:Nat,(s.take (s.length - n)).length≤s.length)∧Hid (s.length≤1000000000000):=by
 obtain ⟨W1,hW1⟩ : ∃ W1,(w.alloc (.cells #[.slice a1 p.ty.length d1,.slice a2 p.fu.length d2,.slice a3 p.ta.length d3,.slice a4 p.st.length d4,.int .i64 f.pa,.slice b1 f.lo.length e1,.slice b2 f.re.length e2,.slice b3 f.ar.length e3,.slice b4 f.co.length e4] 73)).alloc (.cells #[.int .i64 i.o,.int .i64 i.a,.int .i64 i.b] 46)=W1:=⟨_,rfl⟩
 have hb:Below w.heap.size w W1:=by rw [← hW1];exact ((Below.refl _ _).alloc (Nat.le_refl _) _).alloc (by simp) _
 have hW:W1.heap[w.heap.size]?=some (.cells #[.slice a1 p.ty.length d1,.slice a2 p.fu.length d2,.slice a3 p.ta.length d3,.slice a4 p.st.length d4,.int .i64 f.pa,.slice b1 f.lo.length e1,.slice b2 f.re.length e2,.slice b3 f.ar.length e3,.slice b4 f.co.length e4] 73 (0,0)):=by rw [← hW1,Below.heap_alloc _ _ _ (by simp)];exact heap_new _ _ rfl
 have hI:W1.heap[w.heap.size+1]?=some (.cells #[.int .i64 i.o,.int .i64 i.a,.int .i64 i.b] 46 (0,0)):=by rw [← hW1];exact heap_new _ _ (by simp)
 have i0:W1.cell? ⟨w.heap.size+1,0,none⟩=some (.int .i64 i.o):=cell_of hI rfl
 have i1:W1.cell? ⟨w.heap.size+1,1,none⟩=some (.int .i64 i.a):=cell_of hI rfl
 have i2:W1.cell? ⟨w.heap.size+1,2,none⟩=some (.int .i64 i.b):=cell_of hI rfl
 have hlW:=lt_of_block hW
 have hlI:=lt_of_block hI
 have HWB:=hide (show ∀ W:World,Below W1.heap.size W1 W→W.heap[w.heap.size]?=some (.cells #[.slice a1 p.ty.length d1,.slice a2 p.fu.length d2,.slice a3 p.ta.length d3,.slice a4 p.st.length d4,.int .i64 f.pa,.slice b1 f.lo.length e1,.slice b2 f.re.length e2,.slice b3 f.ar.length e3,.slice b4 f.co.length e4] 73 (0,0)) from fun W h=>(h.block _ hlW).trans hW)
 have HIB:=hide (show ∀ W:World,Below W1.heap.size W1 W→W.heap[w.heap.size+1]?=some (.cells #[.int .i64 i.o,.int .i64 i.a,.int .i64 i.b] 46 (0,0)) from fun W h=>(h.block _ hlI).trans hI)
 have HB:=hide hb
 have HY:=hide (show ∀ W:World,Below W1.heap.size W1 W→WyAt B W (.slice a1 p.ty.length d1) (.slice a2 p.fu.length d2) (.slice a3 p.ta.length d3) (.slice a4 p.st.length d4) (.slice b1 f.lo.length e1) (.slice b2 f.re.length e2) (.slice b3 f.ar.length e3) (.slice b4 f.co.length e4) p f from fun W h=>(Y.below hb).below h)
 have HP:=hide (show ∀ W:World,Below W1.heap.size W1 W→PileAt X W E b s from fun W h=>P.keep (Kp.of_below (bel_tr hb h)))
 have HX:=hide (show ∀ W:World,Below W1.heap.size W1 W→∀ j,X j→B≤j∧j<W.heap.size from fun W h j hj=>⟨(hX j hj).1,Nat.lt_of_lt_of_le (hX j hj).2 (bel_tr hb h).size⟩)
 have HXN:=hide (show ∀ W:World,Below W1.heap.size W1 W→¬ X W.heap.size from fun W h hx=>Nat.lt_irrefl _ (Nat.lt_of_lt_of_le (hX _ hx).2 (bel_tr hb h).size))
 have HWO:=hide (show ∀ (W:World) (n:Nat),Below W1.heap.size W1 W→n≤s.length→Calls Tryz.prog 35 #[pp b,.int .i64 (n:Int)] W (BhO X E (s.take (s.length - n)) W) from fun W n h hn=>without_any (HP.out W h) hn (fun j hj=>(HX.out W h j hj).2) (by omega))
 have HWI:=hide (show ∀ (W:World) (b' : Nat) (l' : List Int) (v:Value) (ks:List Int),Below W1.heap.size W1 W→PileAt X W E b' l'→IsAt X W v ks→ks.length≤4096→l'.length≤s.length→Calls Tryz.prog 34 #[pp b',v] W (BhO X E (l' ++ ks) W) from fun W b' l' v ks h hp hi hk hl=>with_any hp hi (fun j hj=>(HX.out W h j hj).2) (by omega))
 have HW1:=hide (show ∀ (W:World) (b' : Nat) (l' : List Int) (k:Int),Below W1.heap.size W1 W→PileAt X W E b' l'→l'.length≤s.length→Calls Tryz.prog 34 #[pp b',.slice (some ⟨W.heap.size,0,none⟩) 1 1] (W.alloc (.cells #[.int .i64 k] 3)) (BhO X E (l' ++ [k]) W) from fun W b' l' k h hp hl=>with1 hp (fun j hj=>(HX.out W h j hj).2) (by omega) k _)
 have HTP:=hide (show ∀ W:World,Below W1.heap.size W1 W→0<s.length→Calls Tryz.prog 36 #[pp b] W fun e W'=>e=.returned (.int .i64 (s.getLast?.getD 0))∧Below W.heap.size W W' from fun W h h0=>top_any (HP.out W h) h0 (by omega))
 have HTK:=hide (show ∀ n:Nat,(s.take (s.length - n)).length≤s.length from fun n=>List.length_take_le' _ _)
 have HSL:=hide hs
 exact ⟨W1,hW1,hW,i0,i1,i2,hlW,hlI,HWB,HIB,HB,HY,HP,HX,HXN,HWO,HWI,HW1,HTP,HTK,HSL⟩
end
end Go.Proofs.YtkdojpnihinpbaaGreatDoor

namespace Go.Proofs.YtkdojpnihinpbaaGreatDoor
set_option maxRecDepth 100000
set_option maxHeartbeats 1000000
open Go.RowKit
section
variable {B E b:Nat} {X:Nat→Prop} {w:World} {a1 a2 a3 a4 b1 b2 b3 b4:Option Addr} {d1 d2 d3 d4 e1 e2 e3 e4:Nat} {p:Pg} {f:Fd} {s:List Int}
variable (Y:WyAt B w (.slice a1 p.ty.length d1) (.slice a2 p.fu.length d2) (.slice a3 p.ta.length d3) (.slice a4 p.st.length d4) (.slice b1 f.lo.length e1) (.slice b2 f.re.length e2) (.slice b3 f.ar.length e3) (.slice b4 f.co.length e4) p f) (P:PileAt X w E b s) (hX:∀ j,X j→B≤j∧j<w.heap.size) (hs:s.length≤1000000000000)
include Y P hX hs
theorem bh_12 (i:In3) (ho:i.o=12) (hlen:1≤s.length) {t:Nat} (hia:i.a=(t:Int)) (ht:t≤1024):Calls Tryz.prog 19 #[.agg #[.slice a1 p.ty.length d1,.slice a2 p.fu.length d2,.slice a3 p.ta.length d3,.slice a4 p.st.length d4,.int .i64 f.pa,.slice b1 f.lo.length e1,.slice b2 f.re.length e2,.slice b3 f.ar.length e3,.slice b4 f.co.length e4],.agg #[.int .i64 i.o,.int .i64 i.a,.int .i64 i.b],pp b] w (BhO X E (s.take (s.length - 1)++[3+2*(t:Int)]) w):=by
 obtain ⟨W1,hW1,hW,i0,i1,i2,hlW,hlI,HWB,HIB,HB,HY,HP,HX,HXN,HWO,HWI,HW1,HTP,HTK,HSL⟩:=bpre Y i P hX hs
 have HPOS:=hide (show 0<s.length by omega)
 have HLEN:=hide hlen
 clear hlen
 have b8:(t:Int)≤1024:=by omega
 have b9:(0:Int)≤(t:Int):=by omega
 rw [hia] at i1 hW1 HIB ⊢
 clear hia ht
 have wq:IntKind.i64.wrap (2*(t:Int))=2*(t:Int):=by go_arith
 have wr:IntKind.i64.wrap (3+2*(t:Int))=3+2*(t:Int):=by go_arith
 clear Y P hX hs hW
 rw [ho] at i0 hW1 HIB ⊢
 clear ho
 go_enter Tryz.func19,Tryz.ntmps19
 go_wp2_with fail
 refine wp_region_held_drew (S:=(fun W=>W.cell? ⟨w.heap.size+1,1,none⟩=some (.int .i64 t))) (by kernel_rfl) i1 (fun hHeld1=>?_)
 refine tk 0 ?_;simp only [sp]
 refine tk 2 ?_;simp only [sp]
 refine tk 3 ?_;simp only [sp]
 refine tk 4 ?_;simp only [sp]
 refine tk 5 ?_;simp only [sp]
 refine wpAnyH_ready (rs:=[1,6]) (by kernel_rfl) (by simp) ?_
 refine AllReadyH.cons (dr rfl) (fun K hK=>?_) (AllReadyH.cons (dr rfl) (fun K hK=>?_) AllReadyH.nil)
 · go_simp
   go_at_call 35
   refine (HWO.out _ 1 (below_drew (Below.refl _ _)) HLEN.out).mono ?_
   rintro e w3 ⟨b3,rfl,hp3,hb3⟩
   have HB3:=hide (show Below W1.heap.size W1 w3 from bel_tr (below_drew (Below.refl _ _)) hb3)
   have HP3:=hide hp3
   clear hb3 hp3
   go_wp2_with fail
   refine hK.out _ _ (cell_of (HIB.out _ HB3.out) rfl) (fun hHeld7=>?_)
   clear hK K
   try simp only [sp]
   have HA3:=hide (show Below W1.heap.size W1 (w3.alloc (.cells #[.int .i64 (3+2*(t:Int))] 3)) from HB3.out.alloc HB3.out.size _)
   refine rd 6 (fun K hK=>?_)
   go_simp
   go_wp2_with fail
   refine hK.out _ _ (cell_of (HIB.out _ HA3.out) rfl) (fun hHeld8=>?_)
   clear hK K
   try simp only [sp]
   refine rd 7 (fun K hK=>?_)
   go_simp
   go_at_call 34
   refine (HW1.out w3 b3 _ (3+2*(t:Int)) HB3.out HP3.out (HTK.out _)).mono ?_
   rintro e w9 ⟨b9,rfl,hp9,hb9⟩
   have HB9:=hide (show Below W1.heap.size W1 w9 from bel_tr HB3.out hb9)
   have HP9:=hide hp9
   clear hb9 hp9
   go_wp2_with fail
   refine hK.out _ _ (cell_of (HIB.out _ HB9.out) rfl) (fun hHeld9=>?_)
   clear hK K
   try simp only [sp]
   refine tk 8 ?_;simp only [sp]
   refine wpAnyH_done (by kernel_rfl) ?_ _
   go_wp2
   go_ret
   exact ⟨b9,rfl,HP9.out,bel_tr HB.out HB9.out⟩
 · have HA2:=hide (show Below W1.heap.size W1 (W1.drew.alloc (.cells #[.int .i64 (3+2*(t:Int))] 3)) from (below_drew (Below.refl W1.heap.size W1)).alloc (below_drew (Below.refl W1.heap.size W1)).size _)
   have HI2:=hide (show IsAt X (W1.drew.alloc (.cells #[.int .i64 (3+2*(t:Int))] 3)) (.slice (some ⟨W1.drew.heap.size,0,none⟩) 1 1) [(3+2*(t:Int))] from isAt_new (ks:=[(3+2*(t:Int))]) (T:=3) (heap_new _ _ rfl) (HXN.out W1.drew (below_drew (Below.refl _ _))) (by simp))
   go_simp
   go_wp2_with fail
   refine hK.out _ _ (cell_of (HIB.out _ HA2.out) rfl) (fun hHeld11=>?_)
   clear hK K
   try simp only [sp]
   refine rd 1 (fun K hK=>?_)
   go_simp
   go_at_call 35
   refine (HWO.out _ 1 HA2.out HLEN.out).mono ?_
   rintro e w3 ⟨b3,rfl,hp3,hb3⟩
   have HB3:=hide (show Below W1.heap.size W1 w3 from bel_tr HA2.out hb3)
   have HP3:=hide hp3
   have HI3:=hide (HI2.out.keep (Kp.of_below hb3))
   clear hb3 hp3
   go_wp2_with fail
   refine hK.out _ _ (cell_of (HIB.out _ HB3.out) rfl) (fun hHeld12=>?_)
   clear hK K
   try simp only [sp]
   refine rd 7 (fun K hK=>?_)
   go_simp
   go_at_call 34
   refine (HWI.out w3 b3 _ _ [(3+2*(t:Int))] HB3.out HP3.out HI3.out (by simp) (HTK.out _)).mono ?_
   rintro e w9 ⟨b9,rfl,hp9,hb9⟩
   have HB9:=hide (show Below W1.heap.size W1 w9 from bel_tr HB3.out hb9)
   have HP9:=hide hp9
   clear hb9 hp9
   go_wp2_with fail
   refine hK.out _ _ (cell_of (HIB.out _ HB9.out) rfl) (fun hHeld13=>?_)
   clear hK K
   try simp only [sp]
   refine tk 8 ?_;simp only [sp]
   refine wpAnyH_done (by kernel_rfl) ?_ _
   go_wp2
   go_ret
   exact ⟨b9,rfl,HP9.out,bel_tr HB.out HB9.out⟩
theorem bh_21 (i:In3) (ho:i.o=21) (hlen:1≤s.length) {t:Nat} (hia:i.a=(t:Int)) (ht:t≤1024):Calls Tryz.prog 19 #[.agg #[.slice a1 p.ty.length d1,.slice a2 p.fu.length d2,.slice a3 p.ta.length d3,.slice a4 p.st.length d4,.int .i64 f.pa,.slice b1 f.lo.length e1,.slice b2 f.re.length e2,.slice b3 f.ar.length e3,.slice b4 f.co.length e4],.agg #[.int .i64 i.o,.int .i64 i.a,.int .i64 i.b],pp b] w (BhO X E (s.take (s.length - 1)++[2+2*(t:Int)]) w):=by
 obtain ⟨W1,hW1,hW,i0,i1,i2,hlW,hlI,HWB,HIB,HB,HY,HP,HX,HXN,HWO,HWI,HW1,HTP,HTK,HSL⟩:=bpre Y i P hX hs
 have HPOS:=hide (show 0<s.length by omega)
 have HLEN:=hide hlen
 clear hlen
 have b8:(t:Int)≤1024:=by omega
 have b9:(0:Int)≤(t:Int):=by omega
 rw [hia] at i1 hW1 HIB ⊢
 clear hia ht
 have wq:IntKind.i64.wrap (2*(t:Int))=2*(t:Int):=by go_arith
 have wr:IntKind.i64.wrap (2+2*(t:Int))=2+2*(t:Int):=by go_arith
 clear Y P hX hs hW
 rw [ho] at i0 hW1 HIB ⊢
 clear ho
 go_enter Tryz.func19,Tryz.ntmps19
 go_wp2_with fail
 refine wp_region_held_drew (S:=(fun W=>W.cell? ⟨w.heap.size+1,1,none⟩=some (.int .i64 t))) (by kernel_rfl) i1 (fun hHeld15=>?_)
 refine tk 0 ?_;simp only [sp]
 refine tk 2 ?_;simp only [sp]
 refine tk 3 ?_;simp only [sp]
 refine tk 4 ?_;simp only [sp]
 refine tk 5 ?_;simp only [sp]
 refine wpAnyH_ready (rs:=[1,6]) (by kernel_rfl) (by simp) ?_
 refine AllReadyH.cons (dr rfl) (fun K hK=>?_) (AllReadyH.cons (dr rfl) (fun K hK=>?_) AllReadyH.nil)
 · go_simp
   go_at_call 35
   refine (HWO.out _ 1 (below_drew (Below.refl _ _)) HLEN.out).mono ?_
   rintro e w3 ⟨b3,rfl,hp3,hb3⟩
   have HB3:=hide (show Below W1.heap.size W1 w3 from bel_tr (below_drew (Below.refl _ _)) hb3)
   have HP3:=hide hp3
   clear hb3 hp3
   go_wp2_with fail
   refine hK.out _ _ (cell_of (HIB.out _ HB3.out) rfl) (fun hHeld21=>?_)
   clear hK K
   try simp only [sp]
   have HA3:=hide (show Below W1.heap.size W1 (w3.alloc (.cells #[.int .i64 (2+2*(t:Int))] 3)) from HB3.out.alloc HB3.out.size _)
   refine rd 6 (fun K hK=>?_)
   go_simp
   go_wp2_with fail
   refine hK.out _ _ (cell_of (HIB.out _ HA3.out) rfl) (fun hHeld22=>?_)
   clear hK K
   try simp only [sp]
   refine rd 7 (fun K hK=>?_)
   go_simp
   go_at_call 34
   refine (HW1.out w3 b3 _ (2+2*(t:Int)) HB3.out HP3.out (HTK.out _)).mono ?_
   rintro e w9 ⟨b9,rfl,hp9,hb9⟩
   have HB9:=hide (show Below W1.heap.size W1 w9 from bel_tr HB3.out hb9)
   have HP9:=hide hp9
   clear hb9 hp9
   go_wp2_with fail
   refine hK.out _ _ (cell_of (HIB.out _ HB9.out) rfl) (fun hHeld23=>?_)
   clear hK K
   try simp only [sp]
   refine tk 8 ?_;simp only [sp]
   refine wpAnyH_done (by kernel_rfl) ?_ _
   go_wp2
   go_ret
   exact ⟨b9,rfl,HP9.out,bel_tr HB.out HB9.out⟩
 · have HA2:=hide (show Below W1.heap.size W1 (W1.drew.alloc (.cells #[.int .i64 (2+2*(t:Int))] 3)) from (below_drew (Below.refl W1.heap.size W1)).alloc (below_drew (Below.refl W1.heap.size W1)).size _)
   have HI2:=hide (show IsAt X (W1.drew.alloc (.cells #[.int .i64 (2+2*(t:Int))] 3)) (.slice (some ⟨W1.drew.heap.size,0,none⟩) 1 1) [(2+2*(t:Int))] from isAt_new (ks:=[(2+2*(t:Int))]) (T:=3) (heap_new _ _ rfl) (HXN.out W1.drew (below_drew (Below.refl _ _))) (by simp))
   go_simp
   go_wp2_with fail
   refine hK.out _ _ (cell_of (HIB.out _ HA2.out) rfl) (fun hHeld25=>?_)
   clear hK K
   try simp only [sp]
   refine rd 1 (fun K hK=>?_)
   go_simp
   go_at_call 35
   refine (HWO.out _ 1 HA2.out HLEN.out).mono ?_
   rintro e w3 ⟨b3,rfl,hp3,hb3⟩
   have HB3:=hide (show Below W1.heap.size W1 w3 from bel_tr HA2.out hb3)
   have HP3:=hide hp3
   have HI3:=hide (HI2.out.keep (Kp.of_below hb3))
   clear hb3 hp3
   go_wp2_with fail
   refine hK.out _ _ (cell_of (HIB.out _ HB3.out) rfl) (fun hHeld26=>?_)
   clear hK K
   try simp only [sp]
   refine rd 7 (fun K hK=>?_)
   go_simp
   go_at_call 34
   refine (HWI.out w3 b3 _ _ [(2+2*(t:Int))] HB3.out HP3.out HI3.out (by simp) (HTK.out _)).mono ?_
   rintro e w9 ⟨b9,rfl,hp9,hb9⟩
   have HB9:=hide (show Below W1.heap.size W1 w9 from bel_tr HB3.out hb9)
   have HP9:=hide hp9
   clear hb9 hp9
   go_wp2_with fail
   refine hK.out _ _ (cell_of (HIB.out _ HB9.out) rfl) (fun hHeld27=>?_)
   clear hK K
   try simp only [sp]
   refine tk 8 ?_;simp only [sp]
   refine wpAnyH_done (by kernel_rfl) ?_ _
   go_wp2
   go_ret
   exact ⟨b9,rfl,HP9.out,bel_tr HB.out HB9.out⟩
end
end Go.Proofs.YtkdojpnihinpbaaGreatDoor
