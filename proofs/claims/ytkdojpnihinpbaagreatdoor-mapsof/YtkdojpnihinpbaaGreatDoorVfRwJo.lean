/- The document's heads. -/
import Derived.Test.YtkdojpnihinpbaaGreatDoorVfRoJo
import Derived.Deep.CutRange
import Derived.Test.YtkdojpnihinpbaaGreatDoorVfTkJo
namespace Go.Proofs.YtkdojpnihinpbaaGreatDoor
open Go.RowKit
def RhO (p:Pg) (w:World) (e:Ending) (W:World):Prop:=e=.returned (.tuple #[.int .i64 (((headsP p).getD 0:Nat):Int),.bool (headsP p).isNone])∧Below w.heap.size w W
def okF (n i:Nat) (f:Fd):Bool:=f.lo.all (isKB n) && f.re.all (freeB n) && decide (0<f.co.length) && decide (0<i∨(f.pa=0∧f.re=[]))
theorem okF_head {n i:Nat} {f:Fd}:(okF n i f && f.ar.all (fun t=>inB t n))=true ↔ (headB n f=true∧(0<i∨(f.pa=0∧f.re=[]))):=by
 unfold okF headB
 simp only [Bool.and_eq_true,decide_eq_true_eq]
 constructor
 · rintro ⟨⟨⟨⟨a,b⟩,c⟩,d⟩,e⟩;exact ⟨⟨⟨⟨a,e⟩,b⟩,c⟩,d⟩
 · rintro ⟨⟨⟨⟨a,e⟩,b⟩,c⟩,d⟩;exact ⟨⟨⟨⟨a,b⟩,c⟩,d⟩,e⟩
def itB (p:Pg) (y x:Int):Bool:=inB x p.fu.length && decide (parK (callP p y)=parK (callP p x)) && decide ((callP p y).re=(callP p x).re)
theorem table_it {p:Pg} {t:List Int}:tableB p t=(decide (0<t.length) && t.all (itB p ((t[0]?).getD 0))):=rfl
def ArR (n:Nat) (ok:Bool) (l:List Int) (W:World) (a b:Value) (wr:World):Prop:=∃ j:Nat,b=.int .i64 j∧j≤l.length∧a=.bool (ok && (l.take j).all (fun t=>inB t n))∧Below W.heap.size W wr
def ItR (p:Pg) (t:List Int) (W:World) (a:Value) (wr:World):Prop:=∃ j:Nat,a=.int .i64 j∧j≤t.length∧(t.take j).all (itB p ((t[0]?).getD 0))=true∧Below W.heap.size W wr
theorem take_rest2a {l:List Int} {j:Nat} {x:Int} (h:l[j]?=some x):l.take (j+1)=l.take j++[x]:=by rw [List.take_add_one,h];rfl
theorem ar_next {n:Nat} {ok:Bool} {l:List Int} {j:Nat} {x:Int} (h:l[j]?=some x):(ok && (l.take (j+1)).all (fun t=>inB t n))=((ok && (l.take j).all (fun t=>inB t n)) && inB x n):=by
 rw [(take_rest2a h),List.all_append]
 simp [Bool.and_assoc]
theorem inB_lo {x:Int} {n:Nat} (h:x<0):inB x n=false:=by unfold inB;simp;omega
theorem inB_hi {x:Int} {n:Nat} (h:(n:Int)≤x):inB x n=false:=by unfold inB;simp;omega
theorem inB_in {x:Int} {n:Nat} (h:¬ x<0) (h2:¬ (n:Int)≤x):inB x n=true:=by unfold inB;simp;omega
theorem table_bad {p:Pg} {t:List Int} {k:Nat} {x y:Int} (hx:t[k]?=some x) (hy:t[0]?=some y) (h:(inB x p.fu.length && inB y p.fu.length)=false):tableB p t=false:=by
 rw [table_it,hy,Option.getD_some]
 cases h1:inB x p.fu.length with
 | false=>rw [all_bad (s:=itB p y) hx (by unfold itB;rw [h1];rfl),Bool.and_false]
 | true=>rw [h1,Bool.true_and] at h;rw [all_bad (s:=itB p y) hy (by unfold itB;rw [h];rfl),Bool.and_false]
theorem table_bad2 {p:Pg} {t:List Int} {k:Nat} {x y:Int} (hx:t[k]?=some x) (hy:t[0]?=some y) (h:itB p y x=false):tableB p t=false:=by
 rw [table_it,hy,Option.getD_some,all_bad (s:=itB p y) hx h,Bool.and_false]
theorem it_eq {p:Pg} {zx zy kx ky:Nat} {fx fy:Fd} (hx:p.fu[zx]?=some fx) (hy:p.fu[zy]?=some fy) (kx' : fx.pa=(kx:Int)) (ky' : fy.pa=(ky:Int)):itB p (zy:Int) (zx:Int)=(decide (fx.lo.take kx=fy.lo.take ky) && decide (fx.re=fy.re)):=by
 have h1:inB (zx:Int) p.fu.length=true:=by unfold inB;have:=get_lt hx;simp;omega
 unfold itB callP parK
 rw [h1,Int.toNat_natCast,Int.toNat_natCast,hx,hy,Option.getD_some,Option.getD_some,kx',ky',Int.toNat_natCast,Int.toNat_natCast,Bool.true_and]
 congr 1
 · exact decide_eq_decide.mpr ⟨Eq.symm,Eq.symm⟩
 · exact decide_eq_decide.mpr ⟨Eq.symm,Eq.symm⟩
structure B2 (Wb X:World) (x y:Option (Nat × Array Value)):Prop where
  bel:Below Wb.heap.size Wb X
  hx:∀ b c,x=some (b,c)→Wb.heap.size≤b∧X.heap[b]?=some (.cells c 40 (0,0))
  hy:∀ b c,y=some (b,c)→Wb.heap.size≤b∧X.heap[b]?=some (.cells c 40 (0,0))
  d:∀ b c b' c',x=some (b,c)→y=some (b',c')→b≠b'
def zF:Array Value:=#[.int .i64 0,.slice none 0 0,.slice none 0 0,.slice none 0 0,.slice none 0 0]
section
variable {Wb X:World} {x y:Option (Nat × Array Value)}
theorem B2.begin' : B2 Wb Wb.drew none none:=⟨below_drew (Below.refl _ _),fun _ _ h=>(by cases h),fun _ _ h=>(by cases h),fun _ _ _ _ h=>(by cases h)⟩
theorem B2.ax (R:B2 Wb X none y):B2 Wb (X.alloc (.cells #[.int .i64 0,.slice none 0 0,.slice none 0 0,.slice none 0 0,.slice none 0 0] 40)) (some (X.heap.size,zF)) y :=
  ⟨R.bel.alloc R.bel.size _,fun b c h=>by cases h;exact ⟨R.bel.size,heap_new _ _ rfl⟩,fun b c h=>⟨(R.hy b c h).1,al_old _ _ (R.hy b c h).2⟩,fun b c b' c' h g e=>by cases h;have:=lt_of_block (R.hy b' c' g).2;omega⟩
theorem B2.ay (R:B2 Wb X x none):B2 Wb (X.alloc (.cells #[.int .i64 0,.slice none 0 0,.slice none 0 0,.slice none 0 0,.slice none 0 0] 40)) x (some (X.heap.size,zF)) :=
  ⟨R.bel.alloc R.bel.size _,fun b c h=>⟨(R.hx b c h).1,al_old _ _ (R.hx b c h).2⟩,fun b c h=>by cases h;exact ⟨R.bel.size,heap_new _ _ rfl⟩,fun b c b' c' h g e=>by cases g;have:=lt_of_block (R.hx b c h).2;omega⟩
theorem five_set {b:Nat} (h:X.heap[b]?=some (.cells zF 40 (0,0))) (v0 v1 v2 v3 v4:Value):(((((X.setCell ⟨b,0,none⟩ v0).setCell ⟨b,1,none⟩ v1).setCell ⟨b,2,none⟩ v2).setCell ⟨b,3,none⟩ v3).setCell ⟨b,4,none⟩ v4).heap[b]?=some (.cells #[v0,v1,v2,v3,v4] 40 (0,0)):=by
 rw [heap_setCell_same _ b 4 _ (heap_setCell_same _ b 3 _ (heap_setCell_same _ b 2 _ (heap_setCell_same _ b 1 _ (heap_setCell_same _ b 0 _ h))))]
 rfl
theorem five_ne {b j:Nat} (h:j≠b) (v0 v1 v2 v3 v4:Value):(((((X.setCell ⟨b,0,none⟩ v0).setCell ⟨b,1,none⟩ v1).setCell ⟨b,2,none⟩ v2).setCell ⟨b,3,none⟩ v3).setCell ⟨b,4,none⟩ v4).heap[j]?=X.heap[j]?:=by
 rw [Below.heap_setCell _ _ _ j h,Below.heap_setCell _ _ _ j h,Below.heap_setCell _ _ _ j h,Below.heap_setCell _ _ _ j h,Below.heap_setCell _ _ _ j h]
theorem five_bel {b:Nat} (hb:Below Wb.heap.size Wb X) (h:Wb.heap.size≤b) (v0 v1 v2 v3 v4:Value):Below Wb.heap.size Wb (((((X.setCell ⟨b,0,none⟩ v0).setCell ⟨b,1,none⟩ v1).setCell ⟨b,2,none⟩ v2).setCell ⟨b,3,none⟩ v3).setCell ⟨b,4,none⟩ v4) :=
  ((((hb.setCell (by exact h) _).setCell (by exact h) _).setCell (by exact h) _).setCell (by exact h) _).setCell (by exact h) _
theorem B2.sx {b:Nat} (R:B2 Wb X (some (b,zF)) y) (v0 v1 v2 v3 v4:Value):B2 Wb (((((X.setCell ⟨b,0,none⟩ v0).setCell ⟨b,1,none⟩ v1).setCell ⟨b,2,none⟩ v2).setCell ⟨b,3,none⟩ v3).setCell ⟨b,4,none⟩ v4) (some (b,#[v0,v1,v2,v3,v4])) y:=by
 obtain ⟨h1,h2⟩:=R.hx b _ rfl
 exact ⟨five_bel R.bel h1 v0 v1 v2 v3 v4,fun b' c h=>by cases h;exact ⟨h1,five_set h2 v0 v1 v2 v3 v4⟩,fun b' c h=>⟨(R.hy b' c h).1,(five_ne (Ne.symm (R.d b _ b' c rfl h)) v0 v1 v2 v3 v4).trans (R.hy b' c h).2⟩,fun b' c b2 c2 h g=>by cases h;exact R.d b _ b2 c2 rfl g⟩
theorem B2.sy {b:Nat} (R:B2 Wb X x (some (b,zF))) (v0 v1 v2 v3 v4:Value):B2 Wb (((((X.setCell ⟨b,0,none⟩ v0).setCell ⟨b,1,none⟩ v1).setCell ⟨b,2,none⟩ v2).setCell ⟨b,3,none⟩ v3).setCell ⟨b,4,none⟩ v4) x (some (b,#[v0,v1,v2,v3,v4])):=by
 obtain ⟨h1,h2⟩:=R.hy b _ rfl
 exact ⟨five_bel R.bel h1 v0 v1 v2 v3 v4,fun b' c h=>⟨(R.hx b' c h).1,(five_ne (R.d b' c b _ h rfl) v0 v1 v2 v3 v4).trans (R.hx b' c h).2⟩,fun b' c h=>by cases h;exact ⟨h1,five_set h2 v0 v1 v2 v3 v4⟩,fun b' c b2 c2 h g=>by cases g;exact R.d b' c b _ h rfl⟩
end
theorem frzB {W:World} {b:Nat} {c:Array Value} {t:Nat} (h:W.heap[b]?=some (.cells c t (0,0))) (o:Nat):W.frozen? ⟨b,o,none⟩=false:=by simp [World.frozen?,h]
section
variable {w:World} {B:Nat}
set_option maxRecDepth 100000 in
set_option maxHeartbeats 8000000 in
theorem rheads_any {p:Pg} {v1 v2 v3 v4:Value} (P:PgAt B w v1 v2 v3 v4 p) (hB:B≤w.heap.size) (hP:∀ f∈p.fu,0≤f.pa∧f.pa≤(f.lo.length:Int)∧f.lo.length≤4096∧f.re.length≤4096∧f.ar.length≤4096) (hT:∀ t∈p.ta,t.length≤4096) (hn1:p.ty.length≤1024) (hn2:p.fu.length≤4096) (hn3:p.ta.length≤1024):Calls Tryz.prog 24 #[.agg #[v1,v2,v3,v4]] w (RhO p w):=by
 have HPA:=hide hP
 have HTL:=hide hT
 obtain ⟨a1,d1',hv1⟩:=sl_form P.ty
 obtain ⟨a2,d2',hv2⟩:=sl_form P.fu
 obtain ⟨a3,d3,hv3⟩:=sl_form P.ta
 obtain ⟨a4,d4,hv4⟩:=sl_form P.st
 subst hv1 hv2 hv3 hv4
 obtain ⟨W1,hW1⟩ : ∃ W1,w.alloc (.cells #[.slice a1 p.ty.length d1',.slice a2 p.fu.length d2',.slice a3 p.ta.length d3,.slice a4 p.st.length d4] 27)=W1:=⟨_,rfl⟩
 have b1:Below w.heap.size w W1:=by rw [← hW1];exact (Below.refl _ _).alloc (Nat.le_refl _) _
 have e1:W1.heap[w.heap.size]?=some (.cells #[.slice a1 p.ty.length d1',.slice a2 p.fu.length d2',.slice a3 p.ta.length d3,.slice a4 p.st.length d4] 27 (0,0)):=by rw [← hW1];exact heap_new _ _ rfl
 have HBX:=hide (show ∀ W:World,Below W1.heap.size W1 W→W.cell? ⟨w.heap.size,0,none⟩=some (.slice a1 p.ty.length d1')∧W.cell? ⟨w.heap.size,1,none⟩=some (.slice a2 p.fu.length d2')∧W.cell? ⟨w.heap.size,2,none⟩=some (.slice a3 p.ta.length d3)∧W.cell? ⟨w.heap.size,3,none⟩=some (.slice a4 p.st.length d4)∧w.heap.size<W.heap.size from fun W h=>by
  have h1:=(h.block _ (lt_of_block e1)).trans e1
  exact ⟨cell_of h1 rfl,cell_of h1 rfl,cell_of h1 rfl,cell_of h1 rfl,lt_of_block h1⟩)
 have HB1:=hide (show ∀ W:World,Below W1.heap.size W1 W→Below w.heap.size w W from fun W h=>b1.trans (h.mono b1.size))
 have HKP:=hide (show ∀ W:World,Below W1.heap.size W1 W→PgAt B W (.slice a1 p.ty.length d1') (.slice a2 p.fu.length d2') (.slice a3 p.ta.length d3) (.slice a4 p.st.length d4) p∧B≤W.heap.size from fun W h=>⟨P.keep (Nat.le_refl _) fun i hi=>((HB1.out W h).block i (Nat.lt_of_lt_of_le hi hB)),Nat.le_trans hB (HB1.out W h).size⟩)
 have HKN:=hide (show ∀ (W:World) (v:Value) (l:List Int) (lc:Bool),Below W1.heap.size W1 W→SlAt 1 IntP B W v l→Calls Tryz.prog 41 #[.agg #[.slice a1 p.ty.length d1',.slice a2 p.fu.length d2',.slice a3 p.ta.length d3,.slice a4 p.st.length d4],v,.bool lc] W fun e w'=>e=.returned (.bool (l.all fun k=>if lc then isKB p.ty.length k else freeB p.ty.length k))∧Below W.heap.size W w' from fun W v l lc h R=>rkinds_any (HKP.out W h).1 (HKP.out W h).2 hn1 R lc)
 obtain ⟨k1,k2,k3,k4,k5⟩:=HBX.out W1 (Below.refl _ _)
 clear P hB b1 e1 hP hT
 generalize hN1:p.ty.length=n1 at *
 generalize hN2:p.fu.length=n2 at *
 generalize hN3:p.ta.length=n3 at *
 generalize p.st.length=n4 at *
 have HN1:=hide hN1
 have HN2:=hide hN2
 have HN3:=hide hN3
 clear hN1 hN2 hN3
 have i1:(n1:Int)≤1024:=by omega
 have i2:(n2:Int)≤4096:=by omega
 have i3:(n3:Int)≤1024:=by omega
 have HW1:=hide hW1
 clear hW1
 have HE0:=hide (show ∀ W:World,Below W1.heap.size W1 W→headsP p=some 0→RhO p w (.returned (.tuple #[.int .i64 0,.bool false])) W from fun W hW h=>⟨by rw [h];rfl,HB1.out W hW⟩)
 go_enter Tryz.func24,Tryz.ntmps24
 go_wp2
 rw [HW1.out]
 clear HW1
 go_loopw [4] (fun a wr=>H1R p W1 a wr) (fun a _=>n1 - (intOf a).toNat)
 case atStart=>exact ⟨0,rfl,Nat.zero_le _,rfl,Below.refl _ _⟩
 case round =>
  obtain ⟨j,rfl,hj,hall,hb⟩:=hrel
  have HAL:=hide hall
  have HBW:=hide hb
  rw [HN1.out] at hj
  clear hall hb k1 k2 k3 k4 k5
  obtain ⟨k1,k2,k3,k4,k5⟩:=HBX.out wr HBW.out
  by_cases hlt:j<n1
  · skip
    obtain ⟨l,hl⟩ : ∃ l,p.ty[j]?=some l:=⟨p.ty[j]'(by rw [HN1.out];exact hlt),by simp⟩
    obtain ⟨PW,hBw⟩:=HKP.out wr HBW.out
    obtain ⟨g,o,c,n,u,hv,hn,hlt',hg,hc,hsl⟩:=lst_at PW.ty hl
    cases hv
    obtain ⟨ua,uc,hu⟩:=sl_form hsl
    subst hu
    have d1:decide (j<n1)=true:=by simpa using hlt
    have hgw:g<wr.heap.size:=Nat.lt_of_lt_of_le hg hBw
    have HK:=hide (HKN.out wr.drew (.slice ua l.length uc) l false (below_drew HBW.out) (ints_keep (w:=wr) (w':=wr.drew) (Nat.le_refl _) (fun _ _=>rfl) hsl))
    have HBAD:=hide (show tyB n1 l=false→headsP p=some 0 from fun h=>by
     have:(p.ty.all fun l=>decide (0<l.length) && l.all (freeB p.ty.length))=false:=all_bad (s:=fun l=>decide (0<l.length) && l.all (freeB p.ty.length)) hl (by rw [HN1.out];exact h)
     unfold headsP
     rw [if_pos this])
    have HTY:=hide (show tyB n1 l=(decide (0<l.length) && l.all (freeB n1)) from rfl)
    have HKE:=hide (show (l.all fun k=>if false=true then isKB n1 k else freeB n1 k)=l.all (freeB n1) from by simp)
    rw [HKE.out] at HK
    have HL:=hide hl
    clear hl hsl PW hn hlt' hBw hg HKE
    generalize l.length=ll at *
    generalize l.all (freeB n1)=fb at *
    by_cases h0:0<ll
    · have z0:decide (0<ll)=true:=by simpa using h0
      have z1:((ll:Int) == 0)=false:=by simp;omega
      have z2:(ll == 0)=false:=by simp;omega
      rw [z0,Bool.true_and] at HTY
      clear h0
      cases fb with
      | true =>
       go_upto_region 4 with (fail)
       refine wp_region_held_drew (S:=(fun W=>W.cell? ⟨w.heap.size,0,none⟩=some (.slice (some ⟨g,o,none⟩) n1 d1')∧W.cell? ⟨w.heap.size,1,none⟩=some (.slice a2 n2 d2')∧W.cell? ⟨w.heap.size,2,none⟩=some (.slice a3 n3 d3)∧W.cell? ⟨w.heap.size,3,none⟩=some (.slice a4 n4 d4)∧W.cell? ⟨g,o+j,none⟩=some (.slice ua ll uc))) (by kernel_rfl) ⟨k1,k2,k3,k4,hc⟩ (fun hHeld1=>?_)
       refine tk 0 ?_;simp only [sp]
       refine tk 1 ?_;simp only [sp]
       refine tk 2 ?_;simp only [sp]
       refine tk 3 ?_;simp only [sp]
       refine tk 4 ?_;simp only [sp]
       refine tk 5 ?_;simp only [sp]
       refine tk 6 ?_;simp only [sp]
       refine tk 7 ?_;simp only [sp]
       refine tk 8 ?_;simp only [sp]
       refine tk 9 ?_;simp only [sp]
       refine tk 10 ?_;simp only [sp]
       refine tk 11 ?_;simp only [sp]
       refine tk 12 ?_;simp only [sp]
       refine tk 13 ?_;simp only [sp]
       refine tk 14 ?_;simp only [sp]
       refine tk 15 ?_;simp only [sp]
       refine rd 16 (fun K hK=>?_)
       go_simp
       go_at_call 41
       refine HK.out.mono ?_
       rintro e w3 ⟨rfl,hb3⟩
       have HB3:=hide (bel_tr (below_drew HBW.out) hb3)
       have HX3:=HBX.out w3 HB3.out
       go_wp2_with fail
       refine hK.out _ _ ⟨HX3.1,HX3.2.1,HX3.2.2.1,HX3.2.2.2.1,(hb3.cell (p:=⟨g,o+j,none⟩) hgw).trans hc⟩ (fun hHeld18=>?_)
       clear hK K
       try simp only [sp]
       refine tk 17 ?_;simp only [sp]
       refine tk 18 ?_;simp only [sp]
       refine wpAnyH_done (by kernel_rfl) ?_ _
       clear hb3 HX3
       go_wp2
       go_roundw
       case rel=>exact ⟨j+1,by first | exact num_next hlt (by omega) | go_num,by rw [HN1.out];exact hlt,all_next HL.out HAL.out (by rw [HN1.out];exact HTY.out),HB3.out⟩
       case measure=>first | exact meas_int hlt (by omega) | (rw [intOf_int,intOf_int];omega)
      | false =>
       have HEE:=hide (HBAD.out HTY.out)
       go_upto_region 4 with (fail)
       refine wp_region_held_drew (S:=(fun W=>W.cell? ⟨w.heap.size,0,none⟩=some (.slice (some ⟨g,o,none⟩) n1 d1')∧W.cell? ⟨w.heap.size,1,none⟩=some (.slice a2 n2 d2')∧W.cell? ⟨w.heap.size,2,none⟩=some (.slice a3 n3 d3)∧W.cell? ⟨w.heap.size,3,none⟩=some (.slice a4 n4 d4)∧W.cell? ⟨g,o+j,none⟩=some (.slice ua ll uc))) (by kernel_rfl) ⟨k1,k2,k3,k4,hc⟩ (fun hHeld21=>?_)
       refine tk 0 ?_;simp only [sp]
       refine tk 1 ?_;simp only [sp]
       refine tk 2 ?_;simp only [sp]
       refine tk 3 ?_;simp only [sp]
       refine tk 4 ?_;simp only [sp]
       refine tk 5 ?_;simp only [sp]
       refine tk 6 ?_;simp only [sp]
       refine tk 7 ?_;simp only [sp]
       refine tk 8 ?_;simp only [sp]
       refine tk 9 ?_;simp only [sp]
       refine tk 10 ?_;simp only [sp]
       refine tk 11 ?_;simp only [sp]
       refine tk 12 ?_;simp only [sp]
       refine tk 13 ?_;simp only [sp]
       refine tk 14 ?_;simp only [sp]
       refine tk 15 ?_;simp only [sp]
       refine rd 16 (fun K hK=>?_)
       go_simp
       go_at_call 41
       refine HK.out.mono ?_
       rintro e w3 ⟨rfl,hb3⟩
       have HB3:=hide (bel_tr (below_drew HBW.out) hb3)
       have HX3:=HBX.out w3 HB3.out
       go_wp2_with fail
       refine hK.out _ _ ⟨HX3.1,HX3.2.1,HX3.2.2.1,HX3.2.2.2.1,(hb3.cell (p:=⟨g,o+j,none⟩) hgw).trans hc⟩ (fun hHeld38=>?_)
       clear hK K
       try simp only [sp]
       refine tk 17 ?_;simp only [sp]
       refine tk 18 ?_;simp only [sp]
       refine wpAnyH_done (by kernel_rfl) ?_ _
       clear hb3 HX3
       go_wp2_with fail
       go_ret2
       exact HE0.out _ HB3.out HEE.out
    · have z0:decide (0<ll)=false:=by simpa using h0
      have z1:((ll:Int) == 0)=true:=by simp;omega
      have z2:(ll == 0)=true:=by simp;omega
      rw [z0,Bool.false_and] at HTY
      have HEE:=hide (HBAD.out HTY.out)
      clear h0
      go_upto_region 4 with (fail)
      refine wp_region_held_drew (S:=(fun W=>W.cell? ⟨w.heap.size,0,none⟩=some (.slice (some ⟨g,o,none⟩) n1 d1')∧W.cell? ⟨w.heap.size,1,none⟩=some (.slice a2 n2 d2')∧W.cell? ⟨w.heap.size,2,none⟩=some (.slice a3 n3 d3)∧W.cell? ⟨w.heap.size,3,none⟩=some (.slice a4 n4 d4)∧W.cell? ⟨g,o+j,none⟩=some (.slice ua ll uc))) (by kernel_rfl) ⟨k1,k2,k3,k4,hc⟩ (fun hHeld41=>?_)
      refine tk 0 ?_;simp only [sp]
      refine tk 1 ?_;simp only [sp]
      refine tk 2 ?_;simp only [sp]
      refine tk 3 ?_;simp only [sp]
      refine tk 4 ?_;simp only [sp]
      refine tk 5 ?_;simp only [sp]
      refine tk 6 ?_;simp only [sp]
      refine tk 7 ?_;simp only [sp]
      refine tk 8 ?_;simp only [sp]
      refine tn 9 ?_;simp only [sp]
      refine tn 10 ?_;simp only [sp]
      refine tn 11 ?_;simp only [sp]
      refine tn 12 ?_;simp only [sp]
      refine tn 13 ?_;simp only [sp]
      refine tn 14 ?_;simp only [sp]
      refine tn 15 ?_;simp only [sp]
      refine tn 16 ?_;simp only [sp]
      refine tn 17 ?_;simp only [sp]
      refine tk 18 ?_;simp only [sp]
      refine wpAnyH_done (by kernel_rfl) ?_ _
      go_wp2_with fail
      go_ret2
      exact HE0.out _ (below_drew HBW.out) HEE.out
  · obtain rfl:n1=j:=by omega
    have d1:decide (n1<n1)=false:=by simp
    have HT1:=hide (show (p.ty.all fun l=>decide (0<l.length) && l.all (freeB p.ty.length))=true from by have:=HAL.out;rwa [← HN1.out,List.take_length] at this)
    clear HAL
    go_wp2
    go_loopw [5] (fun a wr'=>H2R p W1 a wr') (fun a _=>n2 - (intOf a).toNat)
    case atStart=>exact ⟨0,rfl,Nat.zero_le _,rfl,HBW.out⟩
    case round =>
     clear HBW k1 k2 k3 k4 k5
     obtain ⟨i,rfl,hi,hfb,hb⟩:=hrel
     have HFB:=hide hfb
     have HBW:=hide hb
     rw [HN2.out] at hi
     clear hfb hb
     obtain ⟨k1,k2,k3,k4,k5⟩:=HBX.out wr HBW.out
     by_cases hlt:i<n2
     · skip
       obtain ⟨f,hf⟩ : ∃ f,p.fu[i]?=some f:=⟨p.fu[i]'(by rw [HN2.out];exact hlt),by simp⟩
       obtain ⟨PW,hBw⟩:=HKP.out wr HBW.out
       obtain ⟨g,o,c,n,v1,v2,v3,v4,hv,hn,hlt',hg,⟨y0,y1,y2,y3,y4⟩,r1,r2,r3,r4⟩:=fd_at PW.fu hf
       cases hv
       obtain ⟨x1,z1,hz1⟩:=sl_form r1
       obtain ⟨x2,z2,hz2⟩:=sl_form r2
       obtain ⟨x3,z3,hz3⟩:=sl_form r3
       obtain ⟨x4,z4,hz4⟩:=sl_form r4
       subst hz1 hz2 hz3 hz4
       obtain ⟨q1,q2,q3,q4,q5⟩:=HPA.out f (List.mem_of_getElem? hf)
       have d2:decide (i<n2)=true:=by simpa using hlt
       have hgw:g<wr.heap.size:=Nat.lt_of_lt_of_le hg hBw
       obtain ⟨W2,hW2⟩ : ∃ W2,wr.alloc (.cells #[.int .i64 f.pa,.slice x1 f.lo.length z1,.slice x2 f.re.length z2,.slice x3 f.ar.length z3,.slice x4 f.co.length z4] 40)=W2:=⟨_,rfl⟩
       have b2:Below wr.heap.size wr W2:=by rw [← hW2];exact (Below.refl _ _).alloc (Nat.le_refl _) _
       have e2:W2.heap[wr.heap.size]?=some (.cells #[.int .i64 f.pa,.slice x1 f.lo.length z1,.slice x2 f.re.length z2,.slice x3 f.ar.length z3,.slice x4 f.co.length z4] 40 (0,0)):=by rw [← hW2];exact heap_new _ _ rfl
       have HBW2:=hide (bel_tr HBW.out b2)
       have HFX:=hide (show ∀ W:World,Below W2.heap.size W2 W→(W.cell? ⟨wr.heap.size,0,none⟩=some (.int .i64 f.pa)∧W.cell? ⟨wr.heap.size,1,none⟩=some (.slice x1 f.lo.length z1)∧W.cell? ⟨wr.heap.size,2,none⟩=some (.slice x2 f.re.length z2)∧W.cell? ⟨wr.heap.size,3,none⟩=some (.slice x3 f.ar.length z3)∧W.cell? ⟨wr.heap.size,4,none⟩=some (.slice x4 f.co.length z4))∧wr.heap.size<W.heap.size from fun W h=>by
        have h1:=(h.block _ (lt_of_block e2)).trans e2
        exact ⟨⟨cell_of h1 rfl,cell_of h1 rfl,cell_of h1 rfl,cell_of h1 rfl,cell_of h1 rfl⟩,lt_of_block h1⟩)
       have HSL:=hide (show ∀ W:World,Below W2.heap.size W2 W→SlAt 1 IntP B W (.slice x1 f.lo.length z1) f.lo∧SlAt 1 IntP B W (.slice x2 f.re.length z2) f.re∧SlAt 1 IntP B W (.slice x3 f.ar.length z3) f.ar from fun W h=>by
        have hk:∀ q,q<B→W.heap[q]?=wr.heap[q]?:=fun q hq=>(bel_tr b2 h).block q (Nat.lt_of_lt_of_le hq hBw)
        exact ⟨ints_keep (Nat.le_refl _) hk r1,ints_keep (Nat.le_refl _) hk r2,ints_keep (Nat.le_refl _) hk r3⟩)
       have HDR:=hide (show p.fu.drop i=f :: p.fu.drop (i+1) from by rw [List.drop_eq_getElem_cons (by rw [HN2.out];exact hlt)];congr 1;exact (List.getElem?_eq_some_iff.mp hf).2)
       have HBAD:=hide (show (okF n1 i f && f.ar.all (fun t=>inB t n1))=false→∀ W:World,Below W1.heap.size W1 W→RhO p w (.returned (.tuple #[.int .i64 (i:Int),.bool false])) W from fun h W hW=>by
        have h2:firstBad p 0 p.fu=some i:=by
         rw [HFB.out,HDR.out]
         unfold firstBad
         rw [HN1.out,if_neg (fun h3=>by rw [okF_head.mpr h3] at h;cases h)]
        have h3:headsP p=some i:=by
         unfold headsP
         rw [if_neg (by rw [HT1.out];simp),h2]
        exact ⟨by rw [h3];rfl,HB1.out W hW⟩)
       have HNXT:=hide (show (okF n1 i f && f.ar.all (fun t=>inB t n1))=true→firstBad p 0 p.fu=firstBad p (i+1) (p.fu.drop (i+1)) from fun h=>by
        rw [HFB.out,HDR.out]
        conv=>lhs;unfold firstBad
        rw [HN1.out,if_pos (okF_head.mp h)])
       have HRE:=hide (show f.re=[] ↔ f.re.length=0 from ⟨fun h=>by rw [h];rfl,List.eq_nil_of_length_eq_zero⟩)
       have b3:(i:Int)≤4096:=by omega
       have HQ:=hide (show 0≤f.pa∧f.pa≤4096∧f.re.length≤4096∧f.ar.length≤4096 from ⟨q1,by omega,q4,q5⟩)
       clear hf r1 r2 r3 r4 PW hn hlt' hg b2 e2 hBw HDR HFB q1 q2 q3 q4 q5
       go_upto_region 10 with (fail)
       clear hW2 y0 y1 y2 y3 y4 hgw
       obtain ⟨fb,hfb⟩ : ∃ b,okF n1 i f=b:=⟨_,rfl⟩
       have HOK:=hide hfb
       clear hfb
       go_cut [7] from 47 to 80 (fun v wc=>Hid (v=.bool fb∧Below W2.heap.size W2 wc))
       case first =>
        obtain ⟨⟨f0,f1,f2,f3,f4⟩,f5⟩:=HFX.out W2 (Below.refl _ _)
        obtain ⟨m1,m2,m3,m4,m5⟩:=HBX.out W2 HBW2.out
        have HK1:=hide (HKN.out W2 _ _ true HBW2.out (HSL.out W2 (Below.refl _ _)).1)
        have HKE:=hide (show (f.lo.all fun k=>if true=true then isKB n1 k else freeB n1 k)=f.lo.all (isKB n1) from by simp)
        rw [HKE.out] at HK1
        clear HKE
        cases c1:f.lo.all (isKB n1) with
        | false =>
         rw [c1] at HK1
         have HR:=hide (show fb=false from by rw [← HOK.out];unfold okF;rw [c1];rfl)
         clear c1
         go_wp2_with fail
         refine HK1.out.mono ?_
         rintro e w3 ⟨rfl,hb3⟩
         have HB3:=hide hb3
         clear hb3 HK1 m1 m2 m3 m4 m5 f0 f1 f2 f3 f4 f5
         go_wp2_with fail
         go_meet
         exact hide ⟨by rw [HR.out],HB3.out⟩
        | true =>
         rw [c1] at HK1
         have HC1:=hide c1
         clear c1
         go_wp2_with fail
         refine HK1.out.mono ?_
         rintro e w3 ⟨rfl,hb3⟩
         have HB3:=hide hb3
         have HB31:=hide (bel_tr HBW2.out hb3)
         clear hb3 HK1 m1 m2 m3 m4 m5 f0 f1 f2 f3 f4 f5
         obtain ⟨⟨f0,f1,f2,f3,f4⟩,f5⟩:=HFX.out w3 HB3.out
         obtain ⟨m1,m2,m3,m4,m5⟩:=HBX.out w3 HB31.out
         have HK2:=hide (HKN.out w3 _ _ false HB31.out (HSL.out w3 HB3.out).2.1)
         have HKE:=hide (show (f.re.all fun k=>if false=true then isKB n1 k else freeB n1 k)=f.re.all (freeB n1) from by simp)
         rw [HKE.out] at HK2
         clear HKE
         cases c2:f.re.all (freeB n1) with
         | false =>
          rw [c2] at HK2
          have HR:=hide (show fb=false from by rw [← HOK.out];unfold okF;rw [c2,Bool.and_false];rfl)
          clear c2
          go_wp2_with fail
          refine HK2.out.mono ?_
          rintro e w4 ⟨rfl,hb4⟩
          have HB4:=hide (bel_tr HB3.out hb4)
          clear hb4 HK2 m1 m2 m3 m4 m5 f0 f1 f2 f3 f4 f5
          go_wp2_with fail
          go_meet
          exact hide ⟨by rw [HR.out],HB4.out⟩
         | true =>
          rw [c2] at HK2
          have HC2:=hide c2
          clear c2
          go_wp2_with fail
          refine HK2.out.mono ?_
          rintro e w4 ⟨rfl,hb4⟩
          have HB4:=hide (bel_tr HB3.out hb4)
          clear hb4 HK2 m1 m2 m3 m4 m5 f0 f1 f2 f3 f4 f5
          obtain ⟨⟨f0,f1,f2,f3,f4⟩,f5⟩:=HFX.out w4 HB4.out
          have HOK2:=hide (show fb=(decide (0<f.co.length) && decide (0<i∨(f.pa=0∧f.re=[]))) from by rw [← HOK.out];unfold okF;rw [HC1.out,HC2.out];rfl)
          by_cases hco:0<f.co.length
          · have s1:decide ((0:Int)<(f.co.length:Int))=true:=by simpa using hco
            have s2:decide (0<f.co.length)=true:=by simpa using hco
            have HCO:=hide s2
            clear hco
            by_cases hi0:0<i
            · have s3:decide ((0:Int)<(i:Int))=true:=by simpa using hi0
              have s4:decide (0<i)=true:=by simpa using hi0
              have HR:=hide (show fb=true from by rw [HOK2.out,HCO.out,decide_eq_true (Or.inl hi0)];rfl)
              clear hi0
              go_wp2_with fail
              go_meet
              exact hide ⟨by rw [HR.out],HB4.out⟩
            · have s3:decide ((0:Int)<(i:Int))=false:=by simpa using hi0
              have s4:decide (0<i)=false:=by simpa using hi0
              have s6:IntKind.i64.wrap (f.pa+(f.re.length:Int))=f.pa+(f.re.length:Int):=wrapI (by have:=HQ.out;omega) (by have:=HQ.out;omega)
              by_cases hz:f.pa+(f.re.length:Int)=0
              · have s5:(f.pa+(f.re.length:Int) == 0)=true:=by simpa using hz
                have HR:=hide (show fb=true from by
                 have hq:=HQ.out
                 rw [HOK2.out,HCO.out,decide_eq_true (Or.inr ⟨by omega,HRE.out.mpr (by omega)⟩)]
                 rfl)
                clear hi0 hz
                go_wp2_with fail
                go_meet
                exact hide ⟨by rw [HR.out],HB4.out⟩
              · have s5:(f.pa+(f.re.length:Int) == 0)=false:=by simpa using hz
                have HR:=hide (show fb=false from by
                 rw [HOK2.out,decide_eq_false (p:=(0<i∨(f.pa=0∧f.re=[]))) (by
                   rintro (h | ⟨h1,h2⟩)
                   · exact hi0 h
                   · have:=HRE.out.mp h2
                     exact hz (by omega)),Bool.and_false])
                clear hi0 hz
                go_wp2_with fail
                go_meet
                exact hide ⟨by rw [HR.out],HB4.out⟩
          · have s1:decide ((0:Int)<(f.co.length:Int))=false:=by simpa using hco
            have s2:decide (0<f.co.length)=false:=by simpa using hco
            have HR:=hide (show fb=false from by rw [HOK2.out,s2,Bool.false_and])
            clear hco
            go_wp2_with fail
            go_meet
            exact hide ⟨by rw [HR.out],HB4.out⟩
       case rest =>
        obtain ⟨w5,hw5⟩ : ∃ W,W=wc:=⟨_,rfl⟩
        subst hw5
        obtain ⟨hv7,hb5⟩:=hcut.out
        subst hv7
        have HB5:=hide hb5
        clear hb5 hcut
        obtain ⟨⟨f0,f1,f2,f3,f4⟩,f5⟩:=HFX.out w5 HB5.out
        rw [HOK.out] at HBAD HNXT
        clear HOK HRE
        obtain ⟨na,hna⟩ : ∃ n,f.ar.length=n:=⟨_,rfl⟩
        rw [hna] at HFX f3 HSL HQ
        have HNA:=hide hna
        have hq5:na≤4096:=HQ.out.2.2.2
        clear hna
        go_wp2
        go_loopw [7,8] (fun a b wr'=>ArR n1 fb f.ar w5 a b wr') (fun _ b _=>na - (intOf b).toNat)
        case atStart=>exact ⟨0,rfl,Nat.zero_le _,by simp,Below.refl _ _⟩
        case round =>
         obtain ⟨t,rfl,ht,rfl,hb6⟩:=hrel
         obtain ⟨w6,hw6⟩ : ∃ W,W=wr:=⟨_,rfl⟩
         subst hw6
         have HB6:=hide (bel_tr HB5.out hb6)
         have HB56:=hide hb6
         rw [HNA.out] at ht
         clear f0 f1 f2 f3 f4 f5 hb6
         obtain ⟨⟨f0,f1,f2,f3,f4⟩,f5⟩:=HFX.out w6 HB6.out
         obtain ⟨m1,m2,m3,m4,m5⟩:=HBX.out w6 (bel_tr HBW2.out HB6.out)
         obtain ⟨ab,hab⟩ : ∃ b,(fb && (f.ar.take t).all (fun t=>inB t n1))=b:=⟨_,rfl⟩
         rw [hab]
         have HAB:=hide hab
         clear hab
         by_cases htl:t<na
         · obtain ⟨y,hy⟩ : ∃ y,f.ar[t]?=some y:=⟨f.ar[t]'(by rw [HNA.out];exact htl),by simp⟩
           obtain ⟨gn,on,cn,hvn,hgn,hcn,hy1,hy2⟩:=il_at (by have h:=(HSL.out w6 HB6.out).2.2;rw [← HNA.out] at h;exact h) hy
           rw [HNA.out] at hvn
           cases hvn
           have hgn6:gn<w6.heap.size:=Nat.lt_of_lt_of_le hgn (HKP.out w6 (bel_tr HBW2.out HB6.out)).2
           have dtn:decide (t<na)=true:=by simpa using htl
           have dtj:(t:Int)≤65536:=by omega
           have HNX:=hide ((ar_next (n:=n1) (ok:=fb) hy).trans (by rw [HAB.out]))
           clear hy hgn
           have HIN:=hide (show inB y n1=decide (0≤y∧y<(n1:Int)) from rfl)
           cases ab with
           | false =>
            have HNX2:=hide (HNX.out.trans (Bool.false_and _))
            go_upto_region 14 with (fail)
            go_region
            all_goals (go_wp2;go_roundw;(case rel=>first | exact ⟨t+1,by first | exact num_next htl (by omega) | go_num,by rw [HNA.out];exact htl,by rw [HNX2.out],below_drew HB56.out⟩ | ((repeat apply Exists.intro);exact ⟨⟨t+1,by first | exact num_next htl (by omega) | go_num,by rw [HNA.out];exact htl,by rw [HNX2.out],below_drew HB56.out⟩,rfl⟩));(case measure=>first | exact meas_int htl (by omega) | (rw [intOf_int,intOf_int];omega)))
           | true =>
            by_cases hy0:0≤y
            · have s1:decide (0≤y)=true:=by simpa using hy0
              by_cases hyn:y<(n1:Int)
              · have s2:decide (y<(n1:Int))=true:=by simpa using hyn
                have HNX2:=hide (HNX.out.trans ((Bool.true_and _).trans (show inB y n1=true from by rw [HIN.out];simp [hy0,hyn])))
                clear hy0 hyn
                go_upto_region 14 with (fail)
                go_region
                all_goals (go_wp2;go_roundw;(case rel=>exact ⟨t+1,by first | exact num_next htl (by omega) | go_num,by rw [HNA.out];exact htl,by rw [HNX2.out],below_drew HB56.out⟩);(case measure=>first | exact meas_int htl (by omega) | (rw [intOf_int,intOf_int];omega)))
              · have s2:decide (y<(n1:Int))=false:=by simpa using hyn
                have HNX2:=hide (HNX.out.trans ((Bool.true_and _).trans (show inB y n1=false from by rw [HIN.out];simp [hyn])))
                clear hy0 hyn
                go_upto_region 14 with (fail)
                go_region
                all_goals (go_wp2;go_roundw;(case rel=>exact ⟨t+1,by first | exact num_next htl (by omega) | go_num,by rw [HNA.out];exact htl,by rw [HNX2.out],below_drew HB56.out⟩);(case measure=>first | exact meas_int htl (by omega) | (rw [intOf_int,intOf_int];omega)))
            · have s1:decide (0≤y)=false:=by simpa using hy0
              have HNX2:=hide (HNX.out.trans ((Bool.true_and _).trans (show inB y n1=false from by rw [HIN.out];simp [hy0])))
              clear hy0
              go_upto_region 14 with (fail)
              go_region
              all_goals (go_wp2;go_roundw;(case rel=>exact ⟨t+1,by first | exact num_next htl (by omega) | go_num,by rw [HNA.out];exact htl,by rw [HNX2.out],below_drew HB56.out⟩);(case measure=>first | exact meas_int htl (by omega) | (rw [intOf_int,intOf_int];omega)))
         · obtain rfl:na=t:=by omega
           have dtn:decide (na<na)=false:=by simp
           have HABF:=hide (show (fb && f.ar.all (fun t=>inB t n1))=ab from by have h:=HAB.out;rw [List.take_of_length_le (by rw [HNA.out];exact Nat.le_refl _)] at h;exact h)
           rw [HABF.out] at HBAD HNXT
           cases ab with
           | true =>
            have HNN:=hide (HNXT.out rfl)
            have HBE:=hide (bel_tr HBW2.out HB6.out)
            go_wp2
            go_roundw
            case rel=>first | exact ⟨i+1,by first | exact num_next hlt (by omega) | go_num,by rw [HN2.out];exact hlt,HNN.out,HBE.out⟩ | ((repeat apply Exists.intro);exact ⟨⟨i+1,by first | exact num_next hlt (by omega) | go_num,by rw [HN2.out];exact hlt,HNN.out,HBE.out⟩,rfl⟩)
            case measure=>first | exact meas_int hlt (by omega) | (rw [intOf_int,intOf_int];omega)
           | false =>
            have HBD:=hide (HBAD.out rfl _ (bel_tr HBW2.out HB6.out))
            go_wp2
            go_ret2
            exact HBD.out
     · obtain rfl:n2=i:=by omega
       have d2:decide (n2<n2)=false:=by simp
       have HT2:=hide (show firstBad p 0 p.fu=none from by rw [HFB.out,← HN2.out,List.drop_length];rfl)
       have HTB0:=hide (show ∀ t,t∈p.ta→tableB p t=false→headsP p=some 0 from fun t ht h=>by
        obtain ⟨k,hk,hkt⟩:=List.getElem_of_mem ht
        unfold headsP
        rw [if_neg (by rw [HT1.out];simp),HT2.out]
        dsimp only
        rw [all_bad (s:=tableB p) (by rw [List.getElem?_eq_getElem hk,hkt]) h]
        rfl)
       clear HFB
       go_wp2
       go_loopw [9] (fun a wr'=>H3R p W1 a wr') (fun a _=>n3 - (intOf a).toNat)
       case atStart=>exact ⟨0,rfl,Nat.zero_le _,rfl,HBW.out⟩
       case round =>
        clear HBW k1 k2 k3 k4 k5
        obtain ⟨i,rfl,hi,hall,hb⟩:=hrel
        have HAL:=hide hall
        have HBW:=hide hb
        rw [HN3.out] at hi
        clear hall hb
        obtain ⟨k1,k2,k3,k4,k5⟩:=HBX.out wr HBW.out
        by_cases hlt:i<n3
        · skip
          obtain ⟨t,ht⟩ : ∃ t,p.ta[i]?=some t:=⟨p.ta[i]'(by rw [HN3.out];exact hlt),by simp⟩
          obtain ⟨PW,hBw⟩:=HKP.out wr HBW.out
          obtain ⟨g,o,c,n,u,hv,hn,hlt',hg,hc,hsl⟩:=lst_at PW.ta ht
          cases hv
          obtain ⟨ua,uc,hu⟩:=sl_form hsl
          subst hu
          have d3:decide (i<n3)=true:=by simpa using hlt
          have hgw:g<wr.heap.size:=Nat.lt_of_lt_of_le hg hBw
          have b3:(i:Int)≤1024:=by omega
          have HTE:=hide ht
          have HTM:=hide (List.mem_of_getElem? ht)
          have HSL:=hide (show ∀ W:World,Below wr.heap.size wr W→SlAt 1 IntP B W (.slice ua t.length uc) t from fun W h=>ints_keep (Nat.le_refl _) (fun q hq=>h.block q (Nat.lt_of_lt_of_le hq hBw)) hsl)
          obtain ⟨tl,htl⟩ : ∃ n,t.length=n:=⟨_,rfl⟩
          have htl4:tl≤4096:=by rw [← htl];exact HTL.out t HTM.out
          have HTN:=hide htl
          rw [htl] at hc
          clear ht hsl PW hn hlt' hBw hg htl
          obtain ⟨WT,hWT⟩ : ∃ W,W=wr:=⟨_,rfl⟩
          subst hWT
          go_wp2
          go_loopw [11] (fun a wr'=>ItR p t WT a wr') (fun a _=>tl - (intOf a).toNat)
          case atStart=>exact ⟨0,rfl,Nat.zero_le _,rfl,Below.refl _ _⟩
          case round =>
           obtain ⟨k,rfl,hk,hall,hb⟩:=hrel
           obtain ⟨w6,hw6⟩ : ∃ W,W=wr:=⟨_,rfl⟩
           subst hw6
           have HIT:=hide hall
           have HB6:=hide hb
           have HB61:=hide (bel_tr HBW.out hb)
           rw [HTN.out] at hk
           clear hall hb k1 k2 k3 k4 k5
           obtain ⟨k1,k2,k3,k4,k5⟩:=HBX.out w6 HB61.out
           by_cases hkl:k<tl
           · obtain ⟨x,hx⟩ : ∃ x,t[k]?=some x:=⟨t[k]'(by rw [HTN.out];exact hkl),by simp⟩
             obtain ⟨y,hy⟩ : ∃ y,t[0]?=some y:=⟨t[0]'(by rw [HTN.out];omega),by simp⟩
             obtain ⟨gt,ot,ct,hvt,hgt,hcx,hx1,hx2⟩:=il_at (HSL.out w6 HB6.out) hx
             rw [HTN.out] at hvt
             have hvt2:=hvt
             cases hvt
             obtain ⟨gt',ot',ct',hvt',_,hcy,hy1,hy2⟩:=il_at (HSL.out w6 HB6.out) hy
             cases hvt'
             clear hvt2
             rw [Nat.add_zero] at hcy
             have HCT:=hide (show ∀ W:World,Below w6.heap.size w6 W→W.cell? ⟨gt,ot+k,none⟩=some (.int .i64 x)∧W.cell? ⟨gt,ot,none⟩=some (.int .i64 y) from fun W h=>by
              have hg6:gt<w6.heap.size:=Nat.lt_of_lt_of_le hgt (HKP.out w6 HB61.out).2
              exact ⟨(h.cell (p:=⟨gt,ot+k,none⟩) hg6).trans hcx,(h.cell (p:=⟨gt,ot,none⟩) hg6).trans hcy⟩)
             have hg6:gt<w6.heap.size:=Nat.lt_of_lt_of_le hgt (HKP.out w6 HB61.out).2
             have dk:decide (k<tl)=true:=by simpa using hkl
             have dk0:decide (0<tl)=true:=by simp;omega
             have dk1:0<tl:=by omega
             have dkj:(k:Int)≤65536:=by omega
             have HX:=hide hx
             have HY:=hide hy
             clear hx hy hgt
             go_upto_region 24 with (fail)
             go_cut [158] from 129 to 157 (fun v wc=>Hid (v=.bool (!(inB x n2 && inB y n2))∧Below w6.heap.size w6 wc))
             case first =>
              by_cases x0:x<0
              · have s1:decide (x<0)=true:=by simpa using x0
                have HR:=hide (show (!(inB x n2 && inB y n2))=true from by rw [inB_lo x0];rfl)
                clear x0
                go_region
                all_goals (go_wp2_with fail;go_meet;exact hide ⟨by rw [HR.out],below_drew (Below.refl _ _)⟩)
              · have s1:decide (x<0)=false:=by simpa using x0
                by_cases xn:(n2:Int)≤x
                · have s2:decide ((n2:Int)≤x)=true:=by simpa using xn
                  have HR:=hide (show (!(inB x n2 && inB y n2))=true from by rw [inB_hi xn];rfl)
                  clear x0 xn
                  go_region
                  all_goals (go_wp2_with fail;go_meet;exact hide ⟨by rw [HR.out],below_drew (Below.refl _ _)⟩)
                · have s2:decide ((n2:Int)≤x)=false:=by simpa using xn
                  have HXI:=hide (inB_in x0 xn)
                  clear x0 xn
                  by_cases y0:y<0
                  · have s3:decide (y<0)=true:=by simpa using y0
                    have HR:=hide (show (!(inB x n2 && inB y n2))=true from by rw [inB_lo y0,Bool.and_false];rfl)
                    clear y0
                    go_region
                    all_goals (go_wp2_with fail;go_meet;exact hide ⟨by rw [HR.out],below_drew (Below.refl _ _)⟩)
                  · have s3:decide (y<0)=false:=by simpa using y0
                    by_cases yn:(n2:Int)≤y
                    · have s4:decide ((n2:Int)≤y)=true:=by simpa using yn
                      have HR:=hide (show (!(inB x n2 && inB y n2))=true from by rw [inB_hi yn,Bool.and_false];rfl)
                      clear y0 yn
                      go_region
                      all_goals (go_wp2_with fail;go_meet;exact hide ⟨by rw [HR.out],below_drew (Below.refl _ _)⟩)
                    · have s4:decide ((n2:Int)≤y)=false:=by simpa using yn
                      have HR:=hide (show (!(inB x n2 && inB y n2))=false from by rw [HXI.out,inB_in y0 yn];rfl)
                      clear y0 yn
                      go_region
                      all_goals (go_wp2_with fail;go_meet;exact hide ⟨by rw [HR.out],below_drew (Below.refl _ _)⟩)
             case rest =>
              obtain ⟨w7,hw7⟩ : ∃ W,W=wc:=⟨_,rfl⟩
              subst hw7
              obtain ⟨hv58,hb7⟩:=hcut.out
              subst hv58
              have HB67:=hide hb7
              have HB7:=hide (bel_tr HB6.out hb7)
              have HB71:=hide (bel_tr HB61.out hb7)
              clear hcut hb7 k1 k2 k3 k4 k5 hcx hcy hg6
              obtain ⟨k1,k2,k3,k4,k5⟩:=HBX.out w7 HB71.out
              cases hxy:(inB x n2 && inB y n2) with
              | false =>
               have HEE:=hide (HTB0.out t HTM.out (table_bad HX.out HY.out (by rw [HN2.out];exact hxy)))
               clear hxy
               go_wp2_with fail
               go_ret2
               exact HE0.out _ HB71.out HEE.out
              | true =>
               rw [Bool.and_eq_true] at hxy
               obtain ⟨zx,hzx',hzx⟩:=in_nat hxy.1
               obtain ⟨zy,hzy',hzy⟩:=in_nat hxy.2
               subst hzx' hzy'
               clear hxy
               obtain ⟨fx,hfx⟩ : ∃ f,p.fu[zx]?=some f:=⟨p.fu[zx]'(by rw [HN2.out];exact hzx),by simp⟩
               obtain ⟨fy,hfy⟩ : ∃ f,p.fu[zy]?=some f:=⟨p.fu[zy]'(by rw [HN2.out];exact hzy),by simp⟩
               obtain ⟨px1,px2,_,_,_⟩:=HPA.out fx (List.mem_of_getElem? hfx)
               obtain ⟨py1,py2,_,_,_⟩:=HPA.out fy (List.mem_of_getElem? hfy)
               obtain ⟨kx,hkx⟩ : ∃ n:Nat,fx.pa=(n:Int):=⟨fx.pa.toNat,by omega⟩
               obtain ⟨ky,hky⟩ : ∃ n:Nat,fy.pa=(n:Int):=⟨fy.pa.toNat,by omega⟩
               have hkxl:kx≤fx.lo.length:=by omega
               have hkyl:ky≤fy.lo.length:=by omega
               obtain ⟨gf,of,cf,nf,v1,v2,v3,v4,hvf,hnf,hlf,hgf,⟨y0,y1,y2,y3,y4⟩,r1,r2,r3,r4⟩:=fd_at (HKP.out w7 HB71.out).1.fu hfx
               cases hvf
               obtain ⟨gf',of',cf',nf',u1,u2,u3,u4,hvf',hnf',hlf',_,⟨x0,x1,x2,x3,x4⟩,s1,s2,s3,s4⟩:=fd_at (HKP.out w7 HB71.out).1.fu hfy
               cases hvf'
               obtain ⟨e1,j1,hz1⟩:=sl_form r1
               obtain ⟨e2,j2,hz2⟩:=sl_form r2
               obtain ⟨e3,j3,hz3⟩:=sl_form r3
               obtain ⟨e4,j4,hz4⟩:=sl_form r4
               subst hz1 hz2 hz3 hz4
               obtain ⟨h1,l1,hz1⟩:=sl_form s1
               obtain ⟨h2,l2,hz2⟩:=sl_form s2
               obtain ⟨h3,l3,hz3⟩:=sl_form s3
               obtain ⟨h4,l4,hz4⟩:=sl_form s4
               subst hz1 hz2 hz3 hz4
               rw [hkx] at y0
               rw [hky] at x0
               have HIE:=hide (it_eq hfx hfy hkx hky)
               have hj1:fx.lo.length≤j1:=by obtain ⟨_,_,hv,h,_⟩:=r1;cases hv;exact h.2.1
               have hl1:fy.lo.length≤l1:=by obtain ⟨_,_,hv,h,_⟩:=s1;cases hv;exact h.2.1
               have hkj:kx≤j1:=by omega
               have hkj2:(kx:Int)≤(j1:Int):=by omega
               have hkl1:ky≤l1:=by omega
               have hkl2:(ky:Int)≤(l1:Int):=by omega
               have HS26:=hide (show ∀ W:World,Below w7.heap.size w7 W→(fun W:World=>W.cell? ⟨w.heap.size,1,none⟩=some (.slice (some ⟨gf,of,none⟩) n2 d2')∧W.cell? ⟨gt,ot+k,none⟩=some (.int .i64 (zx:Int))∧W.cell? ⟨gt,ot,none⟩=some (.int .i64 (zy:Int))∧W.cell? ⟨gf,of+zx*5,none⟩=some (.int .i64 (kx:Int))∧W.cell? ⟨gf,of+zx*5+1,none⟩=some (.slice e1 fx.lo.length j1)∧W.cell? ⟨gf,of+zx*5+2,none⟩=some (.slice e2 fx.re.length j2)∧W.cell? ⟨gf,of+zx*5+3,none⟩=some (.slice e3 fx.ar.length j3)∧W.cell? ⟨gf,of+zx*5+4,none⟩=some (.slice e4 fx.co.length j4)∧W.cell? ⟨gf,of+zy*5,none⟩=some (.int .i64 (ky:Int))∧W.cell? ⟨gf,of+zy*5+1,none⟩=some (.slice h1 fy.lo.length l1)∧W.cell? ⟨gf,of+zy*5+2,none⟩=some (.slice h2 fy.re.length l2)∧W.cell? ⟨gf,of+zy*5+3,none⟩=some (.slice h3 fy.ar.length l3)∧W.cell? ⟨gf,of+zy*5+4,none⟩=some (.slice h4 fy.co.length l4)) W from fun W h=>by
                have hgf7:gf<w7.heap.size:=Nat.lt_of_lt_of_le hgf (HKP.out w7 HB71.out).2
                have hc2:=HCT.out W (bel_tr HB67.out h)
                exact ⟨(HBX.out W (bel_tr HB71.out h)).2.1,hc2.1,hc2.2,(h.cell (p:=⟨gf,of+zx*5,none⟩) hgf7).trans y0,(h.cell (p:=⟨gf,of+zx*5+1,none⟩) hgf7).trans y1,(h.cell (p:=⟨gf,of+zx*5+2,none⟩) hgf7).trans y2,(h.cell (p:=⟨gf,of+zx*5+3,none⟩) hgf7).trans y3,(h.cell (p:=⟨gf,of+zx*5+4,none⟩) hgf7).trans y4,(h.cell (p:=⟨gf,of+zy*5,none⟩) hgf7).trans x0,(h.cell (p:=⟨gf,of+zy*5+1,none⟩) hgf7).trans x1,(h.cell (p:=⟨gf,of+zy*5+2,none⟩) hgf7).trans x2,(h.cell (p:=⟨gf,of+zy*5+3,none⟩) hgf7).trans x3,(h.cell (p:=⟨gf,of+zy*5+4,none⟩) hgf7).trans x4⟩)
               have HRR:=hide (show ∀ W:World,Below w7.heap.size w7 W→(SlAt 1 IntP B W (.slice e1 kx j1) (fx.lo.take kx)∧SlAt 1 IntP B W (.slice h1 ky l1) (fy.lo.take ky)∧SlAt 1 IntP B W (.slice e2 fx.re.length j2) fx.re∧SlAt 1 IntP B W (.slice h2 fy.re.length l2) fy.re)∧B≤W.heap.size from fun W h=>by
                have hB7:=(HKP.out w7 HB71.out).2
                have hk:∀ q,q<B→W.heap[q]?=w7.heap[q]?:=fun q hq=>h.block q (Nat.lt_of_lt_of_le hq hB7)
                exact ⟨⟨sl_take (ints_keep (Nat.le_refl _) hk r1) hkxl,sl_take (ints_keep (Nat.le_refl _) hk s1) hkyl,ints_keep (Nat.le_refl _) hk r2,ints_keep (Nat.le_refl _) hk s2⟩,Nat.le_trans hB7 h.size⟩)
               have dzx:decide (zx<n2)=true:=by simpa using hzx
               have dzy:decide (zy<n2)=true:=by simpa using hzy
               clear y0 y1 y2 y3 y4 x0 x1 x2 x3 x4 r1 r2 r3 r4 s1 s2 s3 s4 hfx hfy hnf hnf' hlf hlf' hkx hky px1 px2 py1 py2 hgf
               go_upto_region 26 with (fail)
               go_cut [12,13] from 129 to 193 (fun u v wc=>Hid (∃ bx bz,u=.pointer (some ⟨bx,0,none⟩)∧v=.pointer (some ⟨bz,0,none⟩)∧B2 w7 wc (some (bx,#[.int .i64 (kx:Int),.slice e1 fx.lo.length j1,.slice e2 fx.re.length j2,.slice e3 fx.ar.length j3,.slice e4 fx.co.length j4])) (some (bz,#[.int .i64 (ky:Int),.slice h1 fy.lo.length l1,.slice h2 fy.re.length l2,.slice h3 fy.ar.length l3,.slice h4 fy.co.length l4]))))
               case first =>
                refine wp_region_held_drew (S:=(fun W:World=>W.cell? ⟨w.heap.size,1,none⟩=some (.slice (some ⟨gf,of,none⟩) n2 d2')∧W.cell? ⟨gt,ot+k,none⟩=some (.int .i64 (zx:Int))∧W.cell? ⟨gt,ot,none⟩=some (.int .i64 (zy:Int))∧W.cell? ⟨gf,of+zx*5,none⟩=some (.int .i64 (kx:Int))∧W.cell? ⟨gf,of+zx*5+1,none⟩=some (.slice e1 fx.lo.length j1)∧W.cell? ⟨gf,of+zx*5+2,none⟩=some (.slice e2 fx.re.length j2)∧W.cell? ⟨gf,of+zx*5+3,none⟩=some (.slice e3 fx.ar.length j3)∧W.cell? ⟨gf,of+zx*5+4,none⟩=some (.slice e4 fx.co.length j4)∧W.cell? ⟨gf,of+zy*5,none⟩=some (.int .i64 (ky:Int))∧W.cell? ⟨gf,of+zy*5+1,none⟩=some (.slice h1 fy.lo.length l1)∧W.cell? ⟨gf,of+zy*5+2,none⟩=some (.slice h2 fy.re.length l2)∧W.cell? ⟨gf,of+zy*5+3,none⟩=some (.slice h3 fy.ar.length l3)∧W.cell? ⟨gf,of+zy*5+4,none⟩=some (.slice h4 fy.co.length l4))) (by kernel_rfl) (HS26.out _ (below_drew (Below.refl _ _))) (fun hHeld61=>?_)
                have HR:=hide (B2.begin' (Wb:=w7))
                generalize w7.drew=X0 at *
                refine tk 0 ?_;simp only [sp]
                refine tk 1 ?_;simp only [sp]
                refine tk 2 ?_;simp only [sp]
                refine tk 3 ?_;simp only [sp]
                refine tk 4 ?_;simp only [sp]
                refine tk 5 ?_;simp only [sp]
                refine tk 6 ?_;simp only [sp]
                refine tk 7 ?_;simp only [sp]
                refine tk 8 ?_;simp only [sp]
                refine tk 9 ?_;simp only [sp]
                refine tk 10 ?_;simp only [sp]
                refine tk 11 ?_;simp only [sp]
                refine tk 12 ?_;simp only [sp]
                refine tk 13 ?_;simp only [sp]
                refine tk 14 ?_;simp only [sp]
                refine wpAnyH_ready (rs:=[15,16]) (by kernel_rfl) (by simp) ?_
                refine AllReadyH.cons (dr rfl) (fun K hK=>?_) (AllReadyH.cons (dr rfl) (fun K hK=>?_) AllReadyH.nil)
                · skip
                  have HR1:=hide HR.out.ax
                  go_simp
                  go_wp2_with fail
                  refine hK.out _ _ (HS26.out _ HR1.out.bel) (fun hHeld77=>?_)
                  clear hK K
                  try simp only [sp]
                  generalize X0.alloc (.cells #[.int .i64 0,.slice none 0 0,.slice none 0 0,.slice none 0 0,.slice none 0 0] 40)=X1 at *
                  generalize X0.heap.size=bx at *
                  clear HR
                  have HR:=HR1
                  clear HR1
                  refine wpAnyH_ready (rs:=[16]) (by kernel_rfl) (by simp) ?_
                  refine AllReadyH.cons (dr rfl) (fun K hK=>?_) AllReadyH.nil
                  have HR1:=hide HR.out.ay
                  go_simp
                  go_wp2_with fail
                  refine hK.out _ _ (HS26.out _ HR1.out.bel) (fun hHeld78=>?_)
                  clear hK K
                  try simp only [sp]
                  generalize X1.alloc (.cells #[.int .i64 0,.slice none 0 0,.slice none 0 0,.slice none 0 0,.slice none 0 0] 40)=X2 at *
                  generalize X1.heap.size=bz at *
                  clear HR
                  have HR:=HR1
                  clear HR1
                  refine wpAnyH_ready (rs:=[17]) (by kernel_rfl) (by simp) ?_
                  refine AllReadyH.cons (dr rfl) (fun K hK=>?_) AllReadyH.nil
                  obtain ⟨hq1,hq2⟩:=HR.out.hx bx _ rfl
                  have u0:=cell_of (o:=0) hq2 rfl
                  have u1:=cell_of (o:=1) hq2 rfl
                  have u2:=cell_of (o:=2) hq2 rfl
                  have u3:=cell_of (o:=3) hq2 rfl
                  have u4:=cell_of (o:=4) hq2 rfl
                  have t0:=frzB hq2 0
                  have t1:=frzB hq2 1
                  have t2:=frzB hq2 2
                  have t3:=frzB hq2 3
                  have t4:=frzB hq2 4
                  have hq3:=lt_of_block hq2
                  have HR1:=hide (HR.out.sx (.int .i64 (kx:Int)) (.slice e1 fx.lo.length j1) (.slice e2 fx.re.length j2) (.slice e3 fx.ar.length j3) (.slice e4 fx.co.length j4))
                  clear hq1 hq2
                  go_simp
                  go_wp2_with fail
                  refine hK.out _ _ (HS26.out _ HR1.out.bel) (fun hHeld79=>?_)
                  clear hK K
                  try simp only [sp]
                  generalize (((((X2.setCell ⟨bx,0,none⟩ (.int .i64 (kx:Int))).setCell ⟨bx,1,none⟩ (.slice e1 fx.lo.length j1)).setCell ⟨bx,2,none⟩ (.slice e2 fx.re.length j2)).setCell ⟨bx,3,none⟩ (.slice e3 fx.ar.length j3)).setCell ⟨bx,4,none⟩ (.slice e4 fx.co.length j4))=X3 at *
                  clear HR u0 u1 u2 u3 u4 t0 t1 t2 t3 t4 hq3
                  have HR:=HR1
                  clear HR1
                  refine wpAnyH_ready (rs:=[18]) (by kernel_rfl) (by simp) ?_
                  refine AllReadyH.cons (dr rfl) (fun K hK=>?_) AllReadyH.nil
                  obtain ⟨hq1,hq2⟩:=HR.out.hy bz _ rfl
                  have u0:=cell_of (o:=0) hq2 rfl
                  have u1:=cell_of (o:=1) hq2 rfl
                  have u2:=cell_of (o:=2) hq2 rfl
                  have u3:=cell_of (o:=3) hq2 rfl
                  have u4:=cell_of (o:=4) hq2 rfl
                  have t0:=frzB hq2 0
                  have t1:=frzB hq2 1
                  have t2:=frzB hq2 2
                  have t3:=frzB hq2 3
                  have t4:=frzB hq2 4
                  have hq3:=lt_of_block hq2
                  have HR1:=hide (HR.out.sy (.int .i64 (ky:Int)) (.slice h1 fy.lo.length l1) (.slice h2 fy.re.length l2) (.slice h3 fy.ar.length l3) (.slice h4 fy.co.length l4))
                  clear hq1 hq2
                  go_simp
                  go_wp2_with fail
                  refine hK.out _ _ (HS26.out _ HR1.out.bel) (fun hHeld80=>?_)
                  clear hK K
                  try simp only [sp]
                  generalize (((((X3.setCell ⟨bz,0,none⟩ (.int .i64 (ky:Int))).setCell ⟨bz,1,none⟩ (.slice h1 fy.lo.length l1)).setCell ⟨bz,2,none⟩ (.slice h2 fy.re.length l2)).setCell ⟨bz,3,none⟩ (.slice h3 fy.ar.length l3)).setCell ⟨bz,4,none⟩ (.slice h4 fy.co.length l4))=X4 at *
                  clear HR u0 u1 u2 u3 u4 t0 t1 t2 t3 t4 hq3
                  have HR:=HR1
                  clear HR1
                  refine wpAnyH_done (by kernel_rfl) ?_ _
                  go_wp2_with fail
                  go_meet
                  exact hide ⟨bx,bz,rfl,rfl,HR.out⟩
                · skip
                  have HR1:=hide HR.out.ay
                  go_simp
                  go_wp2_with fail
                  refine hK.out _ _ (HS26.out _ HR1.out.bel) (fun hHeld81=>?_)
                  clear hK K
                  try simp only [sp]
                  generalize X0.alloc (.cells #[.int .i64 0,.slice none 0 0,.slice none 0 0,.slice none 0 0,.slice none 0 0] 40)=X1 at *
                  generalize X0.heap.size=bz at *
                  clear HR
                  have HR:=HR1
                  clear HR1
                  refine wpAnyH_ready (rs:=[15]) (by kernel_rfl) (by simp) ?_
                  refine AllReadyH.cons (dr rfl) (fun K hK=>?_) AllReadyH.nil
                  have HR1:=hide HR.out.ax
                  go_simp
                  go_wp2_with fail
                  refine hK.out _ _ (HS26.out _ HR1.out.bel) (fun hHeld82=>?_)
                  clear hK K
                  try simp only [sp]
                  generalize X1.alloc (.cells #[.int .i64 0,.slice none 0 0,.slice none 0 0,.slice none 0 0,.slice none 0 0] 40)=X2 at *
                  generalize X1.heap.size=bx at *
                  clear HR
                  have HR:=HR1
                  clear HR1
                  refine wpAnyH_ready (rs:=[17]) (by kernel_rfl) (by simp) ?_
                  refine AllReadyH.cons (dr rfl) (fun K hK=>?_) AllReadyH.nil
                  obtain ⟨hq1,hq2⟩:=HR.out.hx bx _ rfl
                  have u0:=cell_of (o:=0) hq2 rfl
                  have u1:=cell_of (o:=1) hq2 rfl
                  have u2:=cell_of (o:=2) hq2 rfl
                  have u3:=cell_of (o:=3) hq2 rfl
                  have u4:=cell_of (o:=4) hq2 rfl
                  have t0:=frzB hq2 0
                  have t1:=frzB hq2 1
                  have t2:=frzB hq2 2
                  have t3:=frzB hq2 3
                  have t4:=frzB hq2 4
                  have hq3:=lt_of_block hq2
                  have HR1:=hide (HR.out.sx (.int .i64 (kx:Int)) (.slice e1 fx.lo.length j1) (.slice e2 fx.re.length j2) (.slice e3 fx.ar.length j3) (.slice e4 fx.co.length j4))
                  clear hq1 hq2
                  go_simp
                  go_wp2_with fail
                  refine hK.out _ _ (HS26.out _ HR1.out.bel) (fun hHeld83=>?_)
                  clear hK K
                  try simp only [sp]
                  generalize (((((X2.setCell ⟨bx,0,none⟩ (.int .i64 (kx:Int))).setCell ⟨bx,1,none⟩ (.slice e1 fx.lo.length j1)).setCell ⟨bx,2,none⟩ (.slice e2 fx.re.length j2)).setCell ⟨bx,3,none⟩ (.slice e3 fx.ar.length j3)).setCell ⟨bx,4,none⟩ (.slice e4 fx.co.length j4))=X3 at *
                  clear HR u0 u1 u2 u3 u4 t0 t1 t2 t3 t4 hq3
                  have HR:=HR1
                  clear HR1
                  refine wpAnyH_ready (rs:=[18]) (by kernel_rfl) (by simp) ?_
                  refine AllReadyH.cons (dr rfl) (fun K hK=>?_) AllReadyH.nil
                  obtain ⟨hq1,hq2⟩:=HR.out.hy bz _ rfl
                  have u0:=cell_of (o:=0) hq2 rfl
                  have u1:=cell_of (o:=1) hq2 rfl
                  have u2:=cell_of (o:=2) hq2 rfl
                  have u3:=cell_of (o:=3) hq2 rfl
                  have u4:=cell_of (o:=4) hq2 rfl
                  have t0:=frzB hq2 0
                  have t1:=frzB hq2 1
                  have t2:=frzB hq2 2
                  have t3:=frzB hq2 3
                  have t4:=frzB hq2 4
                  have hq3:=lt_of_block hq2
                  have HR1:=hide (HR.out.sy (.int .i64 (ky:Int)) (.slice h1 fy.lo.length l1) (.slice h2 fy.re.length l2) (.slice h3 fy.ar.length l3) (.slice h4 fy.co.length l4))
                  clear hq1 hq2
                  go_simp
                  go_wp2_with fail
                  refine hK.out _ _ (HS26.out _ HR1.out.bel) (fun hHeld84=>?_)
                  clear hK K
                  try simp only [sp]
                  generalize (((((X3.setCell ⟨bz,0,none⟩ (.int .i64 (ky:Int))).setCell ⟨bz,1,none⟩ (.slice h1 fy.lo.length l1)).setCell ⟨bz,2,none⟩ (.slice h2 fy.re.length l2)).setCell ⟨bz,3,none⟩ (.slice h3 fy.ar.length l3)).setCell ⟨bz,4,none⟩ (.slice h4 fy.co.length l4))=X4 at *
                  clear HR u0 u1 u2 u3 u4 t0 t1 t2 t3 t4 hq3
                  have HR:=HR1
                  clear HR1
                  refine wpAnyH_done (by kernel_rfl) ?_ _
                  go_wp2_with fail
                  go_meet
                  exact hide ⟨bx,bz,rfl,rfl,HR.out⟩
               case rest =>
                obtain ⟨bx,bz,hu12,hv13,hB2⟩:=hcut.out
                subst hu12 hv13
                obtain ⟨w8,hw8⟩ : ∃ W,W=wc:=⟨_,rfl⟩
                subst hw8
                have HB78:=hide hB2.bel
                have HB8:=hide (bel_tr HB7.out hB2.bel)
                have HB81:=hide (bel_tr HB71.out hB2.bel)
                have HS27:=hide (show ∀ W:World,Below w8.heap.size w8 W→(fun W:World=>W.cell? ⟨bx,0,none⟩=some (.int .i64 (kx:Int))∧W.cell? ⟨bx,1,none⟩=some (.slice e1 fx.lo.length j1)∧W.cell? ⟨bx,2,none⟩=some (.slice e2 fx.re.length j2)∧W.cell? ⟨bz,0,none⟩=some (.int .i64 (ky:Int))∧W.cell? ⟨bz,1,none⟩=some (.slice h1 fy.lo.length l1)∧W.cell? ⟨bz,2,none⟩=some (.slice h2 fy.re.length l2)) W from fun W h=>by
                 have e1:=(h.block _ (lt_of_block (hB2.hx _ _ rfl).2)).trans (hB2.hx _ _ rfl).2
                 have e2:=(h.block _ (lt_of_block (hB2.hy _ _ rfl).2)).trans (hB2.hy _ _ rfl).2
                 exact ⟨cell_of e1 rfl,cell_of e1 rfl,cell_of e1 rfl,cell_of e2 rfl,cell_of e2 rfl,cell_of e2 rfl⟩)
                have HSM1:=hide (show Calls Tryz.prog 30 #[.slice e1 kx j1,.slice h1 ky l1] w8.drew fun e w'=>e=.returned (.bool (decide (fx.lo.take kx=fy.lo.take ky)))∧Below w8.drew.heap.size w8.drew w' from by
                 obtain ⟨⟨q1,q2,_,_⟩,q5⟩:=HRR.out w8.drew (below_drew HB78.out)
                 exact rsame_any q1 q2 q5 q5)
                have HSM2:=hide (show ∀ W:World,Below w8.heap.size w8 W→Calls Tryz.prog 30 #[.slice e2 fx.re.length j2,.slice h2 fy.re.length l2] W fun e w'=>e=.returned (.bool (decide (fx.re=fy.re)))∧Below W.heap.size W w' from fun W h=>by
                 obtain ⟨⟨_,_,q3,q4⟩,q5⟩:=HRR.out W (bel_tr HB78.out h)
                 exact rsame_any q3 q4 q5 q5)
                clear hcut hB2 HS26 HRR k1 k2 k3 k4 k5
                obtain ⟨c1,hc1⟩ : ∃ b,decide (fx.lo.take kx=fy.lo.take ky)=b:=⟨_,rfl⟩
                obtain ⟨c2,hc2⟩ : ∃ b,decide (fx.re=fy.re)=b:=⟨_,rfl⟩
                rw [hc1] at HSM1 HIE
                rw [hc2] at HSM2 HIE
                clear hc1 hc2
                go_upto_region 27 with (fail)
                cases c1 with
                | false =>
                 have HEE:=hide (HTB0.out t HTM.out (table_bad2 HX.out HY.out HIE.out))
                 refine wp_region_held_drew (S:=(fun W:World=>W.cell? ⟨bx,0,none⟩=some (.int .i64 (kx:Int))∧W.cell? ⟨bx,1,none⟩=some (.slice e1 fx.lo.length j1)∧W.cell? ⟨bx,2,none⟩=some (.slice e2 fx.re.length j2)∧W.cell? ⟨bz,0,none⟩=some (.int .i64 (ky:Int))∧W.cell? ⟨bz,1,none⟩=some (.slice h1 fy.lo.length l1)∧W.cell? ⟨bz,2,none⟩=some (.slice h2 fy.re.length l2))) (by kernel_rfl) (HS27.out _ (below_drew (Below.refl _ _))) (fun hHeld85=>?_)
                 refine tk 0 ?_;simp only [sp]
                 refine tk 1 ?_;simp only [sp]
                 refine tk 2 ?_;simp only [sp]
                 refine tk 3 ?_;simp only [sp]
                 refine tk 4 ?_;simp only [sp]
                 refine tk 5 ?_;simp only [sp]
                 refine tk 6 ?_;simp only [sp]
                 refine tk 7 ?_;simp only [sp]
                 refine tk 8 ?_;simp only [sp]
                 refine tk 9 ?_;simp only [sp]
                 refine rd 10 (fun K hK=>?_)
                 go_simp
                 go_at_call 30
                 refine HSM1.out.mono ?_
                 rintro e w9 ⟨rfl,hb9⟩
                 have HB9:=hide (bel_tr (below_drew (Below.refl w8.heap.size w8)) hb9)
                 go_wp2_with fail
                 refine hK.out _ _ (HS27.out _ HB9.out) (fun hHeld96=>?_)
                 clear hK K
                 try simp only [sp]
                 refine tk 11 ?_;simp only [sp]
                 refine tk 12 ?_;simp only [sp]
                 refine tn 13 ?_;simp only [sp]
                 refine tn 14 ?_;simp only [sp]
                 refine tn 15 ?_;simp only [sp]
                 refine tn 16 ?_;simp only [sp]
                 refine tn 17 ?_;simp only [sp]
                 refine tn 18 ?_;simp only [sp]
                 refine tk 19 ?_;simp only [sp]
                 refine wpAnyH_done (by kernel_rfl) ?_ _
                 clear hb9
                 go_wp2_with fail
                 go_ret2
                 exact HE0.out _ (bel_tr HB81.out HB9.out) HEE.out
                | true =>
                 cases c2 with
                 | false =>
                  have HEE:=hide (HTB0.out t HTM.out (table_bad2 HX.out HY.out HIE.out))
                  refine wp_region_held_drew (S:=(fun W:World=>W.cell? ⟨bx,0,none⟩=some (.int .i64 (kx:Int))∧W.cell? ⟨bx,1,none⟩=some (.slice e1 fx.lo.length j1)∧W.cell? ⟨bx,2,none⟩=some (.slice e2 fx.re.length j2)∧W.cell? ⟨bz,0,none⟩=some (.int .i64 (ky:Int))∧W.cell? ⟨bz,1,none⟩=some (.slice h1 fy.lo.length l1)∧W.cell? ⟨bz,2,none⟩=some (.slice h2 fy.re.length l2))) (by kernel_rfl) (HS27.out _ (below_drew (Below.refl _ _))) (fun hHeld106=>?_)
                  refine tk 0 ?_;simp only [sp]
                  refine tk 1 ?_;simp only [sp]
                  refine tk 2 ?_;simp only [sp]
                  refine tk 3 ?_;simp only [sp]
                  refine tk 4 ?_;simp only [sp]
                  refine tk 5 ?_;simp only [sp]
                  refine tk 6 ?_;simp only [sp]
                  refine tk 7 ?_;simp only [sp]
                  refine tk 8 ?_;simp only [sp]
                  refine tk 9 ?_;simp only [sp]
                  refine rd 10 (fun K hK=>?_)
                  go_simp
                  go_at_call 30
                  refine HSM1.out.mono ?_
                  rintro e w9 ⟨rfl,hb9⟩
                  have HB9:=hide (bel_tr (below_drew (Below.refl w8.heap.size w8)) hb9)
                  go_wp2_with fail
                  refine hK.out _ _ (HS27.out _ HB9.out) (fun hHeld117=>?_)
                  clear hK K
                  try simp only [sp]
                  refine tk 11 ?_;simp only [sp]
                  refine tk 12 ?_;simp only [sp]
                  refine tk 13 ?_;simp only [sp]
                  refine tk 14 ?_;simp only [sp]
                  refine tk 15 ?_;simp only [sp]
                  refine tk 16 ?_;simp only [sp]
                  refine rd 17 (fun K hK=>?_)
                  go_simp
                  go_at_call 30
                  refine (HSM2.out w9 HB9.out).mono ?_
                  rintro e w10 ⟨rfl,hb10⟩
                  have HB10:=hide (bel_tr HB9.out hb10)
                  go_wp2_with fail
                  refine hK.out _ _ (HS27.out _ HB10.out) (fun hHeld124=>?_)
                  clear hK K
                  try simp only [sp]
                  refine tk 18 ?_;simp only [sp]
                  refine tk 19 ?_;simp only [sp]
                  refine wpAnyH_done (by kernel_rfl) ?_ _
                  clear hb9 hb10
                  go_wp2_with fail
                  go_ret2
                  exact HE0.out _ (bel_tr HB81.out HB10.out) HEE.out
                 | true =>
                  refine wp_region_held_drew (S:=(fun W:World=>W.cell? ⟨bx,0,none⟩=some (.int .i64 (kx:Int))∧W.cell? ⟨bx,1,none⟩=some (.slice e1 fx.lo.length j1)∧W.cell? ⟨bx,2,none⟩=some (.slice e2 fx.re.length j2)∧W.cell? ⟨bz,0,none⟩=some (.int .i64 (ky:Int))∧W.cell? ⟨bz,1,none⟩=some (.slice h1 fy.lo.length l1)∧W.cell? ⟨bz,2,none⟩=some (.slice h2 fy.re.length l2))) (by kernel_rfl) (HS27.out _ (below_drew (Below.refl _ _))) (fun hHeld127=>?_)
                  refine tk 0 ?_;simp only [sp]
                  refine tk 1 ?_;simp only [sp]
                  refine tk 2 ?_;simp only [sp]
                  refine tk 3 ?_;simp only [sp]
                  refine tk 4 ?_;simp only [sp]
                  refine tk 5 ?_;simp only [sp]
                  refine tk 6 ?_;simp only [sp]
                  refine tk 7 ?_;simp only [sp]
                  refine tk 8 ?_;simp only [sp]
                  refine tk 9 ?_;simp only [sp]
                  refine rd 10 (fun K hK=>?_)
                  go_simp
                  go_at_call 30
                  refine HSM1.out.mono ?_
                  rintro e w9 ⟨rfl,hb9⟩
                  have HB9:=hide (bel_tr (below_drew (Below.refl w8.heap.size w8)) hb9)
                  go_wp2_with fail
                  refine hK.out _ _ (HS27.out _ HB9.out) (fun hHeld138=>?_)
                  clear hK K
                  try simp only [sp]
                  refine tk 11 ?_;simp only [sp]
                  refine tk 12 ?_;simp only [sp]
                  refine tk 13 ?_;simp only [sp]
                  refine tk 14 ?_;simp only [sp]
                  refine tk 15 ?_;simp only [sp]
                  refine tk 16 ?_;simp only [sp]
                  refine rd 17 (fun K hK=>?_)
                  go_simp
                  go_at_call 30
                  refine (HSM2.out w9 HB9.out).mono ?_
                  rintro e w10 ⟨rfl,hb10⟩
                  have HB10:=hide (bel_tr HB9.out hb10)
                  go_wp2_with fail
                  refine hK.out _ _ (HS27.out _ HB10.out) (fun hHeld145=>?_)
                  clear hK K
                  try simp only [sp]
                  refine tk 18 ?_;simp only [sp]
                  refine tk 19 ?_;simp only [sp]
                  refine wpAnyH_done (by kernel_rfl) ?_ _
                  clear hb9 hb10
                  have HBE:=hide (bel_tr HB8.out HB10.out)
                  have HNX:=hide (all_next (s:=itB p ((t[0]?).getD 0)) HX.out HIT.out (by rw [HY.out];exact HIE.out))
                  go_wp2
                  go_roundw
                  case rel=>first | exact ⟨k+1,by first | exact num_next hkl (by omega) | go_num,by rw [HTN.out];exact hkl,HNX.out,HBE.out⟩ | ((repeat apply Exists.intro);exact ⟨⟨k+1,by first | exact num_next hkl (by omega) | go_num,by rw [HTN.out];exact hkl,HNX.out,HBE.out⟩,rfl⟩)
                  case measure=>first | exact meas_int hkl (by omega) | (rw [intOf_int,intOf_int];omega)
           · obtain rfl:tl=k:=by omega
             have dk:decide (tl<tl)=false:=by simp
             have HTA:=hide (show t.all (itB p ((t[0]?).getD 0))=true from by have h:=HIT.out;rw [List.take_of_length_le (by rw [HTN.out];exact Nat.le_refl _)] at h;exact h)
             by_cases h0:tl=0
             · have z1:((tl:Int) == 0)=true:=by simp [h0]
               have z2:(tl == 0)=true:=by simp [h0]
               have HEE:=hide (HTB0.out t HTM.out (by rw [table_it,HTN.out,h0];rfl))
               clear h0
               go_wp2_with fail
               go_ret2
               exact HE0.out _ HB61.out HEE.out
             · have z1:((tl:Int) == 0)=false:=by simpa using h0
               have z2:(tl == 0)=false:=by simpa using h0
               have HNX:=hide (all_next (s:=tableB p) HTE.out HAL.out (by rw [table_it,HTN.out,HTA.out];simp;omega))
               clear h0
               go_wp2
               go_roundw
               case rel=>first | exact ⟨i+1,by first | exact num_next hlt (by omega) | go_num,by rw [HN3.out];exact hlt,HNX.out,HB61.out⟩ | ((repeat apply Exists.intro);exact ⟨⟨i+1,by first | exact num_next hlt (by omega) | go_num,by rw [HN3.out];exact hlt,HNX.out,HB61.out⟩,rfl⟩)
               case measure=>first | exact meas_int hlt (by omega) | (rw [intOf_int,intOf_int];omega)
        · obtain rfl:n3=i:=by omega
          have d3:decide (n3<n3)=false:=by simp
          have HT3:=hide (show p.ta.all (tableB p)=true from by have:=HAL.out;rwa [← HN3.out,List.take_length] at this)
          clear HAL
          have HF:=hide (show ∀ W:World,Below W1.heap.size W1 W→RhO p w (.returned (.tuple #[.int .i64 0,.bool (decide (0<n2))])) W from fun W hW=>by
           refine ⟨?_,HB1.out W hW⟩
           have h1:headsP p=if (true && decide (0<n2))=true then none else some 0:=by
            unfold headsP
            rw [if_neg (by rw [HT1.out];simp),HT2.out]
            dsimp only
            rw [HT3.out,HN2.out]
           rw [h1]
           cases hd:decide (0<n2) <;> rfl)
          by_cases h0:0<n2
          · have z0:decide ((0:Int)<(n2:Int))=true:=by simp;omega
            have z1:decide (0<n2)=true:=by simpa using h0
            rw [z1] at HF
            clear h0
            go_wp2_with fail
            go_region
            all_goals (go_wp2_with fail;go_ret2;exact HF.out _ (below_drew HBW.out))
          · have z0:decide ((0:Int)<(n2:Int))=false:=by simp;omega
            have z1:decide (0<n2)=false:=by simpa using h0
            rw [z1] at HF
            clear h0
            go_wp2_with fail
            go_region
            all_goals (go_wp2_with fail;go_ret2;exact HF.out _ (below_drew HBW.out))
end
end Go.Proofs.YtkdojpnihinpbaaGreatDoor
