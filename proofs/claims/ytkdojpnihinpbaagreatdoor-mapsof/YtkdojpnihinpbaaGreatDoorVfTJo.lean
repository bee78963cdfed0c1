/- take: the kinds on top, from the top on, each held against what it must be. -/
import Derived.Test.YtkdojpnihinpbaaGreatDoorVfCJo
namespace Go.Proofs.YtkdojpnihinpbaaGreatDoor
open Go.RowKit Go.Shelf
attribute [local go_sem] Oper.semAt_some
theorem IsAt.sub {X Y:Nat→Prop} {w:World} {v:Value} {ks:List Int} (R:IsAt Y w v ks) (h:∀ j,j<w.heap.size→X j→Y j):IsAt X w v ks:=by
 obtain ⟨ao,cap,h1,h2,h3,h4⟩:=R
 refine ⟨ao,cap,h1,h2,h3,fun j k hk=>?_⟩
 obtain ⟨g,o,e1,e2,e3,e4⟩:=h4 j k hk
 exact ⟨g,o,e1,e2,fun hx=>e3 (h g e2 hx),e4⟩
theorem PileAt.sub {X Y:Nat→Prop} {w:World} {E:Nat} (h:∀ j,j<w.heap.size→X j→Y j):∀ {b:Nat} {l:List Int},PileAt Y w E b l→PileAt X w E b l:=by
 intro b l R
 induction R with
 | nil h1 h2=>exact .nil h1 (fun hx=>h2 (h _ (lt_of_block h1) hx))
 | cons h1 h2 h3 h4 _ ih=>exact .cons h1 (fun hx=>h2 (h _ (lt_of_block h1) hx)) h3 (h4.sub h) ih
structure FiC (m B:Nat) (Z:Nat→Prop) (f:Nat) (caps:Array Value) (mu:Must) (ks:List Int) (U:Nat→World→Prop):Prop where
  fn:FX.fn f
  en:∀ args w,(callFunc f args).run Tryz.prog w=.ok (.enter f args) w
  n:mu.n=ks.length
  low:∀ j,Z j→j<B
  st:∀ k W W',U k W→(∀ j,j<B→W'.heap[j]?=W.heap[j]?)→U k W'
  call:∀ k W,U k W→k<ks.length→∀ x,ks[ks.length - 1 - k]?=some x→CallsIn FX m Tryz.prog f (#[.int .i64 ((ks.length - 1 - k:Nat):Int),.int .i64 x]++caps) W fun e W'=>e=.returned (.bool (mu.at (ks.length - 1 - k) ((ks[1]?).getD 0) x))∧U (k+1) W'∧Kp Z W W'
def TkO (f a:Int) (mu:Must) (ks:List Int) (Z:Nat→Prop) (w:World) (e:Ending) (W:World):Prop :=
  ((mu.fine ks=true∧e=.returned (.tuple #[.int .i64 (ks.getLast?.getD 0),.int .i64 (ks.head?.getD 0)]))∨(mu.fine ks=false∧e=.panicked (fch f a 8)))∧Kp Z w W
def okd (mu:Must) (ks:List Int) (k:Nat):Prop:=∀ i,ks.length - k≤i→i<ks.length→mu.at i ((ks[1]?).getD 0) ((ks[i]?).getD 0)=true
theorem okd_all {mu:Must} {ks:List Int} (h:okd mu ks ks.length):mu.fine ks=true:=by
 unfold Must.fine
 rw [List.all_eq_true]
 intro i hi
 rw [List.mem_range] at hi
 exact h i (by omega) hi
theorem okd_not {mu:Must} {ks:List Int} {i:Nat} (hi:i<ks.length) (h:mu.at i ((ks[1]?).getD 0) ((ks[i]?).getD 0)=false):mu.fine ks=false:=by
 cases hf:mu.fine ks with
 | false=>rfl
 | true =>
  unfold Must.fine at hf
  rw [List.all_eq_true] at hf
  have:=hf i (List.mem_range.mpr hi)
  rw [this] at h
  cases h
theorem okd_next {mu:Must} {ks:List Int} {k:Nat} {x:Int} (h:okd mu ks k) (hk:k<ks.length) (hx:ks[ks.length - 1 - k]?=some x) (ha:mu.at (ks.length - 1 - k) ((ks[1]?).getD 0) x=true):okd mu ks (k+1):=fun i h1 h2=>by
 by_cases hi:i=ks.length - 1 - k
 · subst hi
   rw [hx]
   exact ha
 · exact h i (by omega) h2
def topK (ks:List Int) (k:Nat):Int:=if k=0 then 0 else ks.getLast?.getD 0
def lowK (ks:List Int) (k:Nat):Int:=if k=0 then 0 else (ks[ks.length - k]?).getD 0
theorem topK_all (ks:List Int):topK ks ks.length=ks.getLast?.getD 0:=by
 unfold topK
 split
 · rename_i h
   rw [List.eq_nil_of_length_eq_zero h]
   rfl
 · rfl
theorem lowK_all (ks:List Int):lowK ks ks.length=ks.head?.getD 0:=by
 unfold lowK
 split
 · rename_i h
   rw [List.eq_nil_of_length_eq_zero h]
   rfl
 · rw [Nat.sub_self,← List.head?_eq_getElem?]
theorem lowK_next {ks:List Int} {k:Nat} {x:Int} (hk:k<ks.length) (hx:ks[ks.length - 1 - k]?=some x):lowK ks (k+1)=x:=by
 unfold lowK
 rw [if_neg (by omega),show ks.length - (k+1)=ks.length - 1 - k by omega,hx]
 rfl
theorem topK_first {ks:List Int} {x:Int} (hx:ks[ks.length - 1 - 0]?=some x):topK ks (0+1)=x:=by
 unfold topK
 rw [if_neg (by omega),List.getLast?_eq_getElem?]
 rw [Nat.sub_zero] at hx
 rw [hx]
 rfl
theorem topK_later {ks:List Int} {k:Nat} (hk:0<k):topK ks (k+1)=topK ks k:=by
 unfold topK
 rw [if_neg (by omega),if_neg (by omega)]
structure TkS (A:Nat) (Z:Nat→Prop) (f:Nat) (caps:Array Value) (mu:Must) (ks:List Int) (U:Nat→World→Prop) (w:World) (B D2:Nat) (k:Nat) (W:World):Prop where
  u:U k W
  ok:okd mu ks k
  e0:W.heap[B]?=some (.cells #[.pointer (some ⟨A,0,none⟩)] 63 (0,0))
  e1:W.heap[B+1]?=some (.cells #[.int .i64 (ks.length:Int)] 3 (0,0))
  e2:W.heap[B+2]?=some (.cells #[.func (.func f) #[] caps] 125 (0,0))
  e3:W.heap[B+3]?=some (.cells #[.int .i64 (topK ks k)] 3 (0,0))
  e4:W.heap[B+4]?=some (.cells #[.int .i64 (lowK ks k)] 3 (0,0))
  d2:W.heap[D2]?=some (.deferred (some []))
  kp:Kp Z w W
theorem TkS.keep {A:Nat} {Z:Nat→Prop} {f:Nat} {caps:Array Value} {mu:Must} {ks:List Int} {U:Nat→World→Prop} {w:World} {B D2 k:Nat} {W W' : World} {m:Nat} (S:TkS A Z f caps mu ks U w B D2 k W) (hB:w.heap.size=B) (C:FiC m B Z f caps mu ks U) (hD:B+4<D2) {Q:Nat→Prop} (h:Kp Q W W') (hQ:∀ j,Q j→D2<j):TkS A Z f caps mu ks U w B D2 k W':=by
 have hz:=S.kp.size
 have hb:∀ j,j≤D2→j<W.heap.size→W'.heap[j]?=W.heap[j]?:=fun j h1 h2=>h.block j h2 (fun hq=>by have:=hQ j hq;omega)
 have l4:=lt_of_block S.e4
 have ld:=lt_of_block S.d2
 exact ⟨C.st _ _ _ S.u (fun j hj=>hb j (by omega) (by omega)),S.ok,(hb _ (by omega) (by omega)).trans S.e0,(hb _ (by omega) (by omega)).trans S.e1,(hb _ (by omega) (by omega)).trans S.e2,(hb _ (by omega) (by omega)).trans S.e3,(hb _ (by omega) l4).trans S.e4,(hb _ (Nat.le_refl _) ld).trans S.d2,⟨h.os.trans S.kp.os,h.tape.trans S.kp.tape,h.output.trans S.kp.output,Nat.le_trans hz h.size,fun j hj hz'=>(hb j (by omega) (by omega)).trans (S.kp.block j hj hz')⟩⟩
section
variable {m B A E b:Nat} {Z:Nat→Prop} {f:Nat} {caps:Array Value} {mu:Must} {s:List Int} {U:Nat→World→Prop} {w:World} {fi at_:Int}
set_option maxRecDepth 100000 in
set_option maxHeartbeats 2000000 in
theorem take_in {n:Nat} (hn:n≤s.length) (C:FiC (m - 1 - 1 - 1 - 1 - 1) w.heap.size Z f caps mu (s.drop (s.length - n)) U) (hU:U 0 w) (P:PileAt Z w E b s) (hs:s.length≤4000000000000) (hA:w.cell? ⟨A,0,none⟩=some (.int .i64 fi)∧w.cell? ⟨A,1,none⟩=some (.int .i64 at_)) (hZA:¬ Z A) :
    CallsIn FX m Tryz.prog 75 #[.pointer (some ⟨A,0,none⟩),pp b,.int .i64 n,.func (.func f) #[] caps] w (TkO fi at_ mu (s.drop (s.length - n)) Z w):=by
  have h1:=hro
  have h2:=hdp
  have k1:FX.fn 22:=FX_fn (by decide)
  obtain ⟨W1,hW1⟩ : ∃ W1,((((w.alloc (.cells #[.pointer (some ⟨A,0,none⟩)] 63)).alloc (.cells #[.int .i64 n] 3)).alloc (.cells #[.func (.func f) #[] caps] 125)).alloc (.cells #[.int .i64 0] 3)).alloc (.cells #[.int .i64 0] 3)=W1:=⟨_,rfl⟩
  have B1:Below w.heap.size w W1:=by rw [← hW1];exact (((((Below.refl _ _).alloc (Nat.le_refl _) _).alloc (by simp) _).alloc (by simp;omega) _).alloc (by simp;omega) _).alloc (by simp;omega) _
  have z1:W1.heap.size=w.heap.size+5:=by rw [← hW1];simp
  have e0:W1.heap[w.heap.size]?=some (.cells #[.pointer (some ⟨A,0,none⟩)] 63 (0,0)):=by rw [← hW1,Below.heap_alloc _ _ _ (by simp;omega),Below.heap_alloc _ _ _ (by simp;omega),Below.heap_alloc _ _ _ (by simp;omega),Below.heap_alloc _ _ _ (by simp)];exact heap_new _ _ rfl
  have e1:W1.heap[w.heap.size+1]?=some (.cells #[.int .i64 n] 3 (0,0)):=by rw [← hW1,Below.heap_alloc _ _ _ (by simp),Below.heap_alloc _ _ _ (by simp),Below.heap_alloc _ _ _ (by simp)];exact heap_new _ _ (by simp)
  have e2:W1.heap[w.heap.size+2]?=some (.cells #[.func (.func f) #[] caps] 125 (0,0)):=by rw [← hW1,Below.heap_alloc _ _ _ (by simp),Below.heap_alloc _ _ _ (by simp)];exact heap_new _ _ (by simp)
  have e3:W1.heap[w.heap.size+3]?=some (.cells #[.int .i64 0] 3 (0,0)):=by rw [← hW1,Below.heap_alloc _ _ _ (by simp)];exact heap_new _ _ (by simp)
  have e4:W1.heap[w.heap.size+4]?=some (.cells #[.int .i64 0] 3 (0,0)):=by rw [← hW1];exact heap_new _ _ (by simp)
  have cn:W1.cell? ⟨w.heap.size+1,0,none⟩=some (.int .i64 n):=cell_of e1 rfl
  have CD:=hide (down_in (w:=W1) (F:=FX) (m:=m - 1) (FX_fn (by decide)) hro b n)
  have HB1:=hide B1
  have HZ1:=hide z1
  have E0:=hide e0
  have E1:=hide e1
  have E2:=hide e2
  have E3:=hide e3
  have E4:=hide e4
  have HC:=hide C
  have HU:=hide hU
  have HP:=hide P
  have HA:=hide hA
  have HZA:=hide hZA
  have HN:=hide hn
  have HS:=hide hs
  clear B1 z1 e0 e1 e2 e3 e4 C hU P hA hZA hn hs
  refine callsIn_of_wp_marks Tryz.func75 rfl (FX_fn (by decide)) ?_ hro
  simp only [Tryz.ntmps75,List.size_toArray,List.length_cons,List.length_nil,Nat.reduceAdd,Nat.reduceSub,Array.replicate_succ,Array.replicate_zero,List.push_toArray,List.append_toArray,List.nil_append,List.cons_append]
  gi_wp2_with fail
  refine CallsIn.mono CD.out ?_
  rintro e w2 ⟨rfl,hw2⟩
  have Z2:=hide (show w2.heap.size=w.heap.size+7 by rw [hw2];have:=HZ1.out;simp;omega)
  have B2:=hide (show Below W1.heap.size W1 w2 from by rw [hw2];exact ((Below.refl _ _).alloc (Nat.le_refl _) _).alloc (by simp) _)
  have EP:=hide (show w2.heap[w.heap.size+5]?=some (.cells #[pp b] 43 (0,0)) from by rw [hw2,Below.heap_alloc _ _ _ (by have:=HZ1.out;simp;omega)];exact heap_new _ _ HZ1.out.symm)
  have EN:=hide (show w2.heap[w.heap.size+6]?=some (.cells #[.int .i64 n] 3 (0,0)) from by rw [hw2];exact heap_new _ _ (by have:=HZ1.out;simp;omega))
  clear hw2 CD hW1 cn
  gi_wp2_with fail
  simp only [Nat.add_assoc,Nat.reduceAdd]
  refine range_of hro (by intro h;cases h) (gf:=39) (lb:=#[.pointer (some ⟨W1.heap.size+1,0,none⟩),.pointer (some ⟨W1.heap.size,0,none⟩)]) rfl (FX_fn (by decide)) (enters_of Tryz.func39 (by kernel_rfl) rfl) ?_
  intro fn hfn
  obtain ⟨gf,hgf⟩:=FX_ex hfn
  generalize hrec:recL fn _ _ _ _ w2.heap.size=rec
  dsimp only
  obtain ⟨W3,hW3⟩ : ∃ W3,(w2.alloc (.deferred (some []))).alloc (.loop (rec .ready none))=W3:=⟨_,rfl⟩
  rw [hW3]
  have z1:=HZ1.out
  have z2:=Z2.out
  have zW:W3.heap.size=w.heap.size+9:=by rw [← hW3];simp;omega
  have eL:W3.heap[w2.heap.size+1]?=some (.loop (rec .ready none)):=by rw [← hW3];exact heap_new _ _ (by simp)
  have eD:W3.heap[w2.heap.size]?=some (.deferred (some [])):=by rw [← hW3,Below.heap_alloc _ _ _ (by simp)];exact heap_new _ _ rfl
  have bW:Below w2.heap.size w2 W3:=by rw [← hW3];exact ((Below.refl _ _).alloc (Nat.le_refl _) _).alloc (by simp) _
  have b13:Below W1.heap.size W1 W3:=B2.out.trans (bW.mono (by omega))
  have bw3:Below w.heap.size w W3:=HB1.out.trans (b13.mono (by omega))
  clear hW3
  obtain ⟨ks,hks⟩ : ∃ ks,s.drop (s.length - n)=ks:=⟨_,rfl⟩
  rw [hks] at HC ⊢
  have hkl:ks.length=n:=by rw [← hks,List.length_drop];have:=HN.out;omega
  obtain ⟨B,hB⟩ : ∃ B,w.heap.size=B:=⟨_,rfl⟩
  rw [hB] at HC z1 z2 zW E0 E1 E2 E3 E4 EP EN
  have hlA:A<w.heap.size:=World.block_lt_of_cell? w ⟨A,0,none⟩ HA.out.1
  have hA3:∀ W,Kp Z w W→W.cell? ⟨A,0,none⟩=some (.int .i64 fi)∧W.cell? ⟨A,1,none⟩=some (.int .i64 at_):=fun W h=>⟨(World.cell?_of_block (a:=⟨A,0,none⟩) (h.block A hlA HZA.out)).trans HA.out.1,(World.cell?_of_block (a:=⟨A,1,none⟩) (h.block A hlA HZA.out)).trans HA.out.2⟩
  have S0:TkS A Z f caps mu ks U w B w2.heap.size 0 W3:=⟨HC.out.st _ _ _ HU.out (fun j hj=>bw3.block j (by omega)),fun i h1 h2=>by omega,(b13.block _ (by omega)).trans E0.out,by rw [hkl];exact (b13.block _ (by omega)).trans E1.out,(b13.block _ (by omega)).trans E2.out,(b13.block _ (by omega)).trans E3.out,(b13.block _ (by omega)).trans E4.out,eD,Kp.of_below bw3⟩
  have hst:∀ {k:Nat} {W W' : World},TkS A Z f caps mu ks U w B w2.heap.size k W→∀ {Q:Nat→Prop},Kp Q W W'→(∀ j,Q j→w2.heap.size<j)→TkS A Z f caps mu ks U w B w2.heap.size k W':=fun S _ h hQ=>S.keep hB HC.out (by omega) h hQ
  refine CallsIn.mono (down1_in (X:=fun j=>Z j∨j=B+3∨j=B+4∨j=w2.heap.size+1) (D:=W3.heap.size) (l:=w2.heap.size+1) (n:=n) (s:=s) (nb:=W1.heap.size+1) (pb:=W1.heap.size) (b:=b) (E:=E)
    (J:=fun k W=>TkS A Z f caps mu ks U w B w2.heap.size k W∧W.heap[w2.heap.size+1]?=some (.loop (rec .ready none)))
    (Jp:=fun ch W=>ch=fch fi at_ 8∧mu.fine ks=false∧Kp Z w W∧W.heap[w2.heap.size]?=some (.deferred (some [])))
    ⟨HN.out,HS.out,?hX,?st,?stp,?yi⟩ ?hp rfl ⟨S0,eL⟩ ?cn ?cp) ?fin
  case hX =>
   rintro j (h | h | h | h)
   · have:=HC.out.low j h
     omega
   · omega
   · omega
   · omega
  case st =>
   rintro k W W' ⟨S,hl⟩ h
   exact ⟨hst S h (fun j hj=>by have:W3.heap.size≤j:=hj;omega),(h.block _ (lt_of_block hl) (by show ¬ W3.heap.size≤_;omega)).trans hl⟩
  case stp =>
   rintro ch W W' ⟨h1,h2,h3,h4⟩ h
   refine ⟨h1,h2,⟨h.os.trans h3.os,h.tape.trans h3.tape,h.output.trans h3.output,Nat.le_trans h3.size h.size,fun j hj hz=>(h.block j (Nat.lt_of_lt_of_le hj h3.size) (by show ¬ W3.heap.size≤j;omega)).trans (h3.block j hj hz)⟩,(h.block _ (lt_of_block h4) (by show ¬ W3.heap.size≤_;omega)).trans h4⟩
  case hp =>
   refine (PileAt.sub (fun j hj hx=>?_) (HP.out.upto (Nat.le_of_eq hB))).keep ((Kp.of_below bw3).mono (fun _ h=>h))
   rcases hx with h | h
   · exact .inl h
   · right;omega
  case cn=>exact cell_of ((bW.block _ (by omega)).trans (by rw [show W1.heap.size+1=B+6 by omega];exact EN.out)) rfl
  case cp=>exact cell_of ((bW.block _ (by omega)).trans (by rw [show W1.heap.size=B+5 by omega];exact EP.out)) rfl
  case yi =>
   rintro k W ⟨S,hl⟩ hk x hx
   have hl':=hl
   rw [← hrec] at hl'
   have hxk:ks[ks.length - 1 - k]?=some x:=by
    rw [hkl,← hks,List.getElem?_drop,show s.length - n+(n - 1 - k)=s.length - 1 - k by have:=HN.out;omega]
    exact hx
   refine yield_of (a₁:=⟨#[.pointer (some ⟨A,0,none⟩),pp b,.int .i64 n,.func (.func f) #[] caps,.pointer (some ⟨w.heap.size,0,none⟩),undef,.pointer (some ⟨w.heap.size+1,0,none⟩),.pointer (some ⟨w.heap.size+2,0,none⟩),.pointer (some ⟨w.heap.size+3,0,none⟩),.pointer (some ⟨w.heap.size+4,0,none⟩),.int .i64 ((n - 1 - k:Nat):Int),.int .i64 x,pp b,.int .i64 n,.func (.func 39) #[] #[.pointer (some ⟨W1.heap.size+1,0,none⟩),.pointer (some ⟨W1.heap.size,0,none⟩)],.int .i64 ((n - 1 - k:Nat):Int),.int .i64 x,undef,undef,undef,undef,undef,undef,undef,undef,undef,undef,undef,undef,undef,undef,undef,undef,undef],[]⟩) hfn hgf hl' rfl ?assign ?body
   case assign =>
    clear hB z1 z2
    intro K hK
    gi_wp2
    exact hK
   case body =>
    rw [hrec]
    have hlt2:w2.heap.size+1<W.heap.size:=lt_of_block hl
    have SB:=hst S (But.put W (w2.heap.size+1) (.loop (rec .busy none))).kp (fun j hj=>by subst hj;omega)
    have KB:Kp (fun j=>j=w2.heap.size+1) W (W.putObj (w2.heap.size+1) (.loop (rec .busy none))):=(But.put W _ _).kp
    have LB:(W.putObj (w2.heap.size+1) (.loop (rec .busy none))).heap[w2.heap.size+1]?=some (.loop (rec .busy none)):=World.putObj_heap_same hlt2
    generalize W.putObj (w2.heap.size+1) (.loop (rec .busy none))=WB at *
    have i0:WB.cell? ⟨B,0,none⟩=some (.pointer (some ⟨A,0,none⟩)):=cell_of SB.e0 rfl
    have i1:WB.cell? ⟨B+1,0,none⟩=some (.int .i64 n):=by rw [← hkl];exact cell_of SB.e1 rfl
    have i2:WB.cell? ⟨B+2,0,none⟩=some (.func (.func f) #[] caps):=cell_of SB.e2 rfl
    obtain ⟨a0,a1⟩:=hA3 WB SB.kp
    have CF:=hide (HC.out.call k WB.drew (HC.out.st _ _ _ SB.u (fun _ _=>rfl)) (by omega) x hxk)
    have en':=HC.out.en (#[.int .i64 ((ks.length - 1 - k:Nat):Int),.int .i64 x]++caps) WB.drew
    have kf:=HC.out.fn
    have kr:FX.fn 70:=FX_fn (by decide)
    have HSB:=hide SB
    have HKB:=hide KB
    have HLB:=hide LB
    have HXK:=hide hxk
    have HK:=hide hk
    have HS0:=hide S
    rw [hkl] at CF en'
    rw [hB]
    generalize hok:mu.at (n - 1 - k) ((ks[1]?).getD 0) x=okk at *
    have HOK:=hide hok
    clear S hl hl' SB KB LB hxk hx hok z1 z2 zW eL eD bW b13 bw3 S0 hlt2
    have HRQ:=hide (fun (V:World)=>require_in (w:=V) (m:=m - 1 - 1 - 1 - 1 - 1) fi at_ 8 okk)
    have HA4:=hide (show ∀ V,Kp Z WB.drew V→V.cell? ⟨A,0,none⟩=some (.int .i64 fi)∧V.cell? ⟨A,1,none⟩=some (.int .i64 at_)∧V.cell? ⟨B,0,none⟩=some (.pointer (some ⟨A,0,none⟩)) from fun V h=>by
     have hk:Kp Z w V:=HSB.out.kp.trans ((Kp.drew Z WB).trans h)
     refine ⟨(hA3 V hk).1,(hA3 V hk).2,cell_of ((h.block B (lt_of_block HSB.out.e0) (fun hz=>?_)).trans HSB.out.e0) rfl⟩
     have:=HC.out.low _ hz
     omega)
    have HBAD:=hide (show okk=false→∀ V V',Kp Z WB.drew V→Below V.heap.size V V'→(mu.fine ks=false∧Kp Z w V'∧V'.heap[w2.heap.size]?=some (.deferred (some [])))∧Kp (fun j=>Z j∨j=B+3∨j=B+4∨j=w2.heap.size+1) W V' from fun ho V V' h hb=>by
     have hk:Kp Z WB V':=(Kp.drew Z WB).trans (h.trans (Kp.of_below hb))
     refine ⟨⟨okd_not (i:=n - 1 - k) (by have:=HK.out;omega) ?_,HSB.out.kp.trans hk,(hk.block _ (lt_of_block HSB.out.d2) (fun hz=>by have:=HC.out.low _ hz;have:=Z2.out;omega)).trans HSB.out.d2⟩,(HKB.out.mono fun j hj=>.inr (.inr (.inr hj))).trans (hk.mono fun j hj=>.inl hj)⟩
     rw [← hkl,HXK.out,hkl]
     exact HOK.out.trans ho)
    have HGD:=hide (show okk=true→∀ V V',U (k+1) V→Kp Z WB.drew V→Below V.heap.size V V'→V'.cell? ⟨B+1,0,none⟩=some (.int .i64 n)∧V'.frozen? ⟨B+3,0,none⟩=false∧V'.frozen? ⟨B+4,0,none⟩=false∧V'.cell? ⟨B+3,0,none⟩=some (.int .i64 (topK ks k))∧V'.cell? ⟨B+4,0,none⟩=some (.int .i64 (lowK ks k))∧B+3<V'.heap.size∧B+4<V'.heap.size ∧
        (∀ F,(if k=0 then (V'.setCell ⟨B+3,0,none⟩ (.int .i64 x)).setCell ⟨B+4,0,none⟩ (.int .i64 x) else V'.setCell ⟨B+4,0,none⟩ (.int .i64 x))=F→F.heap[w2.heap.size+1]?=some (.loop (rec .busy none)) ∧
          (TkS A Z f caps mu ks U w B w2.heap.size (k+1) (F.putObj (w2.heap.size+1) (.loop (rec .ready none)))∧(F.putObj (w2.heap.size+1) (.loop (rec .ready none))).heap[w2.heap.size+1]?=some (.loop (rec .ready none))) ∧
          Kp (fun j=>Z j∨j=B+3∨j=B+4∨j=w2.heap.size+1) W (F.putObj (w2.heap.size+1) (.loop (rec .ready none)))) from fun ho V V' hu h hb=>by
      have hk' : Kp Z WB V':=(Kp.drew Z WB).trans (h.trans (Kp.of_below hb))
      have hZ:∀ j,B≤j→¬ Z j:=fun j hj hz=>by have:=HC.out.low _ hz;omega
      have g:∀ {j:Nat} {o:Obj},B≤j→WB.heap[j]?=some o→V'.heap[j]?=some o:=fun hj ho=>(hk'.block _ (lt_of_block ho) (hZ _ hj)).trans ho
      have z2:=Z2.out
      have S:=HSB.out
      have e1:=g (by omega) S.e1
      have e3:=g (by omega) S.e3
      have e4:=g (by omega) S.e4
      have eL:=g (j:=w2.heap.size+1) (by omega) HLB.out
      have eD:=g (j:=w2.heap.size) (by omega) S.d2
      have l4:=lt_of_block e4
      have lL:=lt_of_block eL
      refine ⟨by rw [← hkl];exact cell_of e1 rfl,by simp [World.frozen?,e3],by simp [World.frozen?,e4],cell_of e3 rfl,cell_of e4 rfl,by omega,l4,fun F hF=>?_⟩
      have q:(∀ j,j≠B+3→j≠B+4→F.heap[j]?=V'.heap[j]?)∧F.heap[B+3]?=some (.cells #[.int .i64 (topK ks (k+1))] 3 (0,0))∧F.heap[B+4]?=some (.cells #[.int .i64 (lowK ks (k+1))] 3 (0,0))∧F.heap.size=V'.heap.size∧F.os=V'.os∧F.tape=V'.tape∧F.output=V'.output:=by
       rw [lowK_next (by have:=HK.out;omega) HXK.out]
       by_cases h0:k=0
       · rw [if_pos h0] at hF
         subst hF
         subst h0
         rw [topK_first HXK.out]
         refine ⟨fun j h3 h4=>(Below.heap_setCell _ _ _ j h4).trans (Below.heap_setCell _ _ _ j h3),(Below.heap_setCell _ _ _ _ (by show B+3≠B+4;omega)).trans (heap_setCell_same _ (B+3) 0 _ e3),heap_setCell_same _ (B+4) 0 _ ((Below.heap_setCell _ _ _ _ (by show B+4≠B+3;omega)).trans e4),by rw [World.size_setCell,World.size_setCell],rfl,rfl,rfl⟩
       · rw [if_neg h0] at hF
         subst hF
         rw [topK_later (by omega)]
         refine ⟨fun j _ h4=>Below.heap_setCell _ _ _ j h4,(Below.heap_setCell _ _ _ _ (by show B+3≠B+4;omega)).trans e3,heap_setCell_same _ (B+4) 0 _ e4,by rw [World.size_setCell],rfl,rfl,rfl⟩
      obtain ⟨q1,q3,q4,qz,qo,qt,qu⟩:=q
      clear hF
      have hl:F.heap[w2.heap.size+1]?=some (.loop (rec .busy none)):=(q1 _ (by omega) (by omega)).trans eL
      have kF:Kp (fun j=>j=w2.heap.size+1) F (F.putObj (w2.heap.size+1) (.loop (rec .ready none))):=(But.put F _ _).kp
      have hr:(F.putObj (w2.heap.size+1) (.loop (rec .ready none))).heap[w2.heap.size+1]?=some (.loop (rec .ready none)):=World.putObj_heap_same (lt_of_block hl)
      generalize F.putObj (w2.heap.size+1) (.loop (rec .ready none))=F' at *
      have p:∀ {j:Nat} {o:Obj},j≠w2.heap.size+1→F.heap[j]?=some o→F'.heap[j]?=some o:=fun hj ho=>(kF.block _ (lt_of_block ho) hj).trans ho
      have r:∀ {j:Nat} {o:Obj},B≤j→j≠B+3→j≠B+4→j≠w2.heap.size+1→WB.heap[j]?=some o→F'.heap[j]?=some o:=fun h1 h3 h4 h5 ho=>p h5 ((q1 _ h3 h4).trans (g h1 ho))
      have lo:∀ j,j<B→F'.heap[j]?=V'.heap[j]?:=fun j hj=>(kF.block j (by omega) (by omega)).trans (q1 j (by omega) (by omega))
      have hzB:B≤V.heap.size:=Nat.le_trans (by omega) (Nat.le_trans (Nat.le_of_lt (lt_of_block S.e0)) h.size)
      refine ⟨hl,⟨⟨HC.out.st _ _ _ hu (fun j hj=>(lo j hj).trans (hb.block j (by omega))),okd_next S.ok (by have:=HK.out;omega) HXK.out (by rw [hkl];exact HOK.out.trans ho),r (by omega) (by omega) (by omega) (by omega) S.e0,r (by omega) (by omega) (by omega) (by omega) S.e1,r (by omega) (by omega) (by omega) (by omega) S.e2,p (by omega) q3,p (by omega) q4,r (by omega) (by omega) (by omega) (by omega) S.d2,?_⟩,hr⟩,?_⟩
      · exact ⟨kF.os.trans (qo.trans (hk'.os.trans S.kp.os)),kF.tape.trans (qt.trans (hk'.tape.trans S.kp.tape)),kF.output.trans (qu.trans (hk'.output.trans S.kp.output)),Nat.le_trans S.kp.size (Nat.le_trans hk'.size (Nat.le_trans (Nat.le_of_eq qz.symm) kF.size)),fun j hj hz=>(lo j (by omega)).trans ((hk'.block j (Nat.lt_of_lt_of_le hj S.kp.size) hz).trans (S.kp.block j hj hz))⟩
      · have k1:=HKB.out
        exact ⟨kF.os.trans (qo.trans (hk'.os.trans k1.os)),kF.tape.trans (qt.trans (hk'.tape.trans k1.tape)),kF.output.trans (qu.trans (hk'.output.trans k1.output)),Nat.le_trans k1.size (Nat.le_trans hk'.size (Nat.le_trans (Nat.le_of_eq qz.symm) kF.size)),fun j hj hx=>(kF.block j (by have:=k1.size;have:=hk'.size;omega) (fun h=>hx (.inr (.inr (.inr h))))).trans ((q1 j (fun h=>hx (.inr (.inl h))) (fun h=>hx (.inr (.inr (.inl h))))).trans ((hk'.block j (Nat.lt_of_lt_of_le hj k1.size) (fun h=>hx (.inl h))).trans (k1.block j hj (fun h=>hx (.inr (.inr (.inr h)))))))⟩)
    have HWN:=hide (show IntKind.i64.wrap ((n:Int) - 1)=(n:Int) - 1∧(k=0→((n - 1 - k:Nat):Int)=(n:Int) - 1)∧(k≠0→¬ ((n - 1 - k:Nat):Int)=(n:Int) - 1) from by
     have:=HK.out
     have:=HN.out
     have:=HS.out
     refine ⟨?_,by omega,by omega⟩
     rw [show (n:Int) - 1=((n - 1:Nat):Int) by omega]
     exact wrap_nat (by omega))
    gi_wp2_with fail
    rename_i K1 hK1
    refine wpIn_region_any (by kernel_rfl) ?_
    refine any_inRound (by kernel_rfl) rfl ?_
    change wpAnyIn _ _ _ _ _ _ _ _ _ (World.drew _)
    refine wpAnyIn_take (i:=5) (v:=?_) rfl rfl (by kernel_rfl) (by kernel_rfl) (by kernel_rfl) (fun _ _ _ h=>h) ⟨Or.inl ⟨by rfl,?_⟩,fun _=>rfl⟩ ?_
    rotate_left 1
    · (intro w;go_simp;try with_reducible rfl)
    refine wpAnyIn_take (i:=6) (v:=?_) rfl rfl (by kernel_rfl) (by kernel_rfl) (by kernel_rfl) (fun _ _ _ h=>h) ⟨Or.inl ⟨by rfl,?_⟩,fun _=>rfl⟩ ?_
    rotate_left 1
    · (intro w;go_simp;try with_reducible rfl)
    refine wpAnyIn_ready (rs:=[0,4]) (by kernel_rfl) (by simp) ?_
    refine AllReadyIn.cons rfl (fun K hK=>?_) ?_
    · go_simp
      refine hK _ _ ?_
      clear hK K
      refine wpAnyIn_take (i:=1) (v:=?_) rfl rfl (by kernel_rfl) (by kernel_rfl) (by kernel_rfl) (fun _ _ _ h=>h) ⟨Or.inl ⟨by rfl,?_⟩,fun _=>rfl⟩ ?_
      rotate_left 1
      · (intro w;go_simp;try with_reducible rfl)
      refine wpAnyIn_take (i:=2) (v:=?_) rfl rfl (by kernel_rfl) (by kernel_rfl) (by kernel_rfl) (fun _ _ _ h=>h) ⟨Or.inl ⟨by rfl,?_⟩,fun _=>rfl⟩ ?_
      rotate_left 1
      · (intro w;go_simp;try with_reducible rfl)
      refine wpAnyIn_ready (rs:=[3,4]) (by kernel_rfl) (by simp) ?_
      refine AllReadyIn.cons rfl (fun K hK=>?_) ?_
      · go_simp
        refine hK _ _ ?_
        clear hK K
        refine wpAnyIn_ready (rs:=[4]) (by kernel_rfl) (by simp) ?_
        refine AllReadyIn.cons rfl (fun K hK=>?_) AllReadyIn.nil
        go_simp
        refine hK _ _ ?_
        clear hK K
        refine wpAnyIn_ready (rs:=[7]) (by kernel_rfl) (by simp) ?_
        refine AllReadyIn.cons rfl (fun K hK=>?_) AllReadyIn.nil
        go_simp
        gi_wp2_with (refine CallsIn.mono CF.out ?_;rintro e W4 ⟨rfl,hU4,hK4⟩;obtain ⟨a0',a1',a2'⟩:=HA4.out W4 hK4)
        refine wpAnyIn_ready (rs:=[8]) (by kernel_rfl) (by simp) ?_
        refine AllReadyIn.cons rfl (fun K hK=>?_) AllReadyIn.nil
        go_simp
        gi_wp2_with (refine CallsIn.mono (HRQ.out _) ?_;rintro e W5 ⟨(⟨hk5,rfl⟩ | ⟨hk5,rfl⟩),hb5⟩;rotate_left;exact ⟨rfl,.inr ⟨_,rfl,⟨rfl,(HBAD.out hk5 W4 W5 hK4 hb5).1⟩,(HBAD.out hk5 W4 W5 hK4 hb5).2⟩⟩)
        refine wpAnyIn_done (by kernel_rfl) ?_ _
        refine hK1 _ _ ?_
        obtain ⟨c1,f3,f4,c3,c4,l3,l4,hF⟩:=HGD.out hk5 W4 W5 hU4 hK4 hb5
        obtain ⟨hw,hq0,hq1⟩:=HWN.out
        by_cases h0:k=0
        · have hq:=hq0 h0
          have HF:=hide (hF _ (if_pos h0))
          clear hq0 hq1 hF h0
          gi_wp2
          exact ⟨HF.out.1,.inl ⟨rfl,HF.out.2⟩⟩
        · have hq:=hq1 h0
          have HF:=hide (hF _ (if_neg h0))
          clear hq0 hq1 hF h0
          gi_wp2
          exact ⟨HF.out.1,.inl ⟨rfl,HF.out.2⟩⟩
      refine AllReadyIn.cons rfl (fun K hK=>?_) AllReadyIn.nil
      go_simp
      refine hK _ _ ?_
      clear hK K
      refine wpAnyIn_ready (rs:=[3,7]) (by kernel_rfl) (by simp) ?_
      refine AllReadyIn.cons rfl (fun K hK=>?_) ?_
      · go_simp
        refine hK _ _ ?_
        clear hK K
        refine wpAnyIn_ready (rs:=[7]) (by kernel_rfl) (by simp) ?_
        refine AllReadyIn.cons rfl (fun K hK=>?_) AllReadyIn.nil
        go_simp
        gi_wp2_with (refine CallsIn.mono CF.out ?_;rintro e W4 ⟨rfl,hU4,hK4⟩;obtain ⟨a0',a1',a2'⟩:=HA4.out W4 hK4)
        refine wpAnyIn_ready (rs:=[8]) (by kernel_rfl) (by simp) ?_
        refine AllReadyIn.cons rfl (fun K hK=>?_) AllReadyIn.nil
        go_simp
        gi_wp2_with (refine CallsIn.mono (HRQ.out _) ?_;rintro e W5 ⟨(⟨hk5,rfl⟩ | ⟨hk5,rfl⟩),hb5⟩;rotate_left;exact ⟨rfl,.inr ⟨_,rfl,⟨rfl,(HBAD.out hk5 W4 W5 hK4 hb5).1⟩,(HBAD.out hk5 W4 W5 hK4 hb5).2⟩⟩)
        refine wpAnyIn_done (by kernel_rfl) ?_ _
        refine hK1 _ _ ?_
        obtain ⟨c1,f3,f4,c3,c4,l3,l4,hF⟩:=HGD.out hk5 W4 W5 hU4 hK4 hb5
        obtain ⟨hw,hq0,hq1⟩:=HWN.out
        by_cases h0:k=0
        · have hq:=hq0 h0
          have HF:=hide (hF _ (if_pos h0))
          clear hq0 hq1 hF h0
          gi_wp2
          exact ⟨HF.out.1,.inl ⟨rfl,HF.out.2⟩⟩
        · have hq:=hq1 h0
          have HF:=hide (hF _ (if_neg h0))
          clear hq0 hq1 hF h0
          gi_wp2
          exact ⟨HF.out.1,.inl ⟨rfl,HF.out.2⟩⟩
      refine AllReadyIn.cons rfl (fun K hK=>?_) AllReadyIn.nil
      go_simp
      gi_wp2_with (refine CallsIn.mono CF.out ?_;rintro e W4 ⟨rfl,hU4,hK4⟩;obtain ⟨a0',a1',a2'⟩:=HA4.out W4 hK4)
      refine wpAnyIn_ready (rs:=[3]) (by kernel_rfl) (by simp) ?_
      refine AllReadyIn.cons rfl (fun K hK=>?_) AllReadyIn.nil
      go_simp
      refine hK _ _ ?_
      clear hK K
      refine wpAnyIn_ready (rs:=[8]) (by kernel_rfl) (by simp) ?_
      refine AllReadyIn.cons rfl (fun K hK=>?_) AllReadyIn.nil
      go_simp
      gi_wp2_with (refine CallsIn.mono (HRQ.out _) ?_;rintro e W5 ⟨(⟨hk5,rfl⟩ | ⟨hk5,rfl⟩),hb5⟩;rotate_left;exact ⟨rfl,.inr ⟨_,rfl,⟨rfl,(HBAD.out hk5 W4 W5 hK4 hb5).1⟩,(HBAD.out hk5 W4 W5 hK4 hb5).2⟩⟩)
      refine wpAnyIn_done (by kernel_rfl) ?_ _
      refine hK1 _ _ ?_
      obtain ⟨c1,f3,f4,c3,c4,l3,l4,hF⟩:=HGD.out hk5 W4 W5 hU4 hK4 hb5
      obtain ⟨hw,hq0,hq1⟩:=HWN.out
      by_cases h0:k=0
      · have hq:=hq0 h0
        have HF:=hide (hF _ (if_pos h0))
        clear hq0 hq1 hF h0
        gi_wp2
        exact ⟨HF.out.1,.inl ⟨rfl,HF.out.2⟩⟩
      · have hq:=hq1 h0
        have HF:=hide (hF _ (if_neg h0))
        clear hq0 hq1 hF h0
        gi_wp2
        exact ⟨HF.out.1,.inl ⟨rfl,HF.out.2⟩⟩
    refine AllReadyIn.cons rfl (fun K hK=>?_) AllReadyIn.nil
    go_simp
    refine hK _ _ ?_
    clear hK K
    refine wpAnyIn_ready (rs:=[0,7]) (by kernel_rfl) (by simp) ?_
    refine AllReadyIn.cons rfl (fun K hK=>?_) ?_
    · go_simp
      refine hK _ _ ?_
      clear hK K
      refine wpAnyIn_take (i:=1) (v:=?_) rfl rfl (by kernel_rfl) (by kernel_rfl) (by kernel_rfl) (fun _ _ _ h=>h) ⟨Or.inl ⟨by rfl,?_⟩,fun _=>rfl⟩ ?_
      rotate_left 1
      · (intro w;go_simp;try with_reducible rfl)
      refine wpAnyIn_take (i:=2) (v:=?_) rfl rfl (by kernel_rfl) (by kernel_rfl) (by kernel_rfl) (fun _ _ _ h=>h) ⟨Or.inl ⟨by rfl,?_⟩,fun _=>rfl⟩ ?_
      rotate_left 1
      · (intro w;go_simp;try with_reducible rfl)
      refine wpAnyIn_ready (rs:=[3,7]) (by kernel_rfl) (by simp) ?_
      refine AllReadyIn.cons rfl (fun K hK=>?_) ?_
      · go_simp
        refine hK _ _ ?_
        clear hK K
        refine wpAnyIn_ready (rs:=[7]) (by kernel_rfl) (by simp) ?_
        refine AllReadyIn.cons rfl (fun K hK=>?_) AllReadyIn.nil
        go_simp
        gi_wp2_with (refine CallsIn.mono CF.out ?_;rintro e W4 ⟨rfl,hU4,hK4⟩;obtain ⟨a0',a1',a2'⟩:=HA4.out W4 hK4)
        refine wpAnyIn_ready (rs:=[8]) (by kernel_rfl) (by simp) ?_
        refine AllReadyIn.cons rfl (fun K hK=>?_) AllReadyIn.nil
        go_simp
        gi_wp2_with (refine CallsIn.mono (HRQ.out _) ?_;rintro e W5 ⟨(⟨hk5,rfl⟩ | ⟨hk5,rfl⟩),hb5⟩;rotate_left;exact ⟨rfl,.inr ⟨_,rfl,⟨rfl,(HBAD.out hk5 W4 W5 hK4 hb5).1⟩,(HBAD.out hk5 W4 W5 hK4 hb5).2⟩⟩)
        refine wpAnyIn_done (by kernel_rfl) ?_ _
        refine hK1 _ _ ?_
        obtain ⟨c1,f3,f4,c3,c4,l3,l4,hF⟩:=HGD.out hk5 W4 W5 hU4 hK4 hb5
        obtain ⟨hw,hq0,hq1⟩:=HWN.out
        by_cases h0:k=0
        · have hq:=hq0 h0
          have HF:=hide (hF _ (if_pos h0))
          clear hq0 hq1 hF h0
          gi_wp2
          exact ⟨HF.out.1,.inl ⟨rfl,HF.out.2⟩⟩
        · have hq:=hq1 h0
          have HF:=hide (hF _ (if_neg h0))
          clear hq0 hq1 hF h0
          gi_wp2
          exact ⟨HF.out.1,.inl ⟨rfl,HF.out.2⟩⟩
      refine AllReadyIn.cons rfl (fun K hK=>?_) AllReadyIn.nil
      go_simp
      gi_wp2_with (refine CallsIn.mono CF.out ?_;rintro e W4 ⟨rfl,hU4,hK4⟩;obtain ⟨a0',a1',a2'⟩:=HA4.out W4 hK4)
      refine wpAnyIn_ready (rs:=[3]) (by kernel_rfl) (by simp) ?_
      refine AllReadyIn.cons rfl (fun K hK=>?_) AllReadyIn.nil
      go_simp
      refine hK _ _ ?_
      clear hK K
      refine wpAnyIn_ready (rs:=[8]) (by kernel_rfl) (by simp) ?_
      refine AllReadyIn.cons rfl (fun K hK=>?_) AllReadyIn.nil
      go_simp
      gi_wp2_with (refine CallsIn.mono (HRQ.out _) ?_;rintro e W5 ⟨(⟨hk5,rfl⟩ | ⟨hk5,rfl⟩),hb5⟩;rotate_left;exact ⟨rfl,.inr ⟨_,rfl,⟨rfl,(HBAD.out hk5 W4 W5 hK4 hb5).1⟩,(HBAD.out hk5 W4 W5 hK4 hb5).2⟩⟩)
      refine wpAnyIn_done (by kernel_rfl) ?_ _
      refine hK1 _ _ ?_
      obtain ⟨c1,f3,f4,c3,c4,l3,l4,hF⟩:=HGD.out hk5 W4 W5 hU4 hK4 hb5
      obtain ⟨hw,hq0,hq1⟩:=HWN.out
      by_cases h0:k=0
      · have hq:=hq0 h0
        have HF:=hide (hF _ (if_pos h0))
        clear hq0 hq1 hF h0
        gi_wp2
        exact ⟨HF.out.1,.inl ⟨rfl,HF.out.2⟩⟩
      · have hq:=hq1 h0
        have HF:=hide (hF _ (if_neg h0))
        clear hq0 hq1 hF h0
        gi_wp2
        exact ⟨HF.out.1,.inl ⟨rfl,HF.out.2⟩⟩
    refine AllReadyIn.cons rfl (fun K hK=>?_) AllReadyIn.nil
    go_simp
    gi_wp2_with (refine CallsIn.mono CF.out ?_;rintro e W4 ⟨rfl,hU4,hK4⟩;obtain ⟨a0',a1',a2'⟩:=HA4.out W4 hK4)
    refine wpAnyIn_ready (rs:=[0]) (by kernel_rfl) (by simp) ?_
    refine AllReadyIn.cons rfl (fun K hK=>?_) AllReadyIn.nil
    go_simp
    refine hK _ _ ?_
    clear hK K
    refine wpAnyIn_take (i:=1) (v:=?_) rfl rfl (by kernel_rfl) (by kernel_rfl) (by kernel_rfl) (fun _ _ _ h=>h) ⟨Or.inl ⟨by rfl,?_⟩,fun _=>rfl⟩ ?_
    rotate_left 1
    · (intro w;go_simp;try with_reducible rfl)
    refine wpAnyIn_take (i:=2) (v:=?_) rfl rfl (by kernel_rfl) (by kernel_rfl) (by kernel_rfl) (fun _ _ _ h=>h) ⟨Or.inl ⟨by rfl,?_⟩,fun _=>rfl⟩ ?_
    rotate_left 1
    · (intro w;go_simp;try with_reducible rfl)
    refine wpAnyIn_ready (rs:=[3]) (by kernel_rfl) (by simp) ?_
    refine AllReadyIn.cons rfl (fun K hK=>?_) AllReadyIn.nil
    go_simp
    refine hK _ _ ?_
    clear hK K
    refine wpAnyIn_ready (rs:=[8]) (by kernel_rfl) (by simp) ?_
    refine AllReadyIn.cons rfl (fun K hK=>?_) AllReadyIn.nil
    go_simp
    gi_wp2_with (refine CallsIn.mono (HRQ.out _) ?_;rintro e W5 ⟨(⟨hk5,rfl⟩ | ⟨hk5,rfl⟩),hb5⟩;rotate_left;exact ⟨rfl,.inr ⟨_,rfl,⟨rfl,(HBAD.out hk5 W4 W5 hK4 hb5).1⟩,(HBAD.out hk5 W4 W5 hK4 hb5).2⟩⟩)
    refine wpAnyIn_done (by kernel_rfl) ?_ _
    refine hK1 _ _ ?_
    obtain ⟨c1,f3,f4,c3,c4,l3,l4,hF⟩:=HGD.out hk5 W4 W5 hU4 hK4 hb5
    obtain ⟨hw,hq0,hq1⟩:=HWN.out
    by_cases h0:k=0
    · have hq:=hq0 h0
      have HF:=hide (hF _ (if_pos h0))
      clear hq0 hq1 hF h0
      gi_wp2
      exact ⟨HF.out.1,.inl ⟨rfl,HF.out.2⟩⟩
    · have hq:=hq1 h0
      have HF:=hide (hF _ (if_neg h0))
      clear hq0 hq1 hF h0
      gi_wp2
      exact ⟨HF.out.1,.inl ⟨rfl,HF.out.2⟩⟩
  case fin =>
   rintro e W' (⟨v,rfl,S,hl⟩ | ⟨ch,rfl,h1,h2,h3,h4⟩)
   · refine .inl ⟨v,rfl,hl,?_⟩
     have SE:=hst S (But.put W' (w2.heap.size+1) (.loop (rec .exhausted none))).kp (fun j hj=>by subst hj;omega)
     generalize W'.putObj (w2.heap.size+1) (.loop (rec .exhausted none))=W9 at *
     have HSE:=hide SE
     have c3:W9.cell? ⟨B+3,0,none⟩=some (.int .i64 (topK ks n)):=cell_of SE.e3 rfl
     have c4:W9.cell? ⟨B+4,0,none⟩=some (.int .i64 (lowK ks n)):=cell_of SE.e4 rfl
     have f3:W9.frozen? ⟨B+3,0,none⟩=false:=by simp [World.frozen?,SE.e3]
     have f4:W9.frozen? ⟨B+4,0,none⟩=false:=by simp [World.frozen?,SE.e4]
     have l3:=lt_of_block SE.e3
     have l4:=lt_of_block SE.e4
     have HWF:=hide (show ∀ WF,((W9.setCell ⟨B+3,0,none⟩ (.int .i64 (topK ks n))).setCell ⟨B+4,0,none⟩ (.int .i64 (lowK ks n))).drew=WF→WF.heap[B+3]?=some (.cells #[.int .i64 (topK ks n)] 3 (0,0))∧WF.heap[B+4]?=some (.cells #[.int .i64 (lowK ks n)] 3 (0,0))∧WF.heap[w2.heap.size]?=some (.deferred (some []))∧Kp Z w WF from fun WF h=>by
      subst h
      have a3:=heap_setCell_same W9 (B+3) 0 (.int .i64 (topK ks n)) SE.e3
      have k1:∀ j,j≠B+3→(W9.setCell ⟨B+3,0,none⟩ (.int .i64 (topK ks n))).heap[j]?=W9.heap[j]?:=fun j hj=>Below.heap_setCell _ _ _ j hj
      have k2:∀ (V:World) j,j≠B+4→((V.setCell ⟨B+4,0,none⟩ (.int .i64 (lowK ks n))).drew).heap[j]?=V.heap[j]?:=fun V j hj=>Below.heap_setCell _ _ _ j hj
      refine ⟨(k2 _ _ (by omega)).trans a3,heap_setCell_same _ (B+4) 0 _ ((k1 _ (by omega)).trans SE.e4),(k2 _ _ (by omega)).trans ((k1 _ (by omega)).trans SE.d2),⟨SE.kp.os,SE.kp.tape,SE.kp.output,?_,fun j hj hz=>(k2 _ j (by omega)).trans ((k1 j (by omega)).trans (SE.kp.block j hj hz))⟩⟩
      show w.heap.size≤((W9.setCell ⟨B+3,0,none⟩ (.int .i64 (topK ks n))).setCell ⟨B+4,0,none⟩ (.int .i64 (lowK ks n))).heap.size
      rw [World.size_setCell,World.size_setCell]
      exact SE.kp.size)
     have HFI:=hide (show mu.fine ks=true∧topK ks n=ks.getLast?.getD 0∧lowK ks n=ks.head?.getD 0 from by
      have:=SE.ok
      rw [← hkl] at this ⊢
      exact ⟨okd_all this,topK_all ks,lowK_all ks⟩)
     have HDB:=hide (show w.heap.size<w2.heap.size∧B+4<w2.heap.size by omega)
     rw [hB]
     clear SE S hl z1 z2 zW eL eD bW b13 bw3 S0
     gi_wp2_with fail
     gi_region_with (fail)
     all_goals gi_wp2
     all_goals (
       rw [hks]
       generalize hWF:((W9.setCell ⟨B+3,0,none⟩ (.int .i64 (topK ks n))).setCell ⟨B+4,0,none⟩ (.int .i64 (lowK ks n))).drew=WF
       obtain ⟨y3,y4,yd,yk⟩:=HWF.out WF hWF
       obtain ⟨g1,g2⟩:=HDB.out
       refine leave_marks (by simp) [w2.heap.size] WF (by simp) (fun d hd=>by rw [List.mem_singleton] at hd;subst hd;exact yd) fun w' hb=>?_
       have x3:w'.cell? ⟨B+3,0,none⟩=some (.int .i64 (topK ks n)):=cell_of ((hb.block _ (by simp;omega)).trans y3) rfl
       have x4:w'.cell? ⟨B+4,0,none⟩=some (.int .i64 (lowK ks n)):=cell_of ((hb.block _ (by simp;omega)).trans y4) rfl
       refine ⟨.tuple #[.int .i64 (topK ks n),.int .i64 (lowK ks n)],by simp [results,Tryz.results75,go_sem,x3,x4],Or.inl ⟨HFI.out.1,by rw [HFI.out.2.1,HFI.out.2.2]⟩,⟨hb.os.trans yk.os,hb.tape.trans yk.tape,hb.output.trans yk.output,by rw [hb.size];exact yk.size,fun j hj hz=>(hb.block j (by simp;omega)).trans (yk.block j hj hz)⟩⟩)
   · refine .inr (.inr ⟨ch,rfl,?_⟩)
     exact leave_marks (by simp) [w2.heap.size] W' (by simp) (fun d hd=>by rw [List.mem_singleton] at hd;subst hd;exact h4) fun w' hb=>⟨Or.inr ⟨h2,by rw [h1]⟩,⟨hb.os.trans h3.os,hb.tape.trans h3.tape,hb.output.trans h3.output,by rw [hb.size];exact h3.size,fun j hj hz=>(hb.block j (by simp;omega)).trans (h3.block j hj hz)⟩⟩
end
end Go.Proofs.YtkdojpnihinpbaaGreatDoor
