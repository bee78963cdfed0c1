/- What a kind must be: the closures, in the fence of the functions there are. -/
import Derived.Test.YtkdojpnihinpbaaGreatDoorVfIbJo
import Derived.Sort.QuietIn
import Derived.Stop.RegionWithIn
namespace Go.Proofs.YtkdojpnihinpbaaGreatDoor
open Go.RowKit Go.Shelf
attribute [local go_sem] Oper.semAt_some
theorem hro:FX.round=none:=rfl
theorem hdp:FX.depth=none:=rfl
section
variable {w:World} {m:Nat}
theorem bare_in {n:Nat} {k:Int} (hn:n≤1024) (h:isKB n k=true):CallsIn FX m Tryz.prog 102 #[.int .i64 k] w fun e w'=>e=.returned (.int .i64 (bareK k))∧w' = w:=by
 have HB:=hide (bits_bare hn h).1
 have h1:=hro
 have h2:=hdp
 have k1:FX.fn 102:=FX_fn (by decide)
 have k2:FX.fn 98:=FX_fn (by decide)
 clear h
 refine callsIn_of_wp Tryz.func102 rfl (FX_fn (by decide)) ?_ hro
 simp only [Tryz.ntmps102,List.size_toArray,List.length_cons,List.length_nil,Nat.reduceAdd,Nat.reduceSub,Array.replicate_succ,Array.replicate_zero,List.push_toArray,List.append_toArray,List.nil_append,List.cons_append]
 gi_wp2
 go_ret
 exact ⟨congrArg (fun x=>Ending.returned (Value.int .i64 x)) HB.out,rfl⟩
theorem fits_in {n:Nat} {k o:Int} (hn:n≤1024) (h:isKB n o=true):CallsIn FX m Tryz.prog 98 #[.int .i64 k,.int .i64 o] w fun e w'=>e=.returned (.bool (fitB k o))∧w' = w:=by
 have HB:=hide (bare_in (w:=w) (m:=m - 1) hn h)
 have HF:=hide (show fitB k o=decide (k=o∨k=bareK o) from rfl)
 have h1:=hro
 have h2:=hdp
 have k1:FX.fn 102:=FX_fn (by decide)
 have k2:FX.fn 98:=FX_fn (by decide)
 clear h
 by_cases hk:k=o
 · have d1:(k == o)=true:=by simpa using hk
   have HE:=hide (show fitB k o=true by rw [HF.out];simp [hk])
   clear hk
   refine callsIn_of_wp Tryz.func98 rfl (FX_fn (by decide)) ?_ hro
   simp only [Tryz.ntmps98,List.size_toArray,List.length_cons,List.length_nil,Nat.reduceAdd,Nat.reduceSub,Array.replicate_succ,Array.replicate_zero,List.push_toArray,List.append_toArray,List.nil_append,List.cons_append]
   gi_wp2
   go_ret
   exact ⟨by rw [HE.out];rfl,rfl⟩
 · have d1:(k == o)=false:=by simpa using hk
   have HE:=hide (show fitB k o=(k == bareK o) by rw [HF.out];simp [hk];rfl)
   refine callsIn_of_wp Tryz.func98 rfl (FX_fn (by decide)) ?_ hro
   simp only [Tryz.ntmps98,List.size_toArray,List.length_cons,List.length_nil,Nat.reduceAdd,Nat.reduceSub,Array.replicate_succ,Array.replicate_zero,List.push_toArray,List.append_toArray,List.nil_append,List.cons_append]
   gi_wp2_with fail
   refine CallsIn.mono HB.out ?_
   rintro e w' ⟨rfl,rfl⟩
   generalize bareK o=q at *
   gi_wp2
   go_ret
   exact ⟨by rw [HE.out];rfl,rfl⟩
theorem fitting1_in {X:Nat→Prop} {n:Nat} (hn:n≤1024) {ks:List Int} {a:Option Addr} {cap c i:Nat} {k o:Int} (hc:w.cell? ⟨c,0,none⟩=some (.slice a ks.length cap)) (K:IsAt X w (.slice a ks.length cap) ks) (hi:ks[i]?=some o) (ho:isKB n o=true) (hl:ks.length≤4000000000000) :
    CallsIn FX m Tryz.prog 97 #[.int .i64 i,.int .i64 k,.pointer (some ⟨c,0,none⟩)] w fun e w'=>e=.returned (.bool (fitB k o))∧w' = w:=by
  obtain ⟨ao,cp,hv,_,_,hel⟩:=K
  cases hv
  obtain ⟨g,q,rfl,_,_,hx⟩:=hel i o hi
  have HC:=hide (fits_in (w:=w) (m:=m - 1) (k:=k) hn ho)
  have hlt:=get_lt hi
  have b1:(i:Int)<(ks.length:Int):=by omega
  have b2:(ks.length:Int)≤4000000000000:=by omega
  have b3:(0:Int)≤(i:Int):=by omega
  have h1:=hro
  have h2:=hdp
  have k1:FX.fn 102:=FX_fn (by decide)
  have k2:FX.fn 98:=FX_fn (by decide)
  clear hel hi hl
  generalize ks.length=N at *
  refine callsIn_of_wp Tryz.func97 rfl (FX_fn (by decide)) ?_ hro
  simp only [Tryz.ntmps97,List.size_toArray,List.length_cons,List.length_nil,Nat.reduceAdd,Nat.reduceSub,Array.replicate_succ,Array.replicate_zero,List.push_toArray,List.append_toArray,List.nil_append,List.cons_append]
  gi_wp2_with fail
  refine CallsIn.mono HC.out ?_
  rintro e w' ⟨rfl,rfl⟩
  gi_wp2
  go_ret
  exact ⟨rfl,rfl⟩
theorem anything_in (k:Int):CallsIn FX m Tryz.prog 88 #[.int .i64 k] w fun e w'=>e=.returned (.bool true)∧w' = w:=by
 have h1:=hro
 have h2:=hdp
 have k1:FX.fn 102:=FX_fn (by decide)
 have k2:FX.fn 98:=FX_fn (by decide)
 refine callsIn_of_wp Tryz.func88 rfl (FX_fn (by decide)) ?_ hro
 simp only [Tryz.ntmps88,List.size_toArray,List.length_cons,List.length_nil,Nat.reduceAdd,Nat.reduceSub,Array.replicate_succ,Array.replicate_zero,List.push_toArray,List.append_toArray,List.nil_append,List.cons_append]
 gi_wp2
 go_ret
 exact ⟨rfl,rfl⟩
theorem exactly1_in {c:Nat} (k x:Int) (hc:w.cell? ⟨c,0,none⟩=some (.int .i64 x)):CallsIn FX m Tryz.prog 103 #[.int .i64 k,.pointer (some ⟨c,0,none⟩)] w fun e w'=>e=.returned (.bool (k == x))∧w' = w:=by
 have h1:=hro
 have h2:=hdp
 have k1:FX.fn 102:=FX_fn (by decide)
 have k2:FX.fn 98:=FX_fn (by decide)
 refine callsIn_of_wp Tryz.func103 rfl (FX_fn (by decide)) ?_ hro
 simp only [Tryz.ntmps103,List.size_toArray,List.length_cons,List.length_nil,Nat.reduceAdd,Nat.reduceSub,Array.replicate_succ,Array.replicate_zero,List.push_toArray,List.append_toArray,List.nil_append,List.cons_append]
 gi_wp2
 go_ret
 exact ⟨rfl,rfl⟩
def ofB (f k:Int):Bool:=decide (2≤bareK k∧bareK k % 2=f % 2)
set_option maxHeartbeats 1000000 in
theorem of1_in {n c:Nat} {k f:Int} (hn:n≤1024) (h:isKB n k=true) (hc:w.cell? ⟨c,0,none⟩=some (.int .i64 f)) (hf:f=2∨f=3):CallsIn FX m Tryz.prog 101 #[.int .i64 k,.pointer (some ⟨c,0,none⟩)] w fun e w'=>e=.returned (.bool (ofB f k))∧Below w.heap.size w w':=by
 have HB:=hide (fun (W:World)=>bare_in (w:=W) (m:=m - 1) hn h)
 have hb:=bareK_in hn h
 have h1:=hro
 have h2:=hdp
 have k1:FX.fn 102:=FX_fn (by decide)
 have k2:FX.fn 98:=FX_fn (by decide)
 have HO:=hide (show ofB f k=decide (2≤bareK k∧bareK k % 2=f % 2) from rfl)
 clear h
 generalize bareK k=q at *
 obtain ⟨hb0,hb1⟩:=hb
 by_cases hq:2≤q
 · have dq:decide (2≤q)=true:=by simpa using hq
   have HE:=hide (show ofB f k=(q % 2 == f % 2) by rw [HO.out];simp [hq];rfl)
   have hf0:0≤f∧f≤3:=by rcases hf with rfl | rfl <;> simp
   obtain ⟨f0,f1⟩:=hf0
   clear hf
   refine callsIn_of_wp Tryz.func101 rfl (FX_fn (by decide)) ?_ hro
   simp only [Tryz.ntmps101,List.size_toArray,List.length_cons,List.length_nil,Nat.reduceAdd,Nat.reduceSub,Array.replicate_succ,Array.replicate_zero,List.push_toArray,List.append_toArray,List.nil_append,List.cons_append]
   gi_wp2_with fail
   gi_quiet ((gi_at_call 102;exact CallsIn.quiet_of_same (HB.out _)))
   gi_wp2
   go_ret
   exact ⟨by rw [HE.out];rfl,below_drewN (Below.refl _ _) _⟩
 · have dq:decide (2≤q)=false:=by simpa using hq
   have HE:=hide (show ofB f k=false by rw [HO.out];simp [hq])
   refine callsIn_of_wp Tryz.func101 rfl (FX_fn (by decide)) ?_ hro
   simp only [Tryz.ntmps101,List.size_toArray,List.length_cons,List.length_nil,Nat.reduceAdd,Nat.reduceSub,Array.replicate_succ,Array.replicate_zero,List.push_toArray,List.append_toArray,List.nil_append,List.cons_append]
   gi_wp2_with fail
   gi_quiet ((gi_at_call 102;exact CallsIn.quiet_of_same (HB.out _)))
   gi_wp2
   go_ret
   exact ⟨by rw [HE.out];rfl,below_drewN (Below.refl _ _) _⟩
theorem of_in (f:Int):CallsIn FX m Tryz.prog 90 #[.int .i64 f] w fun e w'=>e=.returned (.func (.func 101) #[] #[.pointer (some ⟨w.heap.size,0,none⟩)])∧w' = w.alloc (.cells #[.int .i64 f] 3):=by
 have h1:=hro
 have h2:=hdp
 refine callsIn_of_wp Tryz.func90 rfl (FX_fn (by decide)) ?_ hro
 simp only [Tryz.ntmps90,List.size_toArray,List.length_cons,List.length_nil,Nat.reduceAdd,Nat.reduceSub,Array.replicate_succ,Array.replicate_zero,List.push_toArray,List.append_toArray,List.nil_append,List.cons_append]
 gi_wp2
 go_ret
 exact ⟨rfl,rfl⟩
theorem boxB_of (k:Int):boxB k=(ofB 2 k && decide (k<1048576)):=by
 unfold boxB ofB
 rw [Bool.eq_iff_iff]
 simp only [decide_eq_true_eq,Bool.and_eq_true]
 omega
theorem boxable_in {n:Nat} {k:Int} (hn:n≤1024) (h:isKB n k=true):CallsIn FX m Tryz.prog 92 #[.int .i64 k] w fun e w'=>e=.returned (.bool (boxB k))∧Below w.heap.size w w':=by
 obtain ⟨W1,hW1⟩ : ∃ W1,w.alloc (.cells #[.int .i64 2] 3)=W1:=⟨_,rfl⟩
 have B1:=hide (show Below w.heap.size w W1 from by rw [← hW1];exact (Below.refl _ _).alloc (Nat.le_refl _) _)
 have c1:W1.cell? ⟨w.heap.size,0,none⟩=some (.int .i64 2):=by rw [← hW1];exact cell_of (heap_new _ _ rfl) rfl
 have HB:=hide (of_in (w:=w) (m:=m - 1) 2)
 have HC:=hide (of1_in (w:=W1) (m:=m - 1) hn h c1 (.inl rfl))
 rw [hW1] at HB
 have HE:=hide (boxB_of k)
 have h1:=hro
 have h2:=hdp
 have k1:FX.fn 90:=FX_fn (by decide)
 have k2:FX.fn 101:=FX_fn (by decide)
 clear h c1 hW1
 generalize ofB 2 k=r at *
 refine callsIn_of_wp Tryz.func92 rfl (FX_fn (by decide)) ?_ hro
 simp only [Tryz.ntmps92,List.size_toArray,List.length_cons,List.length_nil,Nat.reduceAdd,Nat.reduceSub,Array.replicate_succ,Array.replicate_zero,List.push_toArray,List.append_toArray,List.nil_append,List.cons_append]
 gi_wp2_with fail
 refine CallsIn.mono HB.out ?_
 rintro e w1 ⟨rfl,rfl⟩
 gi_wp2_with fail
 refine CallsIn.mono HC.out ?_
 rintro e w2 ⟨rfl,hb2⟩
 have HB2:=hide (B1.out.trans (hb2.mono B1.out.size))
 clear hb2
 cases r with
 | true =>
  gi_wp2
  go_ret
  exact ⟨by rw [HE.out];rfl,HB2.out⟩
 | false =>
  gi_wp2
  go_ret
  exact ⟨by rw [HE.out];rfl,HB2.out⟩
theorem these1_in {g q N cap c i f:Nat} {k:Int} {caps:Array Value} {r:Bool} (hf:FX.fn f) (hc:w.cell? ⟨c,0,none⟩=some (.slice (some ⟨g,q,none⟩) N cap)) (hi:i<N) (hN:N≤2) (hx:w.cell? ⟨g,q+i,none⟩=some (.func (.func f) #[] caps)) (ef:∀ args w,(callFunc f args).run Tryz.prog w=.ok (.enter f args) w) (C:CallsIn FX (m - 1) Tryz.prog f (#[.int .i64 k]++caps) w fun e w'=>e=.returned (.bool r)∧Below w.heap.size w w') :
    CallsIn FX m Tryz.prog 99 #[.int .i64 i,.int .i64 k,.pointer (some ⟨c,0,none⟩)] w fun e w'=>e=.returned (.bool r)∧Below w.heap.size w w':=by
  have HC:=hide C
  have b1:(i:Int)<(N:Int):=by omega
  have b2:(N:Int)≤2:=by omega
  have b3:(0:Int)≤(i:Int):=by omega
  have h1:=hro
  have h2:=hdp
  have ef':=ef (#[.int .i64 k]++caps) w
  clear C hi hN ef
  refine callsIn_of_wp Tryz.func99 rfl (FX_fn (by decide)) ?_ hro
  simp only [Tryz.ntmps99,List.size_toArray,List.length_cons,List.length_nil,Nat.reduceAdd,Nat.reduceSub,Array.replicate_succ,Array.replicate_zero,List.push_toArray,List.append_toArray,List.nil_append,List.cons_append]
  gi_wp2_with fail
  refine CallsIn.mono HC.out ?_
  rintro e w1 ⟨rfl,hb⟩
  have HB:=hide hb
  clear hb
  gi_wp2
  go_ret
  exact ⟨rfl,HB.out⟩
theorem fits_self (k:Int):fitB k k=true:=by simp [fitB]
theorem alike1_up {n u:Nat} {k x:Int} (hn:n≤1024) (h:isKB n k=true) (hu:w.heap[u]?=some (.cells #[.int .i64 x] 3 (0,0))):CallsIn FX m Tryz.prog 100 #[.int .i64 1,.int .i64 k,.pointer (some ⟨u,0,none⟩)] w fun e w'=>e=.returned (.bool (decide (k≠0)))∧w' = w.setCell ⟨u,0,none⟩ (.int .i64 k):=by
 have c0:w.cell? ⟨u,0,none⟩=some (.int .i64 x):=cell_of hu rfl
 have f0:w.frozen? ⟨u,0,none⟩=false:=by simp [World.frozen?,hu]
 have l0:=lt_of_block hu
 obtain ⟨W1,hW1⟩ : ∃ W1,w.setCell ⟨u,0,none⟩ (.int .i64 k)=W1:=⟨_,rfl⟩
 have c1:W1.cell? ⟨u,0,none⟩=some (.int .i64 k):=by rw [← hW1];exact cell_of (heap_setCell_same _ _ 0 _ hu) rfl
 have HC:=hide (fits_in (w:=W1) (m:=m - 1) (k:=k) hn h)
 rw [fits_self] at HC
 have h1:=hro
 have h2:=hdp
 have k1:FX.fn 98:=FX_fn (by decide)
 rw [hW1]
 clear h hu
 by_cases hk:k=0
 · have q0:(k != 0)=false:=by simp [hk]
   have HE:=hide (show decide (k≠0)=false by simp [hk])
   clear hk
   refine callsIn_of_wp Tryz.func100 rfl (FX_fn (by decide)) ?_ hro
   simp only [Tryz.ntmps100,List.size_toArray,List.length_cons,List.length_nil,Nat.reduceAdd,Nat.reduceSub,Array.replicate_succ,Array.replicate_zero,List.push_toArray,List.append_toArray,List.nil_append,List.cons_append]
   gi_wp2
   all_goals first
     | (exfalso;rename_i hx _;revert hx;simp [undef];done)
     | (go_ret;exact ⟨by rw [HE.out];rfl,rfl⟩)
 · have q0:(k != 0)=true:=by simpa using hk
   have HE:=hide (show decide (k≠0)=true by simp [hk])
   clear hk
   refine callsIn_of_wp Tryz.func100 rfl (FX_fn (by decide)) ?_ hro
   simp only [Tryz.ntmps100,List.size_toArray,List.length_cons,List.length_nil,Nat.reduceAdd,Nat.reduceSub,Array.replicate_succ,Array.replicate_zero,List.push_toArray,List.append_toArray,List.nil_append,List.cons_append]
   gi_wp2_with fail
   refine CallsIn.mono HC.out ?_
   rintro e w1 ⟨rfl,rfl⟩
   gi_wp2
   go_ret
   exact ⟨by rw [HE.out];rfl,rfl⟩
theorem alike1_low {n u:Nat} {k x:Int} (hn:n≤1024) (h:isKB n k=true) (hx:isKB n x=true) (c0:w.cell? ⟨u,0,none⟩=some (.int .i64 x)):CallsIn FX m Tryz.prog 100 #[.int .i64 0,.int .i64 k,.pointer (some ⟨u,0,none⟩)] w fun e w'=>e=.returned (.bool (decide (k≠0) && (fitB k x || fitB x k)))∧w' = w:=by
 have HC:=hide (fits_in (w:=w) (m:=m - 1) (k:=k) hn hx)
 have HD:=hide (fits_in (w:=w) (m:=m - 1) (k:=x) hn h)
 have h1:=hro
 have h2:=hdp
 have k1:FX.fn 98:=FX_fn (by decide)
 clear h hx
 by_cases hk:k=0
 · have q0:(k != 0)=false:=by simp [hk]
   have HE:=hide (show (decide (k≠0) && (fitB k x || fitB x k))=false by simp [hk])
   clear hk
   refine callsIn_of_wp Tryz.func100 rfl (FX_fn (by decide)) ?_ hro
   simp only [Tryz.ntmps100,List.size_toArray,List.length_cons,List.length_nil,Nat.reduceAdd,Nat.reduceSub,Array.replicate_succ,Array.replicate_zero,List.push_toArray,List.append_toArray,List.nil_append,List.cons_append]
   gi_wp2
   all_goals first
     | (exfalso;rename_i hx _;revert hx;simp [undef];done)
     | (go_ret;exact ⟨by rw [HE.out];rfl,rfl⟩)
 · have q0:(k != 0)=true:=by simpa using hk
   have HE:=hide (show (decide (k≠0) && (fitB k x || fitB x k))=(fitB k x || fitB x k) by simp [hk])
   clear hk
   generalize fitB k x=r1 at *
   generalize fitB x k=r2 at *
   cases r1 with
   | true =>
    refine callsIn_of_wp Tryz.func100 rfl (FX_fn (by decide)) ?_ hro
    simp only [Tryz.ntmps100,List.size_toArray,List.length_cons,List.length_nil,Nat.reduceAdd,Nat.reduceSub,Array.replicate_succ,Array.replicate_zero,List.push_toArray,List.append_toArray,List.nil_append,List.cons_append]
    gi_wp2_with fail
    refine CallsIn.mono HC.out ?_
    rintro e w1 ⟨rfl,rfl⟩
    gi_wp2
    go_ret
    exact ⟨by rw [HE.out];rfl,rfl⟩
   | false =>
    refine callsIn_of_wp Tryz.func100 rfl (FX_fn (by decide)) ?_ hro
    simp only [Tryz.ntmps100,List.size_toArray,List.length_cons,List.length_nil,Nat.reduceAdd,Nat.reduceSub,Array.replicate_succ,Array.replicate_zero,List.push_toArray,List.append_toArray,List.nil_append,List.cons_append]
    gi_wp2_with fail
    refine CallsIn.mono HC.out ?_
    rintro e w1 ⟨rfl,rfl⟩
    clear HC
    gi_wp2_with fail
    refine CallsIn.mono HD.out ?_
    rintro e w1 ⟨rfl,rfl⟩
    gi_wp2
    go_ret
    exact ⟨by rw [HE.out];rfl,rfl⟩
def fch (f a e:Int):List PanicEntry:=[{ v:=.iface 102 (.agg #[.int .i64 f,.int .i64 a,.int .i64 e]),recovered:=false }]
def RqO (f a e:Int) (kept:Bool) (w:World) (x:Ending) (w' : World):Prop:=((kept=true∧x=.returned (.tuple #[]))∨(kept=false∧x=.panicked (fch f a e)))∧Below w.heap.size w w'
theorem require_in (f a e:Int) (kept:Bool):CallsIn FX m Tryz.prog 70 #[.agg #[.int .i64 f,.int .i64 a],.bool kept,.int .i64 e] w (RqO f a e kept w):=by
 have h1:=hro
 have h2:=hdp
 have B1:=hide (show Below w.heap.size w (w.alloc (.cells #[.int .i64 f,.int .i64 a] 67)) from (Below.refl _ _).alloc (Nat.le_refl _) _)
 cases kept with
 | true =>
  refine callsIn_of_wp Tryz.func70 rfl (FX_fn (by decide)) ?_ hro
  simp only [Tryz.ntmps70,List.size_toArray,List.length_cons,List.length_nil,Nat.reduceAdd,Nat.reduceSub,Array.replicate_succ,Array.replicate_zero,List.push_toArray,List.append_toArray,List.nil_append,List.cons_append]
  gi_wp2
  go_returns
  exact ⟨Or.inl ⟨rfl,rfl⟩,B1.out⟩
 | false =>
  refine callsIn_of_wp Tryz.func70 rfl (FX_fn (by decide)) ?_ hro
  simp only [Tryz.ntmps70,List.size_toArray,List.length_cons,List.length_nil,Nat.reduceAdd,Nat.reduceSub,Array.replicate_succ,Array.replicate_zero,List.push_toArray,List.append_toArray,List.nil_append,List.cons_append]
  gi_wp2
  exact ⟨rfl,Or.inr ⟨rfl,rfl⟩,B1.out⟩
end
end Go.Proofs.YtkdojpnihinpbaaGreatDoor

namespace Go.Proofs.YtkdojpnihinpbaaGreatDoor
open Go.RowKit Go.Shelf
theorem oper_inRound {F:Fence} {l n:Nat} {P:Program} {o:Oper} {a:Act} {w:World} {K:Act→World→Prop} {Q:Exit→Act→World→Prop} (hro:F.round=none) (hd:∀ c,o.op≠.defer c) (h:o.wpIn F n P a w K Q):o.wpIn (F.inRound l) n P a w K Q:=by
 obtain ⟨h1,h2⟩:=h
 refine ⟨h1,?_⟩
 rw [hro,Oper.semAt_none] at h2
 rw [Fence.inRound_round,Oper.semAt_eq _ _ _ hd]
 generalize (execOp a.eval o).run P w=r at *
 cases r with
 | ok x w'=>cases x <;> exact h2
 | halt x w'=>cases x <;> exact h2
def noDefer (ops:Array Oper):Bool:=ops.all fun o=>match o.op with | .defer _=>false | _=>true
theorem noDefer_at {ops:Array Oper} (h:noDefer ops=true) {i:Nat} {o:Oper} (hi:ops[i]?=some o):∀ c,o.op≠.defer c:=by
 intro c hc
 unfold noDefer at h
 rw [Array.all_eq_true] at h
 obtain ⟨hl,rfl⟩:=Array.getElem?_eq_some_iff.mp hi
 have:=h i hl
 rw [hc] at this
 cases this
theorem any_inRound {F:Fence} {l n:Nat} {P:Program} {md:Region.Mode} {ops:Array Oper} {Q:Exit→Act→World→Prop} (hd:noDefer ops=true) (hro:F.round=none):∀ {fuel:Nat} {listed:Array Bool} {a:Act} {w:World},wpAnyIn F n P md ops Q fuel listed a w→wpAnyIn (F.inRound l) n P md ops Q fuel listed a w:=by
 intro fuel
 induction fuel with
 | zero=>intro listed a w h;exact h
 | succ fuel ih =>
  intro listed a w h
  obtain ⟨h0,h1⟩:=h
  refine ⟨h0,fun i hi=>?_⟩
  have h2:=h1 i hi
  unfold wpOpIn at h2 ⊢
  cases ho:ops[i]? with
  | none =>
   rw [ho] at h2
   exact ih h2
  | some o =>
   rw [ho] at h2
   dsimp only at h2 ⊢
   split
   · rename_i hw
     rw [if_pos hw] at h2
     exact oper_inRound hro (noDefer_at hd ho) (Oper.wpIn_mono (fun _ _=>ih) h2)
   · rename_i hw
     rw [if_neg hw] at h2
     exact ⟨h2.1,ih h2.2⟩
end Go.Proofs.YtkdojpnihinpbaaGreatDoor
