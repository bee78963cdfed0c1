/- The queue of numbers that wait, a bit each: plain; the lowest bit. -/
import Derived.Test.YtkdojpnihinpbaaGreatDoorVfNJo
import Derived.Shelf.Spec.TrailingZeros
namespace Go.Proofs.YtkdojpnihinpbaaGreatDoor
open Go.RowKit
def Tb (w:World):Prop:=∀ j,j<64→w.cell? ⟨0,j,none⟩=some (.int .u8 (Lib.deBruijn64tab.getD j 0))
theorem Tb.keep {w w' : World} (h:Tb w) (hk:w'.heap[0]?=w.heap[0]?):Tb w':=fun j hj=>by
 rw [World.cell?_of_block (a:=⟨0,j,none⟩) hk]
 exact h j hj
theorem tz64_core (x k idx:Nat) (w:World) (hx0:((x:Int) == 0)=false)
    (key:IntKind.u64.wrap (bits BinOp.and IntKind.u64 (x:Int) (IntKind.u64.wrap (-(x:Int)))*285870213051353865) / 288230376151711744=(idx:Int))
    (hi:idx<64) (hk:k<64) (hcell:w.cell? ⟨0,idx,none⟩=some (.int .u8 k)):Calls Tryz.prog 72 #[.int .u64 x] w fun e w'=>e=.returned (.int .i64 k)∧w' = w:=by
  go_enter Tryz.func72,Tryz.ntmps72
  go_wp2_with (simp only [key])
  go_ret
  exact ⟨rfl,rfl⟩
theorem tz64_any (x:Nat) (hx:x<18446744073709551616) (h0:x≠0) (w:World) (T:Tb w):Calls Tryz.prog 72 #[.int .u64 x] w fun e w'=>e=.returned (.int .i64 (Lib.ctz 64 x))∧w' = w:=by
 obtain ⟨hlow,hk⟩:=Lib.lowest_bit 64 x h0 hx
 obtain ⟨hi,htab⟩:=Lib.deBruijn64_at _ hk
 refine tz64_core x (Lib.ctz 64 x) _ w (by simp;omega) (tz64_key x _ hx h0 hlow) hi hk ?_
 have hc:=T _ hi
 rw [htab] at hc
 exact hc
def WdR (x q:Nat) (wt:List Bool):Prop:=x<18446744073709551616∧∀ b,b<64→x.testBit b=(wt[64*q+b]?).getD false
theorem getD_set_same {l:List Bool} {n:Nat} {v:Bool} (h:n<l.length):((l.set n v)[n]?).getD false=v:=by simp [h]
theorem getD_set_other {l:List Bool} {n m:Nat} {v:Bool} (h:n≠m):((l.set n v)[m]?).getD false=(l[m]?).getD false:=by simp [List.getElem?_set_ne h]
theorem wd_other {x q n:Nat} {wt:List Bool} {v:Bool} (h:WdR x q wt) (hn:n / 64≠q):WdR x q (wt.set n v):=⟨h.1,fun b hb=>by rw [getD_set_other (by omega)];exact h.2 b hb⟩
theorem wd_set {x q n:Nat} {wt:List Bool} (h:WdR x q wt) (hl:n<wt.length) (hn:n / 64=q):WdR (x ||| 2 ^ (n % 64)) q (wt.set n true):=by
 have hp:2 ^ (n % 64)<2 ^ 64:=Nat.pow_lt_pow_right (by decide) (Nat.mod_lt _ (by decide))
 refine ⟨Nat.or_lt_two_pow (n:=64) h.1 hp,fun b hb=>?_⟩
 rw [Nat.testBit_or,Nat.testBit_two_pow]
 by_cases hb2:n % 64=b
 · have he:64*q+b=n:=by omega
   rw [he,getD_set_same hl]
   simp [hb2]
 · rw [getD_set_other (by omega),h.2 b hb]
   simp [hb2]
theorem ctz_form {x:Nat} (h0:x≠0) (h:x<18446744073709551616):∃ m,x=2 ^ Lib.ctz 64 x*(2*m+1)∧Lib.ctz 64 x<64:=by
 obtain ⟨m,h1,h2⟩:=Lib.ctzFrom_spec 64 x (by omega) h
 have e:Lib.ctz 64 x=Lib.ctzFrom 64 x:=by simp [Lib.ctz,h0]
 rw [e]
 exact ⟨m,h1,h2⟩
theorem bit_low {t m b:Nat} (h:b<t):(2 ^ t*(2*m+1)).testBit b=false:=by
 rw [Nat.mul_comm,Nat.testBit_mul_two_pow]
 simp;omega
theorem bit_at (t m:Nat):(2 ^ t*(2*m+1)).testBit t=true:=by
 rw [Nat.mul_comm,Nat.testBit_mul_two_pow]
 simp
theorem bit_clr (t m b:Nat):((2 ^ t*(2*m+1)) &&& (2 ^ t*(2*m+1) - 1)).testBit b=((2 ^ t*(2*m+1)).testBit b && decide (b≠t)):=by
 have e:2 ^ t*(2*m+1) - 1=2 ^ t*(2*m)+(2 ^ t - 1):=by
  have:0<2 ^ t:=Nat.two_pow_pos t
  rw [Nat.mul_add,Nat.mul_one]
  omega
 rw [Nat.testBit_and]
 by_cases hb:b<t
 · rw [bit_low hb]
   simp
 · by_cases hb2:b=t
   · subst hb2
     rw [bit_at,e,Nat.testBit_two_pow_mul_add _ (by have:=Nat.two_pow_pos b;omega)]
     simp
   · have h1:(2 ^ t*(2*m+1) - 1).testBit b=(2 ^ t*(2*m+1)).testBit b:=by
      rw [e,Nat.testBit_two_pow_mul_add _ (by have:=Nat.two_pow_pos t;omega),if_neg hb,show (2 ^ t*(2*m+1)).testBit b=(2*m+1).testBit (b - t) by rw [Nat.mul_comm,Nat.testBit_mul_two_pow];simp;omega]
      obtain ⟨c,rfl⟩ : ∃ c,b=t+(c+1):=⟨b - t - 1,by omega⟩
      rw [show t+(c+1) - t=c+1 by omega,Nat.testBit_succ,Nat.testBit_succ,show 2*m / 2=m by omega,show (2*m+1) / 2=m by omega]
     rw [h1]
     simp [hb2]
theorem wd_low {x q:Nat} {wt:List Bool} (h:WdR x q wt) (h0:x≠0):Lib.ctz 64 x<64∧(wt[64*q+Lib.ctz 64 x]?).getD false=true∧∀ b,b<Lib.ctz 64 x→(wt[64*q+b]?).getD false=false:=by
 obtain ⟨m,h1,h2⟩:=ctz_form h0 h.1
 refine ⟨h2,?_,fun b hb=>?_⟩
 · rw [← h.2 _ h2]
   conv=>lhs;arg 1;rw [h1]
   exact bit_at _ _
 · rw [← h.2 _ (by omega)]
   conv=>lhs;arg 1;rw [h1]
   exact bit_low hb
theorem wd_clr {x q:Nat} {wt:List Bool} (h:WdR x q wt) (h0:x≠0):WdR (x &&& (x - 1)) q (wt.set (64*q+Lib.ctz 64 x) false):=by
 obtain ⟨m,h1,h2⟩:=ctz_form h0 h.1
 obtain ⟨_,h4,_⟩:=wd_low h h0
 generalize Lib.ctz 64 x=t at *
 refine ⟨Nat.lt_of_le_of_lt Nat.and_le_left h.1,fun b hb=>?_⟩
 rw [h1,bit_clr,← h1,h.2 b hb]
 by_cases hb2:b=t
 · subst hb2
   have hl:64*q+b<wt.length:=by
    rcases Nat.lt_or_ge (64*q+b) wt.length with hl | hl
    · exact hl
    · rw [List.getElem?_eq_none hl] at h4;cases h4
   rw [getD_set_same hl]
   simp
 · rw [getD_set_other (by omega)]
   simp [hb2]
theorem wd_none {q:Nat} {wt:List Bool} (h:WdR 0 q wt) (b:Nat) (hb:b<64):(wt[64*q+b]?).getD false=false:=by
 rw [← h.2 b hb,Nat.zero_testBit]
theorem least_some:∀ {l:List Bool} {n:Nat},(l[n]?).getD false=true→(∀ m,m<n→(l[m]?).getD false=false)→leastP l=some n
  | [],n,h,_=>by simp at h
  | true :: r,n,h,h2=>by
   rcases n with _ | n
   · rfl
   · have:=h2 0 (by omega)
     simp at this
  | false :: r,n,h,h2=>by
   rcases n with _ | n
   · simp at h
   · have h3:leastP r=some n:=least_some (by simpa using h) (fun m hm=>by simpa using h2 (m+1) (by omega))
     simp [leastP,h3]
theorem least_none:∀ {l:List Bool},(∀ m:Nat,(l[m]?).getD false=false)→leastP l=none
  | [],_=>rfl
  | true :: r,h=>by have:=h 0;simp at this
  | false :: r,h=>by
   have h3:leastP r=none:=least_none (fun m=>by simpa using h (m+1))
   simp [leastP,h3]
theorem least_inv:∀ {l:List Bool} {n:Nat},leastP l=some n→(l[n]?).getD false=true
  | [],n,h=>by simp [leastP] at h
  | true :: r,n,h=>by
   simp only [leastP,Option.some.injEq] at h
   subst h
   simp
  | false :: r,n,h=>by
   simp only [leastP,Option.map_eq_some_iff] at h
   obtain ⟨a,h1,rfl⟩:=h
   have:=least_inv h1
   simpa using this
def QuAt (w:World) (b n:Nat) (wt:List Bool):Prop:=wt.length=n∧∃ ws:List Nat,ws.length=n / 64+1∧w.heap[b]?=some (.cells ((ws.map (fun x:Nat=>Value.int .u64 x)).toArray) 122 (0,0))∧∀ q x,ws[q]?=some x→WdR x q wt
abbrev qv (b n:Nat):Value:=.slice (some ⟨b,0,none⟩) (n / 64+1) (n / 64+1)
end Go.Proofs.YtkdojpnihinpbaaGreatDoor

namespace Go.Proofs.YtkdojpnihinpbaaGreatDoor
open Go.RowKit
theorem info_u64:(Tryz.prog.info? 122).map (fun i=>(i.zero,i.size,i.bytes))=some (some (.int .u64 0),1,8):=by kernel_rfl
abbrev wds (ws:List Nat):Array Value:=(ws.map (fun x:Nat=>Value.int .u64 x)).toArray
theorem made_u64 (n:Nat):madeCells #[Value.int .u64 0] n=wds (List.replicate n 0):=by
 apply Array.ext
 · simp [madeCells]
 · intro i h1 h2
   simp [madeCells,Nat.mod_one]
theorem run_queue (w:World) (n:Nat) (hn:n≤65536):(Instr.makeSlice 69 (.int .i64 ((n:Int) / 64+1)) (.int .i64 ((n:Int) / 64+1))).run Tryz.prog w=.ok (qv w.heap.size n) (w.alloc (.cells (wds (List.replicate (n / 64+1) 0)) 122)):=by
 obtain ⟨i0,hi,hz0,hz1,hz2⟩:=info_parts info_u64
 have hmk:=run_make (P:=Tryz.prog) w 69 122 i0 (.int .u64 0) Tryz.underlying69 hi hz0 .i64 .i64 ((n:Int) / 64+1) ((n:Int) / 64+1) (by omega) (Int.le_refl _) (by rw [hz2];omega) (by omega)
 rw [hz1] at hmk
 rw [show ((n:Int) / 64+1).toNat=n / 64+1 by omega,Nat.mul_one] at hmk
 rw [show (Value.int .u64 0).cells=#[Value.int .u64 0] from rfl,made_u64] at hmk
 exact hmk
theorem newQueue_any (w:World) (n:Nat) (hn:n≤65536):Calls Tryz.prog 49 #[.int .i64 n] w fun e w'=>e=.returned (qv w.heap.size n)∧w' = w.alloc (.cells (wds (List.replicate (n / 64+1) 0)) 122):=by
 have h1:(n:Int)≤65536:=by omega
 have hr:=run_queue w n hn
 generalize w.alloc (.cells (wds (List.replicate (n / 64+1) 0)) 122)=W at *
 go_enter Tryz.func49,Tryz.ntmps49
 go_wp2
 go_ret
 exact ⟨rfl,rfl⟩
section
variable {w w' : World} {b n:Nat} {wt:List Bool}
theorem QuAt.keep (h:QuAt w b n wt) (hk:w'.heap[b]?=w.heap[b]?):QuAt w' b n wt:=by
 obtain ⟨h1,ws,h2,h3,h4⟩:=h
 exact ⟨h1,ws,h2,hk.trans h3,h4⟩
theorem qu_new (w:World) (n:Nat):QuAt (w.alloc (.cells (wds (List.replicate (n / 64+1) 0)) 122)) w.heap.size n (List.replicate n false):=by
 refine ⟨by simp,List.replicate (n / 64+1) 0,by simp,heap_new _ _ rfl,fun q x hx=>?_⟩
 rw [List.getElem?_replicate] at hx
 split at hx
 · cases hx
   refine ⟨by decide,fun j _=>?_⟩
   rw [Nat.zero_testBit,List.getElem?_replicate]
   split <;> rfl
 · cases hx
theorem qu_set {x q:Nat} {v:Bool} (h:QuAt w b n wt) (hq:x / 64=q) {y:Nat} (hy:WdR y q (wt.set x v)) {W:World} (hW:W.heap[b]?=(w.setCell ⟨b,q,none⟩ (.int .u64 y)).heap[b]?):QuAt W b n (wt.set x v):=by
 obtain ⟨h1,ws,h2,h3,h4⟩:=h
 refine ⟨by rw [List.length_set];exact h1,ws.set q y,by rw [List.length_set];exact h2,?_,fun r z hz=>?_⟩
 · rw [hW,heap_setCell_same _ _ _ _ h3]
   congr 2
   simp [List.map_set]
 · by_cases hr:q=r
   · subst hr
     rw [List.getElem?_set_self'] at hz
     cases hw:ws[q]? with
     | none=>rw [hw] at hz;cases hz
     | some u=>rw [hw] at hz;cases hz;exact hy
   · rw [List.getElem?_set_ne hr] at hz
     exact wd_other (h4 r z hz) (by omega)
set_option maxHeartbeats 1000000 in
theorem add_any {x:Nat} (h:QuAt w b n wt) (hx:x<n) (hn:n≤65536):Calls Tryz.prog 69 #[qv b n,.int .i64 x] w fun e w'=>(∃ v,e=.returned v)∧QuAt w' b n (wt.set x true)∧Kp (fun j=>j=b) w w':=by
 have HQ:=hide h
 obtain ⟨h1,ws,h2,h3,h4⟩:=h
 obtain ⟨y,hy⟩ : ∃ y,ws[x / 64]?=some y:=⟨ws[x / 64]'(by omega),by simp⟩
 have hwd:=h4 _ y hy
 have hc:w.cell? ⟨b,x / 64,none⟩=some (.int .u64 y):=cell_of h3 (by simp [hy])
 have hf:w.frozen? ⟨b,x / 64,none⟩=false:=by simp [World.frozen?,h3]
 have hb:=lt_of_block h3
 have hlt:x / 64<n / 64+1:=by omega
 have hp:2 ^ (x % 64)<18446744073709551616:=by
  have:2 ^ (x % 64)<2 ^ 64:=Nat.pow_lt_pow_right (by decide) (Nat.mod_lt _ (by decide))
  exact this
 have hor:bits .or .u64 (y:Int) (IntKind.u64.wrap (2 ^ (x % 64)))=((y ||| 2 ^ (x % 64):Nat):Int):=by
  rw [show (2:Int) ^ (x % 64)=((2 ^ (x % 64):Nat):Int) by simp,IntKind.wrap_u64,show ((2 ^ (x % 64):Nat):Int) % 18446744073709551616=((2 ^ (x % 64):Nat):Int) from Int.emod_eq_of_lt (Int.natCast_nonneg _) (Int.ofNat_lt.mpr hp)]
  exact bits_or_u64_nat _ _ hwd.1 hp
 have HK:=hide (fun (W:World) (hW:(w.setCell ⟨b,x / 64,none⟩ (.int .u64 ((y ||| 2 ^ (x % 64):Nat):Int))).drew=W)=>show QuAt W b n (wt.set x true)∧Kp (fun j=>j=b) w W from ⟨qu_set HQ.out rfl (wd_set hwd (by rw [h1];exact hx) rfl) (by rw [← hW];rfl),by rw [← hW];exact ⟨rfl,rfl,rfl,by show w.heap.size≤(w.setCell _ _).heap.size;simp,fun j hj hx=>Below.heap_setCell _ _ _ j hx⟩⟩)
 have hx1:(x:Int)≤65536:=by omega
 have e1:(x:Int) / 64=((x / 64:Nat):Int):=by omega
 have e2:(x:Int) % 64=((x % 64:Nat):Int):=by omega
 have hr:x % 64<64:=Nat.mod_lt _ (by decide)
 clear h1 h2 h3 h4 hwd hy hp
 unfold qv
 generalize x / 64=k at *
 generalize x % 64=r at *
 generalize n / 64+1=N at *
 have e3:decide (k<N)=true:=by simpa using hlt
 go_enter Tryz.func69,Tryz.ntmps69
 go_wp2_with fail
 go_region
 go_returns
 exact ⟨⟨_,rfl⟩,HK.out _ rfl⟩
end
end Go.Proofs.YtkdojpnihinpbaaGreatDoor

namespace Go.Proofs.YtkdojpnihinpbaaGreatDoor
open Go.RowKit
section
variable {w w' : World} {b n:Nat} {wt:List Bool}
def LsO (w:World) (b n:Nat) (wt:List Bool) (e:Ending) (W:World):Prop:=match leastP wt with
  | none=>e=.returned (.tuple #[.int .i64 0,.bool false])∧W=w
  | some x=>e=.returned (.tuple #[.int .i64 x,.bool true])∧QuAt W b n (wt.set x false)∧Kp (fun j=>j=b) w W
def LsR (ws:List Nat) (w:World) (a:Value) (wr:World):Prop:=∃ j:Nat,a=.int .i64 j∧j≤ws.length∧(∀ q,q<j→ws[q]?=some 0)∧wr=w
theorem none_upto {ws:List Nat} (h4:∀ q x,ws[q]?=some x→WdR x q wt) {j:Nat} (h:∀ q,q<j→ws[q]?=some 0) {m:Nat} (hm:m<64*j):(wt[m]?).getD false=false:=by
 have h1:=wd_none (h4 (m / 64) 0 (h (m / 64) (by omega))) (m % 64) (Nat.mod_lt _ (by decide))
 rwa [show 64*(m / 64)+m % 64=m by omega] at h1
set_option maxHeartbeats 1000000 in
theorem least_any (h:QuAt w b n wt) (hn:n≤65536) (T:Tb w) (hb0:b≠0):Calls Tryz.prog 51 #[qv b n] w (LsO w b n wt):=by
 have HQ:=hide h
 obtain ⟨h1,ws,h2,h3,h4⟩:=h
 have hlen:ws.length=n / 64+1:=h2
 have HWS:=hide h4
 have HNN:=hide (show (∀ q,q<ws.length→ws[q]?=some 0)→LsO w b n wt (.returned (.tuple #[.int .i64 0,.bool false])) w from fun hz=>by
  have:leastP wt=none:=least_none fun m=>by
   rcases Nat.lt_or_ge m (64*ws.length) with hm | hm
   · exact none_upto h4 hz hm
   · rw [List.getElem?_eq_none (by omega)];rfl
  unfold LsO
  rw [this]
  exact ⟨rfl,rfl⟩)
 have HYY:=hide (show ∀ (j y:Nat),ws[j]?=some y→y≠0→(∀ q,q<j→ws[q]?=some 0)→∀ W:World,w.setCell ⟨b,j,none⟩ (.int .u64 ((y &&& (y - 1):Nat):Int))=W→LsO w b n wt (.returned (.tuple #[.int .i64 (64*(j:Int)+(Lib.ctz 64 y:Int)),.bool true])) W from fun j y hy h0 hz W hW=>by
  obtain ⟨t1,t2,t3⟩:=wd_low (h4 j y hy) h0
  have hl:leastP wt=some (64*j+Lib.ctz 64 y):=least_some t2 fun m hm=>by
   rcases Nat.lt_or_ge m (64*j) with hm2 | hm2
   · exact none_upto h4 hz hm2
   · have:=t3 (m - 64*j) (by omega)
     rwa [show 64*j+(m - 64*j)=m by omega] at this
  unfold LsO
  rw [hl]
  refine ⟨by rw [show ((64*j+Lib.ctz 64 y:Nat):Int)=64*(j:Int)+(Lib.ctz 64 y:Int) by omega],qu_set HQ.out (by omega) (wd_clr (h4 j y hy) h0) (by rw [← hW]),?_⟩
  rw [← hW]
  exact ⟨rfl,rfl,rfl,by simp,fun j hj hx=>Below.heap_setCell _ _ _ j hx⟩)
 have HC:=hide (show ∀ (j y:Nat),ws[j]?=some y→w.cell? ⟨b,j,none⟩=some (.int .u64 y)∧w.frozen? ⟨b,j,none⟩=false from fun j y hy=>⟨cell_of h3 (by simp [hy]),by simp [World.frozen?,h3]⟩)
 have hb:=lt_of_block h3
 have HT:=hide T
 have HB0:=hide hb0
 clear h4 h1 h3 T hb0
 unfold qv
 rw [← hlen]
 have HL:=hide (show ws.length≤1025 by omega)
 clear hlen h2 hn
 go_enter Tryz.func51,Tryz.ntmps51
 go_wp2
 go_loopw [8] (fun a wr=>LsR ws w a wr) (fun a _=>ws.length - (intOf a).toNat)
 case atStart=>exact ⟨0,rfl,Nat.zero_le _,fun q hq=>by omega,rfl⟩
 case round =>
  obtain ⟨j,rfl,hj,hz,rfl⟩:=hrel
  have HZ:=hide hz
  clear hz
  by_cases hlt:j<ws.length
  · obtain ⟨y,hy⟩ : ∃ y,ws[j]?=some y:=⟨ws[j],by simp [hlt]⟩
    obtain ⟨hc,hf⟩:=HC.out j y hy
    have d1:decide (j<ws.length)=true:=by simpa using hlt
    have hj1:(j:Int)≤1025:=by have:=HL.out;omega
    have hj0:(0:Int)≤(j:Int):=by omega
    have HY:=hide hy
    clear hy
    by_cases h0:y=0
    · have z0:((y:Int) != 0)=false:=by simp [h0]
      generalize hl:ws.length=l at *
      have HLL:=hide hl
      clear hl
      go_wp2
      go_roundw
      case rel=>exact ⟨j+1,by first | exact num_next hlt (by have:=HL.out;omega) | go_num,by rw [HLL.out];exact hlt,fun q hq=>(by
        rcases Nat.lt_or_ge q j with h | h
        · exact HZ.out q h
        · rw [show q=j by omega,HY.out,h0]),rfl⟩
      case measure=>first | exact meas_int hlt (by have:=HL.out;omega) | (rw [intOf_int,intOf_int];omega)
    · have z0:((y:Int) != 0)=true:=by simp;omega
      have hy64:y<18446744073709551616:=(HWS.out j y HY.out).1
      obtain ⟨W,hW⟩ : ∃ W,wr.setCell ⟨b,j,none⟩ (.int .u64 ((y &&& (y - 1):Nat):Int))=W:=⟨_,rfl⟩
      have HF:=hide (HYY.out j y HY.out h0 HZ.out W hW)
      have hs1:IntKind.u64.wrap ((y:Int) - 1)=((y - 1:Nat):Int):=by rw [IntKind.wrap_u64,show (y:Int) - 1=((y - 1:Nat):Int) by omega];exact Int.emod_eq_of_lt (by omega) (by omega)
      have hand:bits .and .u64 (y:Int) ((y - 1:Nat):Int)=((y &&& (y - 1):Nat):Int):=bits_and_u64_nat _ _ hy64 (by omega)
      have TW:Tb W:=HT.out.keep (by rw [← hW];exact Below.heap_setCell _ _ _ 0 (fun e=>HB0.out e.symm))
      have CT:=hide (tz64_any y hy64 h0 W TW)
      have hct:Lib.ctz 64 y<64:=(ctz_form h0 hy64).choose_spec.2
      clear TW hy64 h0
      generalize ws.length=l at *
      generalize Lib.ctz 64 y=t at *
      generalize y - 1=y1 at *
      generalize y &&& y1=y2 at *
      go_wp2_with fail
      refine CT.out.mono ?_
      rintro e w2 ⟨rfl,rfl⟩
      have ht1:(t:Int)<64:=by omega
      have ht0:(0:Int)≤(t:Int):=by omega
      go_wp2
      go_ret2
      exact HF.out
  · obtain rfl:j=ws.length:=by omega
    have d1:decide (ws.length<ws.length)=false:=by simp
    have HF:=hide (HNN.out HZ.out)
    generalize ws.length=l at *
    go_wp2
    go_ret2
    exact HF.out
end
end Go.Proofs.YtkdojpnihinpbaaGreatDoor
