/- Truths and maps in memory; the document's Bits, SameBits. -/
import Derived.Test.YtkdojpnihinpbaaGreatDoorMpPJo
import Derived.Test.YtkdojpnihinpbaaGreatDoorMpJJo
import Derived.Test.YtkdojpnihinpbaaGreatDoorVfCnJo
namespace Go.Proofs.YtkdojpnihinpbaaGreatDoor
set_option maxRecDepth 100000
set_option maxHeartbeats 1000000
open Go.RowKit
theorem flatM {k:Nat}:∀ {css:List (List Value)},(∀ c∈css,c.length=k)→css.flatten.length=css.length*k∧∀ (j:Nat) (c:List Value) (r:Nat) (u:Value),css[j]?=some c→c[r]?=some u→css.flatten[j*k+r]?=some u
  | [],_=>⟨by simp,fun j c r u h=>by simp at h⟩
  | a :: t,h=>by
   obtain ⟨ih1,ih2⟩:=flatM (css:=t) (fun c hc=>h c (by simp [hc]))
   have ha:=h a (by simp)
   refine ⟨by rw [List.flatten_cons,List.length_append,ih1,ha,List.length_cons,Nat.succ_mul,Nat.add_comm],fun j c r u hj hr=>?_⟩
   rw [List.flatten_cons]
   cases j with
   | zero =>
    cases hj
    rw [Nat.zero_mul,Nat.zero_add,List.getElem?_append_left (get_lt hr)]
    exact hr
   | succ j =>
    rw [List.getElem?_cons_succ] at hj
    rw [List.getElem?_append_right (by rw [ha,Nat.succ_mul];omega),show (j+1)*k+r - a.length=j*k+r by rw [ha,Nat.succ_mul];omega]
    exact ih2 j c r u hj hr
def BsAt (w:World) (v:Value) (bs:List Bool):Prop:=∃ ao cap,v=.slice ao bs.length cap∧∀ (j:Nat) (b:Bool),bs[j]?=some b→∃ g o,ao=some ⟨g,o,none⟩∧g<w.heap.size∧w.cell? ⟨g,o+j,none⟩=some (.bool b)
def MsAt (w:World) (lo:List Int) (v:Value) (ms:List (Nat × List Int)):Prop:=∃ ao cap,v=.slice ao ms.length cap∧∀ (j:Nat) (m:Nat × List Int),ms[j]?=some m→∃ g o v1 v2,ao=some ⟨g,o,none⟩∧g<w.heap.size∧w.cell? ⟨g,o+j*3,none⟩=some (.int .i64 (m.1:Int))∧w.cell? ⟨g,o+j*3+1,none⟩=some v1∧w.cell? ⟨g,o+j*3+2,none⟩=some v2∧BsAt w v1 (nzs lo)∧BsAt w v2 (nzs m.2)
section
variable {w w' : World} {v u:Value} {bs cs:List Bool} {ks lo:List Int} {ms:List (Nat × List Int)}
theorem BsAt.below (h:BsAt w v bs) (hb:Below w.heap.size w w'):BsAt w' v bs:=by
 obtain ⟨ao,cap,h1,h2⟩:=h
 refine ⟨ao,cap,h1,fun j b hj=>?_⟩
 obtain ⟨g,o,e1,e2,e3⟩:=h2 j b hj
 exact ⟨g,o,e1,Nat.lt_of_lt_of_le e2 hb.size,(hb.cell (p:=⟨g,o+j,none⟩) e2).trans e3⟩
theorem BsAt.block {g:Nat} (h:w.heap[g]?=some (.cells (bvM bs).toArray 4 (0,0))):BsAt w (.slice (some ⟨g,0,none⟩) bs.length bs.length) bs :=
  ⟨_,_,rfl,fun j b hj=>⟨g,0,rfl,lt_of_block h,by rw [Nat.zero_add];exact cell_of h (by rw [List.getElem?_toArray];simp [bvM,hj])⟩⟩
theorem BsAt.own {D n:Nat} (h:w.ownsRow D 4 1 v n (bvM bs)) (hn:n=bs.length):BsAt w v bs:=by
 subst hn
 rcases h.2 with ⟨rfl,h0⟩ | ⟨g,cap,cur,rfl,h1,h2,h3,h4,h5,h6⟩
 · have:=List.eq_nil_of_length_eq_zero h0
   subst this
   exact ⟨none,0,rfl,fun j b hj=>by simp at hj⟩
 · refine ⟨_,cap,rfl,fun j b hj=>⟨g,0,rfl,lt_of_block h2,?_⟩⟩
   rw [Nat.zero_add]
   refine cell_of h2 ?_
   have hlt:=get_lt hj
   have h7:(cur.toList.take (bs.length*1))[j]?=some (.bool b):=by rw [h6];simp [bvM,hj]
   rw [List.getElem?_take,if_pos (by omega),Array.getElem?_toList] at h7
   exact h7
theorem BsAt.form (h:BsAt w v bs):∃ a c,v=.slice a bs.length c:=by
 obtain ⟨ao,cap,h1,_⟩:=h
 exact ⟨ao,cap,h1⟩
theorem MsAt.below (h:MsAt w lo v ms) (hb:Below w.heap.size w w'):MsAt w' lo v ms:=by
 obtain ⟨ao,cap,h1,h2⟩:=h
 refine ⟨ao,cap,h1,fun j m hj=>?_⟩
 obtain ⟨g,o,v1,v2,e1,e2,e3,e4,e5,e6,e7⟩:=h2 j m hj
 exact ⟨g,o,v1,v2,e1,Nat.lt_of_lt_of_le e2 hb.size,(hb.cell (p:=⟨g,o+j*3,none⟩) e2).trans e3,(hb.cell (p:=⟨g,o+j*3+1,none⟩) e2).trans e4,(hb.cell (p:=⟨g,o+j*3+2,none⟩) e2).trans e5,e6.below hb,e7.below hb⟩
theorem run_appB {W:World} {C b m:Nat} {v:Value} {xs:List Value} {x:Bool} (hown:W.ownsRow C 4 1 v m xs) (hb:W.heap[b]?=some (.cells #[.bool x] 4 (0,0))) (hlen:m<1000000000) (hB:C≤W.heap.size) :
    ∃ g cap w',(Builtin.append_ #[47,47] 47 #[v,.slice (some ⟨b,0,none⟩) 1 1]).run Tryz.prog W=.ok (.slice (some ⟨g,0,none⟩) (m+1) cap) w' ∧
      w'.ownsRow C 4 1 (.slice (some ⟨g,0,none⟩) (m+1) cap) (m+1) (xs++[.bool x])∧W.grownBy w' v.ownBlock:=by
  obtain ⟨i0,hi,hz0,hz1,hz2⟩:=info_parts info_boolW
  obtain ⟨g,cap,w',h1,h2,h3,_⟩:=run_append_lies (P:=Tryz.prog) W 47 47 C 4 i0 _ 1 1 Tryz.underlying47 hi hz0 hz1 hz2 rfl (by decide) v m xs hown ⟨b,0,none⟩ 1 1 [.bool x] rfl (World.news_of_block hb)
    (by intro u hu;simp at hu;subst hu;rfl) (by decide) (by unfold maxLen;omega) (by omega) hB _ rfl
  exact ⟨g,cap,w',h1,h2,h3⟩
theorem grown_bel {W:World} {T:TypeId} {k D n:Nat} {v:Value} {xs:List Value} (h:W.ownsRow D T k v n xs) (hg:W.grownBy w' v.ownBlock) (hB:D≤W.heap.size):Below D W w':=by
 refine ⟨hg.os,hg.tape,hg.output,hg.size,fun j hj=>hg.block j (by omega) ?_⟩
 rcases h.2 with ⟨rfl,_⟩ | ⟨g,cap,cur,rfl,h1,_⟩
 · intro h;cases h
 · intro h
   simp only [Value.ownBlock,Option.some.injEq] at h
   omega
end
section
variable {w:World} {bs cs:List Bool} {ks:List Int}
def SbL (n:Nat) (w:World) (a:Value) (wr:World) (bs cs:List Bool):Prop:=∃ j:Nat,a=.int .i64 j∧j≤n∧bs.take j=cs.take j∧Below w.heap.size w wr
theorem sameBits_any {v u:Value} (A:BsAt w v bs) (C:BsAt w u cs) (hl:bs.length≤300000000):Calls Tryz.prog 17 #[v,u] w fun e W=>e=.returned (.bool (decide (bs=cs)))∧Below w.heap.size w W:=by
 obtain ⟨ao,ca,rfl,hA⟩:=A
 obtain ⟨co,cc,rfl,hC⟩:=C
 by_cases hne:bs.length=cs.length
 · have HA:=hide (show ∀ W:World,Below w.heap.size w W→∀ (j:Nat) (b:Bool),bs[j]?=some b→∃ g o,ao=some ⟨g,o,none⟩∧g<W.heap.size∧W.cell? ⟨g,o+j,none⟩=some (.bool b) from fun W h j b hj=>by
    obtain ⟨g,o,e1,e2,e3⟩:=hA j b hj
    exact ⟨g,o,e1,Nat.lt_of_lt_of_le e2 h.size,(h.cell (p:=⟨g,o+j,none⟩) e2).trans e3⟩)
   have HC:=hide (show ∀ W:World,Below w.heap.size w W→∀ (j:Nat) (b:Bool),cs[j]?=some b→∃ g o,co=some ⟨g,o,none⟩∧g<W.heap.size∧W.cell? ⟨g,o+j,none⟩=some (.bool b) from fun W h j b hj=>by
    obtain ⟨g,o,e1,e2,e3⟩:=hC j b hj
    exact ⟨g,o,e1,Nat.lt_of_lt_of_le e2 h.size,(h.cell (p:=⟨g,o+j,none⟩) e2).trans e3⟩)
   have HD:=hide (show ∀ (j:Nat) (b c:Bool),bs[j]?=some b→cs[j]?=some c→(b != c)=true→decide (bs=cs)=false from fun j b c h1 h2 h3=>by
    rw [decide_eq_false_iff_not]
    intro h
    subst h
    rw [h1] at h2
    cases h2
    simp at h3)
   clear hA hC
   obtain ⟨n,hn⟩ : ∃ n,cs.length=n:=⟨_,rfl⟩
   have HB:=hide (show bs.length=n from hne.trans hn)
   have HN:=hide hn
   rw [hne,hn] at hl ⊢
   clear hne hn
   have q0:((n:Int) != (n:Int))=false:=by simp
   go_enter Tryz.func17,Tryz.ntmps17
   go_wp2
   go_loopw [5] (fun a wr=>SbL n w a wr bs cs) (fun a _=>n - (intOf a).toNat)
   case atStart=>exact ⟨0,rfl,Nat.zero_le _,rfl,Below.refl _ _⟩
   case round =>
    obtain ⟨j,rfl,hj,hs,hb⟩:=hrel
    have HS:=hide hs
    have HW:=hide hb
    clear hs hb
    by_cases hlt:j<n
    · obtain ⟨x,hx⟩ : ∃ x,bs[j]?=some x:=⟨bs[j]'(by rw [HB.out];exact hlt),by simp⟩
      obtain ⟨y,hy⟩ : ∃ y,cs[j]?=some y:=⟨cs[j]'(by rw [HN.out];exact hlt),by simp⟩
      obtain ⟨g,o,rfl,hg,hc⟩:=HA.out wr HW.out j x hx
      obtain ⟨g2,o2,rfl,hg2,hc2⟩:=HC.out wr HW.out j y hy
      have d1:decide (j<n)=true:=by simpa using hlt
      have d2:(j:Int)≤300000000:=by omega
      by_cases hxy:x=y
      · subst hxy
        have HX:=hide (show bs.take (j+1)=cs.take (j+1) from by rw [List.take_add_one,List.take_add_one,hx,hy,HS.out])
        clear hx hy
        cases x
        all_goals (
          go_wp2
          go_region
          go_wp2
          refine ⟨⟨j+1,by first | exact num_next hlt (by omega) | go_num,hlt,HX.out,below_drew HW.out⟩,?_⟩
          first | exact meas_int hlt (by omega) | (rw [intOf_int,intOf_int];omega))
      · have HE:=hide (HD.out j x y hx hy (by simpa using hxy))
        clear hx hy
        cases x <;> cases y
        all_goals first
          | exact absurd rfl hxy
          | (go_wp2
             go_region
             go_wp2
             go_ret
             exact ⟨by rw [HE.out];rfl,below_drew HW.out⟩)
    · obtain rfl:n=j:=by omega
      have HE:=hide (show decide (bs=cs)=true from by
       rw [decide_eq_true_eq]
       have h:=HS.out
       rwa [List.take_of_length_le (Nat.le_of_eq HB.out),List.take_of_length_le (Nat.le_of_eq HN.out)] at h)
      have d1:decide (n<n)=false:=by simp
      go_wp2
      go_ret
      exact ⟨by rw [HE.out];rfl,HW.out⟩
 · have HE:=hide (show decide (bs=cs)=false from by
    rw [decide_eq_false_iff_not]
    intro h
    exact hne (by rw [h]))
   have q0:((bs.length:Int) != (cs.length:Int))=true:=by simp;omega
   clear hA hC hne
   generalize bs.length=n1 at *
   generalize cs.length=n2 at *
   go_enter Tryz.func17,Tryz.ntmps17
   go_wp2
   go_ret
   exact ⟨by rw [HE.out];rfl,Below.refl _ _⟩
def BiL (ks:List Int) (w:World) (a i:Value) (wr:World):Prop:=∃ (j m:Nat) (ao:Option Addr) (cap:Nat),i=.int .i64 j∧j≤ks.length∧a=.slice ao m cap∧m=j∧wr.ownsRow w.heap.size 4 1 a m (bvM (nzs (ks.take j)))∧Below w.heap.size w wr
theorem bits_any {v:Value} (R:IsAt (fun _=>False) w v ks) (hl:ks.length≤300000000):Calls Tryz.prog 15 #[v] w fun e W=>∃ u,e=.returned u∧BsAt W u (nzs ks)∧Below w.heap.size w W:=by
 obtain ⟨ao,cap,rfl,_,_,hel⟩:=R
 have HEL:=hide (show ∀ W:World,Below w.heap.size w W→∀ (j:Nat) (k:Int),ks[j]?=some k→∃ g o,ao=some ⟨g,o,none⟩∧g<W.heap.size∧W.cell? ⟨g,o+j,none⟩=some (.int .i64 k) from fun W h j k hk=>by
  obtain ⟨g,o,h1,h2,_,h4⟩:=hel j k hk
  exact ⟨g,o,h1,Nat.lt_of_lt_of_le h2 h.size,(h.cell (p:=⟨g,o+j,none⟩) h2).trans h4⟩)
 have HL:=hide hl
 obtain ⟨W0,hW0⟩ : ∃ W0,w.alloc (.cells #[] 4)=W0:=⟨_,rfl⟩
 have S0:=hide (show BiL ks w (.slice (some ⟨w.heap.size,0,none⟩) 0 0) (.int .i64 0) W0 from by
  rw [← hW0]
  refine ⟨0,0,_,_,rfl,Nat.zero_le _,rfl,rfl,⟨by simp [nzs],.inr ⟨w.heap.size,0,#[],rfl,Nat.le_refl _,heap_new _ _ rfl,Nat.le_refl _,by unfold maxLen;omega,rfl,rfl⟩⟩,(Below.refl _ _).alloc (Nat.le_refl _) _⟩)
 clear hel hl
 obtain ⟨n,hn⟩ : ∃ n,ks.length=n:=⟨_,rfl⟩
 have HN:=hide hn
 rw [hn]
 clear hn
 go_enter Tryz.func15,Tryz.ntmps15
 go_wp2
 go_loopw [3,4] (fun a i wr=>BiL ks w a i wr) (fun _ i _=>n - (intOf i).toNat)
 case atStart=>exact S0.out
 case round =>
  obtain ⟨j,m,ao2,cap2,rfl,hj,rfl,hm,hown,hb⟩:=hrel
  rw [HN.out] at hj
  have hnb:n≤300000000:=by have:=HL.out;rwa [HN.out] at this
  have HB:=hide hb
  have HO:=hide hown
  clear S0 hb hown
  by_cases hlt:j<n
  · obtain ⟨x,hx⟩ : ∃ x,ks[j]?=some x:=⟨ks[j]'(by rw [HN.out];exact hlt),by simp⟩
    obtain ⟨g,o,rfl,hg,hc⟩:=HEL.out wr HB.out j x hx
    obtain ⟨V1,hV1⟩ : ∃ V1,wr.alloc (.cells #[.bool (x != 0)] 4)=V1:=⟨_,rfl⟩
    have b1:Below wr.heap.size wr V1:=by rw [← hV1];exact (Below.refl _ _).alloc (Nat.le_refl _) _
    have hown1:=ownsRow_keep HO.out (w':=V1) (fun q hq=>b1.block q (by
      rcases HO.out.2 with ⟨h,_⟩ | ⟨g',cap',cur,h,_,h2,_⟩
      · rw [h] at hq;cases hq
      · rw [h] at hq;cases hq;exact lt_of_block h2))
    obtain ⟨g4,cap4,V3,hrun,hown3,hgrow⟩:=run_appB (b:=wr.heap.size) (x:=x != 0) hown1 (by rw [← hV1];exact heap_new _ _ rfl) (by omega) (Nat.le_trans HB.out.size b1.size)
    have HR:=hide (show BiL ks w (.slice (some ⟨g4,0,none⟩) (m+1) cap4) (.int .i64 ((j+1:Nat):Int)) V3 from ⟨j+1,m+1,_,_,rfl,by rw [HN.out];exact hlt,rfl,by rw [hm],by
     have h:nzs (ks.take (j+1))=nzs (ks.take j)++[x != 0]:=by
      unfold nzs
      rw [List.take_add_one,hx,List.map_append]
      rfl
     rw [h]
     simpa [bvM] using hown3,(HB.out.trans (b1.mono HB.out.size)).trans (grown_bel hown1 hgrow (Nat.le_trans HB.out.size b1.size))⟩)
    have d1:decide (j<n)=true:=by simpa using hlt
    have d2:(j:Int)≤300000000:=by omega
    have d3:(m:Int)≤300000000:=by omega
    clear hx hown1 hown3 hgrow hm b1
    go_wp2_with (at_builtin;refine wpList_append_eq rfl _ _ 47 47 rfl rfl rfl hrun ?_;clear hrun)
    go_roundw
    case rel=>exact HR.out
    case measure=>first | exact meas_int hlt (by omega) | (rw [intOf_int,intOf_int];omega)
  · obtain rfl:n=j:=by omega
    have HE:=hide (show BsAt wr (.slice ao2 m cap2) (nzs ks) from by
     have h:=HO.out
     rw [List.take_of_length_le (Nat.le_of_eq HN.out)] at h
     exact BsAt.own h (by rw [nzs_len,HN.out];exact hm))
    have d1:decide (n<n)=false:=by simp
    go_wp2
    go_ret
    exact ⟨_,rfl,HE.out,HB.out⟩
end
end Go.Proofs.YtkdojpnihinpbaaGreatDoor

namespace Go.Proofs.YtkdojpnihinpbaaGreatDoor
open Go.RowKit
def selP (f:Fd) (M:List (Option (List Int))) (k:Nat):List (Nat × List Int):=(List.range k).filterMap fun x=>if safeB (coAt f x).o=true then ((M[x]?).getD none).map fun s=>(x,s) else none
theorem selP_none {f:Fd} {M:List (Option (List Int))} {k:Nat} (h:M[k]?=some none∨safeB (coAt f k).o=false):selP f M (k+1)=selP f M k:=by
 unfold selP
 rw [List.range_succ,List.filterMap_append]
 rcases h with h | h
 · simp [h]
 · simp [h]
theorem selP_some {f:Fd} {M:List (Option (List Int))} {k:Nat} {s:List Int} (h:M[k]?=some (some s)) (hs:safeB (coAt f k).o=true):selP f M (k+1)=selP f M k++[(k,s)]:=by
 unfold selP
 rw [List.range_succ,List.filterMap_append]
 congr 1
 simp [h,hs]
theorem selP_len {f:Fd} {M:List (Option (List Int))} (k:Nat):(selP f M k).length≤k:=by
 unfold selP
 exact Nat.le_trans (List.length_filterMap_le _ _) (by simp)
theorem info_map:(Tryz.prog.info? 51).map (fun i=>(i.zero,i.size,i.bytes))=some (some (.agg #[.int .i64 0,.slice none 0 0,.slice none 0 0]),3,56):=by kernel_rfl
abbrev mapV (x l1 l2:Nat) (g1 g2:Nat):List Value:=[.int .i64 (x:Int),.slice (some ⟨g1,0,none⟩) l1 l1,.slice (some ⟨g2,0,none⟩) l2 l2]
structure OwM (D:Nat) (W:World) (lo:List Int) (v:Value) (ms:List (Nat × List Int)) (css:List (List Value)):Prop where
  row:W.ownsRow D 51 3 v ms.length css.flatten
  len:css.length=ms.length
  is:∀ (j:Nat) (m:Nat × List Int),ms[j]?=some m→∃ g1 g2,css[j]?=some (mapV m.1 lo.length m.2.length g1 g2)∧W.heap[g1]?=some (.cells (bvM (nzs lo)).toArray 4 (0,0))∧W.heap[g2]?=some (.cells (bvM (nzs m.2)).toArray 4 (0,0))
section
variable {D:Nat} {W W' : World} {lo:List Int} {v:Value} {ms:List (Nat × List Int)} {css:List (List Value)}
theorem OwM.three (O:OwM D W lo v ms css):∀ c∈css,c.length=3:=fun c hc=>by
 obtain ⟨j,hj,rfl⟩:=List.mem_iff_getElem.mp hc
 have hm:ms[j]?=some (ms[j]'(by rw [← O.len];exact hj)):=List.getElem?_eq_getElem _
 obtain ⟨g1,g2,h1,_⟩:=O.is j _ hm
 rw [List.getElem?_eq_getElem hj] at h1
 rw [Option.some.inj h1]
 rfl
theorem ownB_lt {T:TypeId} {k n:Nat} {xs:List Value} (h:W.ownsRow D T k v n xs) {q:Nat} (hq:v.ownBlock=some q):q<W.heap.size:=by
 rcases h.2 with ⟨h,_⟩ | ⟨g',cap',cur,h,_,h2,_⟩
 · rw [h] at hq;cases hq
 · rw [h] at hq;cases hq;exact lt_of_block h2
theorem OwM.below (O:OwM D W lo v ms css) (h:Below W.heap.size W W'):OwM D W' lo v ms css :=
  ⟨ownsRow_keep O.row (fun q hq=>h.block q (ownB_lt O.row hq)),O.len,fun j m hj=>by
   obtain ⟨g1,g2,h1,h2,h3⟩:=O.is j m hj
   exact ⟨g1,g2,h1,(h.block _ (lt_of_block h2)).trans h2,(h.block _ (lt_of_block h3)).trans h3⟩⟩
theorem OwM.lies (O:OwM D W lo v ms css):MsAt W lo v ms:=by
 rcases O.row.2 with ⟨rfl,h0⟩ | ⟨g,cap,cur,rfl,h1,h2,h3,h4,h5,h6⟩
 · have:=List.eq_nil_of_length_eq_zero h0
   subst this
   exact ⟨none,0,rfl,fun j m hj=>by simp at hj⟩
 · refine ⟨_,cap,rfl,fun j m hj=>?_⟩
   obtain ⟨g1,g2,e1,e2,e3⟩:=O.is j m hj
   have hc:∀ (r:Nat) u,(mapV m.1 lo.length m.2.length g1 g2)[r]?=some u→W.cell? ⟨g,0+j*3+r,none⟩=some u:=by
    intro r u hr
    have h7:=(flatM O.three).2 j _ r u e1 hr
    rw [← h6,List.getElem?_take] at h7
    rw [Nat.zero_add]
    split at h7
    · rw [Array.getElem?_toList] at h7
      exact cell_of h2 h7
    · cases h7
   refine ⟨g,0,_,_,rfl,lt_of_block h2,hc 0 _ rfl,hc 1 _ rfl,hc 2 _ rfl,?_,?_⟩
   · have:=BsAt.block e2
     rwa [nzs_len] at this
   · have:=BsAt.block e3
     rwa [nzs_len] at this
theorem OwM.push {b x g1 g2:Nat} {s:List Int} (O:OwM D W lo v ms css) (hD:D≤W.heap.size) (hm:ms.length<1000000) (hb:W.heap[b]?=some (.cells (mapV x lo.length s.length g1 g2).toArray 51 (0,0))) (h1:W.heap[g1]?=some (.cells (bvM (nzs lo)).toArray 4 (0,0))) (h2:W.heap[g2]?=some (.cells (bvM (nzs s)).toArray 4 (0,0))) :
    ∃ g cap W',(Builtin.append_ #[28,28] 28 #[v,.slice (some ⟨b,0,none⟩) 1 1]).run Tryz.prog W=.ok (.slice (some ⟨g,0,none⟩) (ms.length+1) cap) W'∧OwM D W' lo (.slice (some ⟨g,0,none⟩) (ms.length+1) cap) (ms++[(x,s)]) (css++[mapV x lo.length s.length g1 g2])∧Below D W W':=by
  obtain ⟨i0,hi,hz0,hz1,hz2⟩:=info_parts info_map
  obtain ⟨g,cap,W',hrun,hown,hgrow,_⟩:=run_append_lies (P:=Tryz.prog) W 28 28 D 51 i0 _ 3 56 Tryz.underlying28 hi hz0 hz1 hz2 rfl (by decide) v ms.length _ O.row ⟨b,0,none⟩ 1 1 (mapV x lo.length s.length g1 g2) rfl (World.news_of_block hb)
    (by intro u hu;simp at hu;rcases hu with rfl | rfl | rfl <;> rfl) (by decide) (by unfold maxLen;omega) (by omega) hD _ rfl
  have hne:∀ {q:Nat} {bs:Array Value},W.heap[q]?=some (.cells bs 4 (0,0))→W'.heap[q]?=some (.cells bs 4 (0,0)):=fun {q bs} hq=>(hgrow.block q (lt_of_block hq) (fun h=>by
   rcases O.row.2 with ⟨h',_⟩ | ⟨g',cap',cur,h',_,h3,_⟩
   · rw [h'] at h;cases h
   · rw [h'] at h
     cases h
     rw [hq] at h3
     simp at h3)).trans hq
  refine ⟨g,cap,W',hrun,⟨?_,by simp [O.len],fun j m hj=>?_⟩,grown_bel O.row hgrow hD⟩
  · rw [List.flatten_append,List.length_append,List.length_singleton]
    simpa using hown
  · rcases Nat.lt_or_ge j ms.length with hlt | hge
    · rw [List.getElem?_append_left hlt] at hj
      obtain ⟨q1,q2,e1,e2,e3⟩:=O.is j m hj
      exact ⟨q1,q2,by rw [List.getElem?_append_left (by rw [O.len];exact hlt)];exact e1,hne e2,hne e3⟩
    · rw [List.getElem?_append_right hge] at hj
      have h0:j - ms.length=0:=by have:=get_lt hj;simp at this;omega
      rw [h0] at hj
      cases hj
      exact ⟨g1,g2,by rw [List.getElem?_append_right (by rw [O.len];exact hge),O.len,h0];rfl,hne h1,hne h2⟩
end
def OmO (p:Pg) (m:Int) (w:World) (e:Ending) (W:World):Prop:=Below w.heap.size w W ∧
  (((checkP p).2.2≠0∧e=.returned (.tuple #[.slice none 0 0,.int .i64 (checkP p).2.2])) ∨
  ((checkP p).2.2=0∧inB m p.fu.length=false∧e=.returned (.tuple #[.slice none 0 0,.int .i64 6])) ∨
  ∃ (k:Nat) (f:Fd) (F:Fl) (v:Value),(checkP p).2.2=0∧m=(k:Int)∧p.fu[k]?=some f∧followP p f=.ok F∧e=.returned (.tuple #[v,.int .i64 0])∧MsAt W f.lo v (selP f F.ah f.co.length))
def OmR (f:Fd) (M:List (Option (List Int))) (n:Nat) (w4:World) (a i:Value) (W:World):Prop:=∃ (k m:Nat) (ao:Option Addr) (cap:Nat) (css:List (List Value)),i=.int .i64 (k:Int)∧k≤n∧a=.slice ao m cap∧m=(selP f M k).length∧OwM w4.heap.size W f.lo a (selP f M k) css∧Below w4.heap.size w4 W
section
variable {B:Nat} {w:World} {p:Pg}
set_option maxRecDepth 100000 in
set_option maxHeartbeats 2000000 in
theorem mapsOf_any {v1 v2 v3 v4:Value} (P:PgAt B w v1 v2 v3 v4 p) (hB:B≤w.heap.size) (hT:Tb w) (hb0:0<B) (m:Int):Calls Tryz.prog 4 #[.agg #[v1,v2,v3,v4],.int .i64 m] w (OmO p m w):=by
 obtain ⟨a1,d1,hv1⟩:=sl_form P.ty
 obtain ⟨a2,d2,hv2⟩:=sl_form P.fu
 obtain ⟨a3,d3,hv3⟩:=sl_form P.ta
 obtain ⟨a4,d4,hv4⟩:=sl_form P.st
 subst hv1 hv2 hv3 hv4
 obtain ⟨W1,hW1⟩ : ∃ W1,w.alloc (.cells #[.slice a1 p.ty.length d1,.slice a2 p.fu.length d2,.slice a3 p.ta.length d3,.slice a4 p.st.length d4] 27)=W1:=⟨_,rfl⟩
 have b1:Below w.heap.size w W1:=by rw [← hW1];exact (Below.refl _ _).alloc (Nat.le_refl _) _
 have e1:W1.heap[w.heap.size]?=some (.cells #[.slice a1 p.ty.length d1,.slice a2 p.fu.length d2,.slice a3 p.ta.length d3,.slice a4 p.st.length d4] 27 (0,0)):=by rw [← hW1];exact heap_new _ _ rfl
 have HPW:=hide (show ∀ W:World,Below W1.heap.size W1 W→PgAt B W (.slice a1 p.ty.length d1) (.slice a2 p.fu.length d2) (.slice a3 p.ta.length d3) (.slice a4 p.st.length d4) p∧B≤W.heap.size from fun W h=>⟨P.keep (Nat.le_refl _) (fun j hj=>(bel_tr b1 h).block j (Nat.lt_of_lt_of_le hj hB)),Nat.le_trans hB (bel_tr b1 h).size⟩)
 have HPB:=hide (show ∀ W:World,Below W1.heap.size W1 W→W.heap[w.heap.size]?=some (.cells #[.slice a1 p.ty.length d1,.slice a2 p.fu.length d2,.slice a3 p.ta.length d3,.slice a4 p.st.length d4] 27 (0,0)) from fun W h=>(h.block _ (lt_of_block e1)).trans e1)
 have HSZ:=hide (size_any (HPW.out W1 (Below.refl _ _)).1 (HPW.out W1 (Below.refl _ _)).2 (hT.keep (b1.block 0 (Nat.lt_of_lt_of_le hb0 hB))) hb0 m)
 have HB1:=hide b1
 have k0:W1.cell? ⟨w.heap.size,0,none⟩=some (.slice a1 p.ty.length d1):=cell_of e1 rfl
 have k1:W1.cell? ⟨w.heap.size,1,none⟩=some (.slice a2 p.fu.length d2):=cell_of e1 rfl
 have k2:W1.cell? ⟨w.heap.size,2,none⟩=some (.slice a3 p.ta.length d3):=cell_of e1 rfl
 have k3:W1.cell? ⟨w.heap.size,3,none⟩=some (.slice a4 p.st.length d4):=cell_of e1 rfl
 clear P hB hT b1 e1
 go_enter Tryz.func4,Tryz.ntmps4
 go_wp2_with fail
 refine HSZ.out.mono ?_
 rintro e w2 ⟨hb2,(⟨hc,rfl⟩ | ⟨hc,hi,rfl⟩ | ⟨k,f,F,hc,hm,hf,hF,rfl⟩)⟩
 · have HB2:=hide (bel_tr HB1.out hb2)
   have HC:=hide hc
   obtain ⟨ce,hce⟩ : ∃ c,(checkP p).2.2=c:=⟨_,rfl⟩
   have HF:=hide (show ∀ W,Below w.heap.size w W→OmO p m w (.returned (.tuple #[.slice none 0 0,.int .i64 ce])) W from fun W h=>⟨h,.inl ⟨HC.out,by rw [hce]⟩⟩)
   rw [hce] at hc ⊢
   have q0:(ce != 0)=true:=by simpa using hc
   clear hb2 hc hce
   go_wp2
   go_ret2
   exact HF.out _ HB2.out
 · have HB2:=hide (bel_tr HB1.out hb2)
   have HF:=hide (show ∀ W,Below w.heap.size w W→OmO p m w (.returned (.tuple #[.slice none 0 0,.int .i64 6])) W from fun W h=>⟨h,.inr (.inl ⟨hc,hi,rfl⟩)⟩)
   clear hb2 hc hi
   go_wp2
   go_ret2
   exact HF.out _ HB2.out
 · obtain ⟨_,o1,o2,_⟩:=check_ok hc
   have H:=hok_of o1 o2
   have hfo:=H.fu f (List.mem_of_getElem? hf)
   have I:=follow_inv H hfo hF
   have C:=follow_cl H hfo hF
   have HB2:=hide hb2
   have PW2:=HPW.out w2 hb2
   obtain ⟨g,o,c,n,x1,x2,x3,x4,hv,hn,hlt,hg,⟨y0,y1,y2,y3,y4⟩,r1,r2,r3,r4⟩:=fd_at PW2.1.fu hf
   cases hv
   obtain ⟨b1,e1,rfl⟩:=sl_form r1
   obtain ⟨b2,e2,rfl⟩:=sl_form r2
   obtain ⟨b3,e3,rfl⟩:=sl_form r3
   obtain ⟨b4,e4,rfl⟩:=sl_form r4
   have hgw:g<w2.heap.size:=Nat.lt_of_lt_of_le hg PW2.2
   have j0:=cell_of (HPB.out w2 hb2) (o:=0) rfl
   have j1:=cell_of (HPB.out w2 hb2) (o:=1) rfl
   have j2:=cell_of (HPB.out w2 hb2) (o:=2) rfl
   have j3:=cell_of (HPB.out w2 hb2) (o:=3) rfl
   have hpw:w.heap.size<w2.heap.size:=lt_of_block (HPB.out w2 hb2)
   obtain ⟨W3,hW3⟩ : ∃ W3,w2.alloc (.cells #[.int .i64 f.pa,.slice b1 f.lo.length e1,.slice b2 f.re.length e2,.slice b3 f.ar.length e3,.slice b4 f.co.length e4] 40)=W3:=⟨_,rfl⟩
   have bl3:Below w2.heap.size w2 W3:=by rw [← hW3];exact (Below.refl _ _).alloc (Nat.le_refl _) _
   have hF3:W3.heap[w2.heap.size]?=some (.cells #[.int .i64 f.pa,.slice b1 f.lo.length e1,.slice b2 f.re.length e2,.slice b3 f.ar.length e3,.slice b4 f.co.length e4] 40 (0,0)):=by rw [← hW3];exact heap_new _ _ rfl
   have hB3:∀ j,j<B→W3.heap[j]?=w2.heap[j]?:=fun j hj=>bl3.block j (Nat.lt_of_lt_of_le hj PW2.2)
   have Y3:WyAt B W3 (.slice a1 p.ty.length d1) (.slice (some ⟨g,o,none⟩) p.fu.length d2) (.slice a3 p.ta.length d3) (.slice a4 p.st.length d4) (.slice b1 f.lo.length e1) (.slice b2 f.re.length e2) (.slice b3 f.ar.length e3) (.slice b4 f.co.length e4) p f :=
     ⟨Nat.le_trans PW2.2 bl3.size,PW2.1.keep (Nat.le_refl _) hB3,ints_keep (Nat.le_refl _) hB3 r1,ints_keep (Nat.le_refl _) hB3 r2,ints_keep (Nat.le_refl _) hB3 r3,ins_keep (Nat.le_refl _) hB3 r4⟩
   have hMB:∀ (y:Nat) (t:List Int),F.ah[y]?=some (some t)→(∀ k∈t,isKB p.ty.length k=true)∧t.length≤300000000:=fun y t ht=>by
    obtain ⟨h1,h2⟩:=I.st y t ht
    have:=hfo.nc
    exact ⟨h1,by omega⟩
   have HAD:=hide (aheads_any Y3 H hfo C hMB)
   have HY3:=hide Y3
   have HMB:=hide hMB
   have HLA:=hide I.la
   have HNC:=hide hfo.nc
   have HNL:=hide hfo.nl
   have HF:=hide (show ∀ (W:World) (v:Value),Below w.heap.size w W→MsAt W f.lo v (selP f F.ah f.co.length)→OmO p m w (.returned (.tuple #[v,.int .i64 0])) W from fun W v h hv=>⟨h,.inr (.inr ⟨k,f,F,v,hc,hm,hf,hF,rfl,hv⟩)⟩)
   have HB3:=hide (show Below w.heap.size w W3 from bel_tr (bel_tr HB1.out HB2.out) bl3)
   have HF3:=hide hF3
   have dk:decide (k<p.fu.length)=true:=by simpa using hlt
   have p0:W3.cell? ⟨w.heap.size,0,none⟩=some (.slice a1 p.ty.length d1):=(bl3.cell (p:=⟨w.heap.size,0,none⟩) hpw).trans j0
   have p1:W3.cell? ⟨w.heap.size,1,none⟩=some (.slice (some ⟨g,o,none⟩) p.fu.length d2):=(bl3.cell (p:=⟨w.heap.size,1,none⟩) hpw).trans j1
   have p2:W3.cell? ⟨w.heap.size,2,none⟩=some (.slice a3 p.ta.length d3):=(bl3.cell (p:=⟨w.heap.size,2,none⟩) hpw).trans j2
   have p3:W3.cell? ⟨w.heap.size,3,none⟩=some (.slice a4 p.st.length d4):=(bl3.cell (p:=⟨w.heap.size,3,none⟩) hpw).trans j3
   have hpw3:w.heap.size<W3.heap.size:=Nat.lt_of_lt_of_le hpw bl3.size
   have f0:W3.cell? ⟨w2.heap.size,0,none⟩=some (.int .i64 f.pa):=cell_of hF3 rfl
   have f1:W3.cell? ⟨w2.heap.size,1,none⟩=some (.slice b1 f.lo.length e1):=cell_of hF3 rfl
   have f2:W3.cell? ⟨w2.heap.size,2,none⟩=some (.slice b2 f.re.length e2):=cell_of hF3 rfl
   have f3:W3.cell? ⟨w2.heap.size,3,none⟩=some (.slice b3 f.ar.length e3):=cell_of hF3 rfl
   have f4:W3.cell? ⟨w2.heap.size,4,none⟩=some (.slice b4 f.co.length e4):=cell_of hF3 rfl
   have hfw3:=lt_of_block hF3
   rw [hm]
   clear hm hc hf hF o1 o2 H hfo I C PW2 hn hg r1 r2 r3 r4 bl3 hF3 hB3 Y3 hMB k0 k1 k2 k3 hb2 HSZ
   go_wp2_with fail
   refine HAD.out.mono ?_
   rintro e w4 ⟨X,E,ahb,rfl,hA,_,hb4⟩
   have HB4:=hide hb4
   have HBW:=hide (show ∀ W:World,Below w4.heap.size w4 W→Below W3.heap.size W3 W from fun W h=>bel_tr hb4 h)
   obtain ⟨_,cs,hcl,hah,hel⟩:=hA
   have hlh:=lt_of_block hah
   have HAH:=hide (show ∀ (W:World),Below w4.heap.size w4 W→∀ (x:Nat) (q:Option (List Int)),F.ah[x]?=some q→∃ c,W.cell? ⟨ahb,x,none⟩=some c∧AhC X E W q c from fun W h x q hq=>by
    obtain ⟨c,c1,c2⟩:=hel x q hq
    exact ⟨c,(h.cell (p:=⟨ahb,x,none⟩) hlh).trans (cell_of hah (by rw [List.getElem?_toArray];exact c1)),c2.keep (Kp.of_below h)⟩)
   have HLO:=hide (show ∀ W:World,Below W3.heap.size W3 W→IsAt (fun _=>False) W (.slice b1 f.lo.length e1) f.lo from fun W h=>is_of_sl (HY3.out.below h).lo (HY3.out.below h).hB (fun _ _ h=>h))
   clear hb4 hel hah hcl p0 p1 p2 p3 f0 f2 f3 HAD HF3
   obtain ⟨n,hn⟩ : ∃ n,f.co.length=n:=⟨_,rfl⟩
   have HN:=hide hn
   rw [hn] at f4 HF HNC hW3
   have HFC:=hide (show ∀ W:World,Below W3.heap.size W3 W→W.cell? ⟨w2.heap.size,1,none⟩=some (.slice b1 f.lo.length e1)∧W.cell? ⟨w2.heap.size,4,none⟩=some (.slice b4 n e4)∧w2.heap.size<W.heap.size from fun W h=>⟨(h.cell (p:=⟨w2.heap.size,1,none⟩) hfw3).trans f1,(h.cell (p:=⟨w2.heap.size,4,none⟩) hfw3).trans f4,Nat.lt_of_lt_of_le hfw3 h.size⟩)
   clear hn f1 f4
   rw [show (Value.slice (some ⟨ahb,0,none⟩) f.co.length f.co.length)=.slice (some ⟨ahb,0,none⟩) n n by rw [HN.out]]
   go_wp2
   go_loopw [9,30] (fun a i wr=>OmR f F.ah n w4 a i wr) (fun _ i _=>n - (intOf i).toNat)
   case atStart=>exact ⟨0,0,none,0,[],rfl,Nat.zero_le _,rfl,rfl,⟨⟨rfl,.inl ⟨rfl,rfl⟩⟩,rfl,fun j m h=>by simp [selP] at h⟩,Below.refl _ _⟩
   case round =>
    obtain ⟨x,q,ao,cap,css,rfl,hx,rfl,hq,hO,hb⟩:=hrel
    have HB:=hide hb
    have HO:=hide hO
    have HQ:=hide hq
    have hql:q≤65536:=by rw [hq];have:=selP_len (f:=f) (M:=F.ah) x;have:=HNC.out;omega
    clear hb hO hq
    by_cases hxl:x<n
    · have hxc:x<f.co.length:=by rw [HN.out];exact hxl
      obtain ⟨ii,hii⟩ : ∃ i,f.co[x]?=some i:=⟨f.co[x],by simp⟩
      have hco:coAt f x=ii:=by unfold coAt;rw [hii];rfl
      have B3:=HBW.out wr HB.out
      obtain ⟨gc,oc,ec,hv4,hgc,i0,_,_⟩:=ins_atM (HY3.out.below B3).co hii
      cases hv4
      have hgcw:gc<wr.heap.size:=Nat.lt_of_lt_of_le hgc (HY3.out.below B3).hB
      obtain ⟨fc1,fc4,hfcl⟩:=HFC.out wr B3
      obtain ⟨oo,ho⟩ : ∃ oo,F.ah[x]?=some oo:=⟨F.ah[x]'(by rw [HLA.out];exact hxc),by simp⟩
      obtain ⟨c,hc,hac⟩:=HAH.out wr HB.out x oo ho
      have hlw:ahb<wr.heap.size:=Nat.lt_of_lt_of_le hlh HB.out.size
      have d1:decide (x<n)=true:=by simpa using hxl
      have d3:(x:Int)≤65536:=by have:=HNC.out;omega
      have SKIP:=hide (show F.ah[x]?=some none∨safeB (coAt f x).o=false→OmR f F.ah n w4 (.slice ao q cap) (.int .i64 ((x+1:Nat):Int)) wr from fun h=>⟨x+1,q,ao,cap,css,rfl,hxl,rfl,by rw [selP_none h];exact HQ.out,by rw [selP_none h];exact HO.out,HB.out⟩)
      cases oo with
      | none =>
       have hac2:c=.pointer none:=hac
       subst hac2
       have HR:=hide (SKIP.out (.inl ho))
       clear ho hii hco SKIP hgc B3
       go_wp2
       go_roundw
       case rel=>exact HR.out
       case measure=>first | exact meas_int hxl (by omega) | (rw [intOf_int,intOf_int];omega)
      | some s =>
       obtain ⟨b,rfl,hP⟩:=hac
       have HSF:=hide (safe_any wr ii.o)
       by_cases hs:safeB ii.o=true
       · rw [hs] at HSF
         have hls:s.length≤300000000:=(HMB.out x s ho).2
         have HSEL:=hide (selP_some ho (show safeB (coAt f x).o=true by rw [hco];exact hs))
         have HP:=hide hP
         have HPT:=hide (pointers_any (w:=wr) (HLO.out wr B3) (by have:=HNL.out;omega))
         have HB3W:=hide B3
         clear ho hii hco SKIP hgc B3 hs hP
         go_wp2_with fail
         refine HSF.out.mono ?_
         rintro e w5 ⟨rfl,hw5⟩
         obtain rfl:wr=w5:=hw5.symm
         go_wp2_with fail
         refine HPT.out.mono ?_
         rintro e w5 ⟨rfl,h5,hb5⟩
         have HB5:=hide (show Below wr.heap.size wr w5 from hb5)
         have H5:=hide h5
         have HPO:=hide (ptrsOf_any (HP.out.keep (Kp.of_below hb5)) hls)
         clear h5 hb5 HPT
         go_wp2_with fail
         refine HPO.out.mono ?_
         rintro e w6 ⟨rfl,h6,hb6⟩
         have HB6:=hide (show Below wr.heap.size wr w6 from bel_tr HB5.out hb6)
         obtain ⟨V1,hV1⟩ : ∃ V1,w6.alloc (.cells (mapV x f.lo.length s.length wr.heap.size w5.heap.size).toArray 51)=V1:=⟨_,rfl⟩
         have b1:Below w6.heap.size w6 V1:=by rw [← hV1];exact (Below.refl _ _).alloc (Nat.le_refl _) _
         have hbV:Below wr.heap.size wr V1:=bel_tr HB6.out b1
         have H51:V1.heap[wr.heap.size]?=some (.cells (bvM (nzs f.lo)).toArray 4 (0,0)):=((bel_tr hb6 b1).block _ (lt_of_block H5.out)).trans H5.out
         have H61:V1.heap[w5.heap.size]?=some (.cells (bvM (nzs s)).toArray 4 (0,0)):=(b1.block _ (lt_of_block h6)).trans h6
         obtain ⟨g7,cap7,V3,hrun,O7,hb7⟩:=(HO.out.below hbV).push (b:=w6.heap.size) (x:=x) (s:=s) (Nat.le_trans HB.out.size hbV.size) (by have:=HQ.out;omega) (by rw [← hV1];exact heap_new _ _ rfl) H51 H61
         have HR:=hide (show OmR f F.ah n w4 (.slice (some ⟨g7,0,none⟩) (q+1) cap7) (.int .i64 ((x+1:Nat):Int)) V3 from ⟨x+1,q+1,_,cap7,_,rfl,hxl,rfl,by rw [HSEL.out,List.length_append,List.length_singleton,HQ.out],by
          rw [HSEL.out,HQ.out]
          exact O7,(HB.out.trans (hbV.mono HB.out.size)).trans hb7⟩)
         rw [← HQ.out] at hrun
         have d4:(q:Int)≤65536:=by omega
         clear h6 hb6 b1 hbV H51 H61 O7 hb7 HPO
         go_wp2_with (at_builtin;refine wpList_append_eq rfl _ _ 28 28 rfl rfl rfl hrun ?_;clear hrun)
         go_roundw
         case rel=>exact HR.out
         case measure=>first | exact meas_int hxl (by omega) | (rw [intOf_int,intOf_int];omega)
       · have hs2:safeB ii.o=false:=by simpa using hs
         rw [hs2] at HSF
         have HR:=hide (SKIP.out (.inr (by rw [hco];exact hs2)))
         clear ho hii hco SKIP hgc B3 hs hs2 hP
         go_wp2_with fail
         refine HSF.out.mono ?_
         rintro e w5 ⟨rfl,hw5⟩
         obtain rfl:wr=w5:=hw5.symm
         go_wp2
         go_roundw
         case rel=>exact HR.out
         case measure=>first | exact meas_int hxl (by omega) | (rw [intOf_int,intOf_int];omega)
    · obtain rfl:n=x:=by omega
      have d1:decide (n<n)=false:=by simp
      have HE:=hide (HF.out wr (.slice ao q cap) (bel_tr (bel_tr HB3.out HB4.out) HB.out) HO.out.lies)
      go_wp2
      go_ret2
      exact HE.out
end
end Go.Proofs.YtkdojpnihinpbaaGreatDoor
