/- A kid more for a node in a box: the statements that do so. -/
import Derived.Test.YtnkphlkjhgngkaaGreatDoorParHJt
import Derived.Deep.RegionLaw
namespace Go.Proofs.YtnkphlkjhgngkaaGreatDoor
open Go.RowKit
attribute [local go_sem ↓] Go.wp_at_zero Go.wp_at_succ
/-- An own list that keeps to blocks of Q. -/
def OwnQ (Q : Nat → Prop) (w : World) (B : Nat) (v : Value) (ts : List Tr) : Prop :=
  ∃ sls,w.ownsRow B 24 4 v ts.length (cellsOf ts sls) ∧ KL w (fun b => ((B ≤ b ∧ b < w.heap.size) ∧ some b ≠ v.ownBlock) ∧ Q b) ts sls ∧ ∀ k,v.ownBlock = some k → Q k
theorem OwnQ.own {Q : Nat → Prop} {w : World} {B : Nat} {v : Value} {ts : List Tr} (h : OwnQ Q w B v ts) : OwnL w B v ts:=by
 obtain ⟨sls,h1,h2,_⟩:=h
 exact ⟨sls,h1,h2.fr (Fr.refl _ _) (fun _ hb => hb.1)⟩
theorem OwnQ.later {Q : Nat → Prop} {w w' : World} {B : Nat} {v : Value} {ts : List Tr} (h : OwnQ Q w B v ts) (hz : w.heap.size ≤ w'.heap.size) (hw : ∀ b,B ≤ b → b < w.heap.size → w'.heap[b]? = w.heap[b]?) : OwnQ Q w' B v ts:=by
 obtain ⟨sls,h1,h2,h3⟩:=h
 exact ⟨sls,ownsRow_fr hw h1,h2.fr (fun b hb => hw b hb.1.1.1 hb.1.1.2) (fun b hb => ⟨⟨⟨hb.1.1.1,by omega⟩,hb.1.2⟩,hb.2⟩),h3⟩
theorem OwnQ.of {Q : Nat → Prop} {w : World} {B : Nat} {v : Value} {ts : List Tr} (h : OwnL w B v ts) (hQ : ∀ b,B ≤ b → b < w.heap.size → Q b) : OwnQ Q w B v ts:=by
 have hl:=OwnL.lt h
 obtain ⟨sls,h1,h2⟩:=h
 exact ⟨sls,h1,h2.fr (Fr.refl _ _) (fun b hb => ⟨hb,hQ b hb.1.1 hb.1.2⟩),fun k hk => hQ k (hl k hk).1 (hl k hk).2⟩
/-- What keeps clear of block m stays when m is written. -/
theorem OwnQ.put {w w' : World} {B m : Nat} {v : Value} {ts : List Tr} (h : OwnQ (fun b => b ≠ m) w B v ts) (hp : Put m w w') : OwnL w' B v ts:=by
 obtain ⟨sls,h1,h2,h3⟩:=h
 refine ⟨sls,?_,h2.fr (fun b hb => hp.block b hb.2) (fun b hb => ⟨⟨hb.1.1.1,by rw [hp.size]; exact hb.1.1.2⟩,hb.1.2⟩)⟩
 refine ⟨h1.1,?_⟩
 rcases h1.2 with hn | ⟨g,cap,cur,rfl,hb,hg,rest⟩
 · exact .inl hn
 · exact .inr ⟨g,cap,cur,rfl,hb,(hp.block g (h3 g rfl)).trans hg,rest⟩
theorem run_joinQ {W : World} {B C : Nat} {v1 v2 : Value} {ts us : List Tr} {Q : Nat → Prop} (ty : TypeId) (h1 : OwnQ Q W B v1 ts) (h2 : OwnQ Q W C v2 us) (hQ : Q W.heap.size) (hBC : B ≤ C) (hC : C ≤ W.heap.size) (hv : ∀ k,v1.ownBlock = some k → k < C) (hlen : ts.length + us.length ≤ 1000000) :
    ∃ ao cap w',(Builtin.append_ #[22,22] ty #[v1,v2]).run Tryz.prog W = .ok (.slice ao (ts.length + us.length) cap) w' ∧ OwnQ Q w' B (.slice ao (ts.length + us.length) cap) (ts ++ us) ∧ W.grownBy w' v1.ownBlock:=by
  obtain ⟨sls,o1,k1,g1⟩:=h1
  obtain ⟨sls2,o2,k2,g2⟩:=h2
  obtain ⟨i0,hi,hz0,hz1,hz2⟩:=info_parts Tryz.info24
  have key : ∃ v' w',(Builtin.append_ #[22,22] ty #[v1,v2]).run Tryz.prog W = .ok v' w' ∧ w'.ownsRow B 24 4 v' (ts.length + us.length) (cellsOf ts sls ++ cellsOf us sls2) ∧ W.grownBy w' v1.ownBlock ∧ (v'.ownBlock = v1.ownBlock ∨ v'.ownBlock = some W.heap.size):=by
   rcases o2.2 with ⟨rfl,e0⟩ | ⟨g,cap,cur,rfl,hb,hg,hcap,_,hsz,htk⟩
   · have hu : us = []:=List.eq_nil_of_length_eq_zero e0
     subst hu
     refine ⟨v1,W,run_append_owned_none W B 22 ty 24 i0 4 Tryz.underlying22 hi v1 _ _ o1,?_,⟨rfl,rfl,rfl,Nat.le_refl _,fun _ _ _ => rfl⟩,.inl rfl⟩
     cases sls2 with
     | nil => simpa [cellsOf] using o1
     | cons a b => simpa [cellsOf] using o1
   · have hnews : ∀ j u,(cellsOf us sls2)[j]? = some u → W.cell? ((⟨g,0,none⟩ : Addr).add j) = some u:=by
      intro j u hj
      rw [← htk] at hj
      have hj' : cur[j]? = some u:=by
       rw [List.getElem?_take] at hj
       split at hj
       · simpa using hj
       · cases hj
      have ha : (⟨g,0,none⟩ : Addr).add j = ⟨g,j,none⟩:=by cases j <;> simp [Addr.add]
      rw [ha]; simp [World.cell?,hg,hj']
     obtain ⟨v',w',hr,ho,hgr,_,hat⟩:=run_append_own_at (P:=Tryz.prog) W B 22 ty 24 i0 _ 4 56 Tryz.underlying22 hi hz0 hz1 hz2 rfl (by decide) v1 _ _ o1 ⟨g,0,none⟩ us.length cap (cellsOf us sls2) (cellsOf_length k2.length) hnews (cellsOf_one k2.one) (by unfold maxLen; omega) (by omega) (by omega)
     exact ⟨v',w',hr,ho,hgr,hat⟩
  obtain ⟨v',w',hr,ho,hgr,hat⟩:=key
  have hz:=hgr.size
  have hO : OwnQ Q w' B v' (ts ++ us):=by
   refine ⟨sls ++ sls2,?_,KL.append (k1.fr (fun b hb => hgr.block b hb.1.1.2 hb.1.2) (fun b hb => ⟨⟨⟨hb.1.1.1,by omega⟩,?_⟩,hb.2⟩)) (k2.fr (fun b hb => hgr.block b hb.1.1.2 (fun e => by have:=hv b e.symm; omega)) (fun b hb => ⟨⟨⟨by omega,by omega⟩,?_⟩,hb.2⟩)),?_⟩
   · rw [cellsOf_append k1.length,List.length_append]; exact ho
   · rcases hat with e | e
     · rw [e]; exact hb.1.2
     · rw [e]; intro e2; cases e2; omega
   · rcases hat with e | e
     · rw [e]; intro e2; have:=hv b e2.symm; omega
     · rw [e]; intro e2; cases e2; omega
   · intro k hk
     rcases hat with e | e
     · exact g1 k (e ▸ hk)
     · rw [e] at hk; cases hk; exact hQ
  obtain ⟨ao,cap,e⟩:=hO.own.slice
  rw [List.length_append] at e
  rw [e] at hr hO
  exact ⟨ao,cap,w',hr,hO,hgr⟩
theorem step_join {W : World} {ops : Array Oper} {o : Oper} {a : Act} {K : Act → World → Prop} {Q : Exit → Act → World → Prop} {E : Prop} {Z : Nat → Prop} (hgd : o.guard = none) (s x : Operand)
    (ho : o.op = .call { callee:=.builtin .append,args:=#[s,x],argTypes:=#[22,22] }) {B C : Nat} {v1 v2 : Value} {ts us : List Tr} (hs : a.eval s = v1) (hx : a.eval x = v2)
    (h1 : OwnQ Z W B v1 ts) (h2 : OwnQ Z W C v2 us) (hZ : Z W.heap.size) (hBC : B ≤ C) (hC : C ≤ W.heap.size) (hv : ∀ k,v1.ownBlock = some k → k < C) (hlen : ts.length + us.length ≤ 1000000)
    (h : ∀ ao cap w',OwnQ Z w' B (.slice ao (ts.length + us.length) cap) (ts ++ us) → W.grownBy w' v1.ownBlock → K (a.put o.dst (.slice ao (ts.length + us.length) cap)) w') :
    if Region.wanted o (yielded ops a.tmps) = true then Oper.wp Tryz.prog o a W K Q else E:=by
  have hw : Region.wanted o (yielded ops a.tmps) = true:=by simp [Region.wanted,hgd]
  rw [if_pos hw]
  obtain ⟨ao,cap,w',hr,hO,hg⟩:=run_joinQ o.type h1 h2 hZ hBC hC hv hlen
  unfold Oper.wp execOp
  simp only [ho,resolve,invoke,builtin,Sem.run_bind,Sem.run_pure,Result.andThen_ok,List.map_toArray,List.map_cons,List.map_nil,hs,hx,hr]
  exact h ao cap w' hO hg
/-- A node in a box of the walk's own, its kids in an own list that keeps clear of the box. -/
structure NBox (X : Px) (w W : World) (m : Nat) (k : Int) (s : List UInt8) (num : Int) (V : Value) (ts : List Tr) : Prop where
  blk : W.heap[m]? = some (.cells #[.int .i64 k,.string ⟨s.toArray⟩,.int .i64 num,V] 24 (0,0))
  lt : w.heap.size < m
  own : OwnQ (fun b => b ≠ m) W (w.heap.size + 1) V ts
section
variable {X : Px} {w W W' : World} {m i : Nat} {h : Bool} {k num : Int} {s : List UInt8} {V : Value} {ts : List Tr}
theorem NBox.cells (T : NBox X w W m k s num V ts) : W.cell? ⟨m,0,none⟩ = some (.int .i64 k) ∧ W.cell? ⟨m,1,none⟩ = some (.string ⟨s.toArray⟩) ∧ W.cell? ⟨m,2,none⟩ = some (.int .i64 num) ∧ W.cell? ⟨m,3,none⟩ = some V ∧ ∀ o,W.frozen? ⟨m,o,none⟩ = false:=by
 have e:=T.blk
 exact ⟨by simp [World.cell?,e],by simp [World.cell?,e],by simp [World.cell?,e],by simp [World.cell?,e],fun o => by simp [World.frozen?,e]⟩
theorem NBox.ltz (T : NBox X w W m k s num V ts) : m < W.heap.size:=lt_of_block T.blk
theorem NBox.new (hO : Own w W V ts) (hlt : w.heap.size < W.heap.size) : NBox X w (W.alloc (.cells #[.int .i64 k,.string ⟨s.toArray⟩,.int .i64 num,V] 24)) W.heap.size k s num V ts :=
  ⟨heap_alloc_new W _,hlt,(OwnQ.of (Q:=fun b => b ≠ W.heap.size) hO (fun b _ hb => Nat.ne_of_lt hb)).later (by simp) (fun b _ h2 => Below.heap_alloc W _ b h2)⟩
theorem NBox.later (T : NBox X w W m k s num V ts) (hz : W.heap.size ≤ W'.heap.size) (hw : ∀ b,w.heap.size + 1 ≤ b → b < W.heap.size → W'.heap[b]? = W.heap[b]?) : NBox X w W' m k s num V ts :=
  ⟨(hw m T.lt T.ltz).trans T.blk,T.lt,T.own.later hz hw⟩
theorem NBox.call (T : NBox X w W m k s num V ts) (S : St X w W i h) (hb : But X.P W.heap.size W W') : NBox X w W' m k s num V ts :=
  T.later hb.size (fun b h1 h2 => hb.block b h2 (by have:=S.plt; omega))
theorem NBox.drew (T : NBox X w W m k s num V ts) : NBox X w W.drew m k s num V ts:=T.later (Nat.le_refl _) (fun _ _ _ => rfl)
theorem NBox.alloc (T : NBox X w W m k s num V ts) (o : Obj) : NBox X w (W.alloc o) m k s num V ts:=T.later (by simp) (fun b _ h2 => Below.heap_alloc W o b h2)
theorem NBox.tre (T : NBox X w W m k s num V ts) : Tre w W (.mk k s num ts) V:=OwnL.kt T.own.own k s num
/-- Behind an append to its list the box lies as it lay. -/
theorem NBox.grown (T : NBox X w W m k s num V ts) (hg : W.grownBy W' V.ownBlock) : W'.heap[m]? = some (.cells #[.int .i64 k,.string ⟨s.toArray⟩,.int .i64 num,V] 24 (0,0)):=by
 obtain ⟨_,_,_,h3⟩:=T.own
 exact (hg.block m T.ltz (fun e => h3 m e.symm rfl)).trans T.blk
end
theorem cells_of_blk {W : World} {m : Nat} {c0 c1 c2 c3 : Value} {t : TypeId} (e : W.heap[m]? = some (.cells #[c0,c1,c2,c3] t (0,0))) : W.cell? ⟨m,0,none⟩ = some c0 ∧ W.cell? ⟨m,1,none⟩ = some c1 ∧ W.cell? ⟨m,2,none⟩ = some c2 ∧ W.cell? ⟨m,3,none⟩ = some c3 ∧ ∀ o,W.frozen? ⟨m,o,none⟩ = false :=
  ⟨by simp [World.cell?,e],by simp [World.cell?,e],by simp [World.cell?,e],by simp [World.cell?,e],fun o => by simp [World.frozen?,e]⟩
end Go.Proofs.YtnkphlkjhgngkaaGreatDoor

namespace Go.Proofs.YtnkphlkjhgngkaaGreatDoor
open Go.RowKit
attribute [local go_sem ↓] Go.wp_at_zero Go.wp_at_succ
set_option maxRecDepth 20000 in
set_option maxHeartbeats 4000000 in
theorem variable_any (X : Px) (n : Nat) (A : Good X n) (w : World) (i : Nat) (h : Bool) (H : Par X w i h) (hn : 3 * (X.l.length - i) ≤ n + 3) :
    Calls Tryz.prog 160 #[X.p] w (OutT X w i h (variableR X.l (ps X.l n) h i)):=by
  obtain ⟨W0,hW0,S0⟩:=St.first H
  have lt0:=H.lt
  go_enter Tryz.func160,Tryz.ntmps160
  go_wp2_with fail
  cases hm1 : (kindA X.l i == 1) with
  | false =>
   have E1:=Lib.hid (nameR_no hm1)
   refine (name_no X W0 i h S0.par (by simpa using hm1)).mono ?_
   rintro e w1 ⟨rfl,hb1,H1⟩
   have HR : Hid (variableR X.l (ps X.l n) h i = .bad i):=by simp [Hid,variableR,Res.bind,E1.out]
   exact ⟨rfl,OutT.of HR (S0.bad hb1 H1)⟩
  | true =>
   have E1:=Lib.hid (nameR_yes hm1)
   refine (name_yes X W0 i h S0.par (by simpa using hm1)).mono ?_
   rintro e w1 ⟨rfl,hb1,H1⟩
   have S1:=S0.call hb1 H1
   have lt1:=H1.lt
   clear hm1
   go_wp2_with fail
   refine (A.typ w1 (i + 1) h S1.par (by omega)).mono ?_
   rintro e w2 ⟨hb2,hr2⟩
   cases hp2 : (ps X.l n).typ (i + 1) with
   | bad j2 =>
    rw [hp2] at hr2
    obtain ⟨rfl,h2,H2⟩:=hr2
    have E2:=Lib.hid hp2
    have HR : Hid (variableR X.l (ps X.l n) h i = .bad j2):=by simp [Hid,variableR,Res.bind,E1.out,E2.out]
    exact ⟨rfl,OutT.of HR (S1.bad hb2 H2)⟩
   | ok t2 j2 =>
    rw [hp2] at hr2
    obtain ⟨ij2,H2,sl2,rfl,hk2⟩:=hr2
    obtain ⟨ao2,n2,c2,rfl⟩:=hk2.slice
    have E2:=Lib.hid hp2
    have S2:=S1.call hb2 H2
    have lt2:=H2.lt
    have Tt2:=Tre.new S1 hk2
    clear hp2 hk2
    have Tl3:=Own.made1 S2 Tt2
    have S3:=S2.alloc (.cells #[.int .i64 t2.kind,.string ⟨t2.text.toArray⟩,.int .i64 t2.num,.slice ao2 n2 c2] 24)
    go_wp2_with fail
    refine (node_any 21 (textA X.l i) _ _ _ _).mono ?_
    rintro e w4 ⟨rfl,hb4⟩
    have S4:=S3.below hb4
    have Tl3_4:=Tl3.below hb4
    have Tt4:=Tl3_4.tre 21 (textA X.l i) 0
    have N5:=NBox.new (X:=X) (k:=21) (s:=(textA X.l i)) (num:=0) Tl3_4 S4.lt
    have S6:=S4.alloc (.cells #[.int .i64 21,.string ⟨((textA X.l i)).toArray⟩,.int .i64 0,.slice (some ⟨w2.heap.size,0,none⟩) 1 1] 24)
    have Tt4_6:=Tt4.alloc (.cells #[.int .i64 21,.string ⟨((textA X.l i)).toArray⟩,.int .i64 0,.slice (some ⟨w2.heap.size,0,none⟩) 1 1] 24)
    go_wp2_with fail
    cases hm7 : isM X.l j2 [61] with
    | false =>
     refine (take_no X (w4.alloc (.cells #[.int .i64 21,.string ⟨((textA X.l i)).toArray⟩,.int .i64 0,.slice (some ⟨w2.heap.size,0,none⟩) 1 1] 24)) j2 h S6.par [61] hm7).mono ?_
     rintro e w7 ⟨rfl,hb7,H7⟩
     have E7:=Lib.hid hm7
     have S7:=S6.call hb7 H7
     have lt7:=H7.lt
     have N7:=N5.call S6 hb7
     clear hm7
     have Tt8:=N7.tre
     obtain ⟨q0,q1,q2,q3,_⟩:=N7.cells
     have HR : Hid (variableR X.l (ps X.l n) h i = .ok (.mk 21 (textA X.l i) 0 [t2]) j2):=by simp [Hid,variableR,Res.bind,E1.out,E2.out,E7.out]
     obtain ⟨u0,u1,u2,u3,b0,b1,b2,b3,bf⟩:=S7.box.open
     have bf0:=bf 0
     have bf1:=bf 1
     have bf2:=bf 2
     have bf3:=bf 3
     clear bf
     go_wp2
     obtain ⟨Wf,hWf,hput,_,d0,d1,d2,d3⟩:=putN4 S7.box (.int .i64 21) (.string ⟨((textA X.l i)).toArray⟩) (.int .i64 0) (.slice (some ⟨w2.heap.size,0,none⟩) 1 1)
     rw [hWf]
     exact bodyPost_ret (v:=.agg #[.int .i64 21,.string ⟨((textA X.l i)).toArray⟩,.int .i64 0,.slice (some ⟨w2.heap.size,0,none⟩) 1 1]) (by simp [results,Tryz.results160,go_sem,d0,d1,d2,d3]) rfl (OutT.of HR (S7.done Tt8 hput (by omega)))
    | true =>
     refine (take_yes X (w4.alloc (.cells #[.int .i64 21,.string ⟨((textA X.l i)).toArray⟩,.int .i64 0,.slice (some ⟨w2.heap.size,0,none⟩) 1 1] 24)) j2 h S6.par [61] (by decide) hm7).mono ?_
     rintro e w7 ⟨rfl,hb7,H7⟩
     have E7:=Lib.hid hm7
     have S7:=S6.call hb7 H7
     have lt7:=H7.lt
     have N7:=N5.call S6 hb7
     clear hm7
     generalize Value.slice (some ⟨w2.heap.size,0,none⟩) 1 1 = V9 at *
     have lo9:=OwnL.lt N7.own.own
     have cB:=expression_any X n A (w7).drew (j2 + 1) h S7.drew.par (by omega)
     obtain ⟨q0,q1,q2,q3,qf⟩:=N7.cells
     have qf3:=qf 3
     clear qf
     have sb:=S7.lt
     have bd0:=S7.par.bnd
     go_wp2_with fail
     go_region_law (first
       | (go_simp; go_at_call 174; refine cB.mono ?_; rintro e w5 ⟨hb5,hr5⟩; rcases Res.or (exprR (ps X.l n) h (j2 + 1)) with ⟨j,hp⟩ | ⟨r,j,hp⟩
          · (rw [hp] at hr5; obtain ⟨rfl,h5,H5⟩:=hr5; have HR : Hid (variableR X.l (ps X.l n) h i = .bad j):=(by simp [Hid,variableR,Res.bind,E1.out,E2.out,E7.out,hp]); exact ⟨rfl,OutT.of HR (S7.drew.bad hb5 H5)⟩)
          rw [hp] at hr5
          obtain ⟨ij5,H5,sl5,rfl,hk5⟩:=hr5
          obtain ⟨ao5,n5,c5,rfl⟩:=hk5.slice
          have E5:=Lib.hid hp
          have S5:=S7.drew.call hb5 H5
          have N5:=N7.drew.call S7.drew hb5
          have lz5:=hb5.size
          have ld5 : (w7).drew.heap.size = (w7).heap.size:=rfl
          have bd5:=H5.bnd
          have lm5:=N7.ltz
          have hO5:=OwnQ.of (Q:=fun b => b ≠ w4.heap.size) (OwnL.one (B:=(w7).heap.size) lz5 hk5 (Nat.le_refl _) (Nat.le_refl _)) (fun b hb _ => by omega)
          have N5a:=N5.alloc (.cells #[.int .i64 r.kind,.string ⟨r.text.toArray⟩,.int .i64 r.num,.slice ao5 n5 c5] 24)
          have S5a:=S5.alloc (.cells #[.int .i64 r.kind,.string ⟨r.text.toArray⟩,.int .i64 r.num,.slice ao5 n5 c5] 24)
          obtain ⟨y0,y1,y2,y3,yf⟩:=N5.cells
          have yf3:=yf 3
          have ym:=N5.ltz
          have yn : w4.heap.size ≠ w5.heap.size:=Nat.ne_of_lt ym
          have yn2 : w5.heap.size ≠ w4.heap.size:=fun e => yn e.symm
          clear yf hp)
       | (refine step_join (by rfl) _ _ (by rfl) (by rfl) (by rfl) N5a.own hO5 ?_ ?_ ?_ ?_ ?_ ?_
          · simp; omega
          · omega
          · simp; omega
          · exact fun q hq => (lo9 q hq).2
          · simp
          intro ao6 c6 w6 hO6 hg6
          have S6:=S5a.grown hg6 (fun q hq => (lo9 q hq).1)
          have B6:=N5a.grown hg6
          obtain ⟨z0,z1,z2,z3,zf⟩:=cells_of_blk B6
          have zf3:=zf 3
          clear zf))
     all_goals
      have hpx:=(Put.refl (w4.heap.size) w6).setCell 3 (.slice ao6 2 c6)
      have S7x:=S6.put hpx N5a.lt
      have Ttx : Tre w (w6.setCell ⟨w4.heap.size,3,none⟩ (.slice ao6 2 c6)) (.mk 21 (textA X.l i) 0 [t2,r]) (.slice ao6 2 c6):=OwnL.kt (hO6.put hpx) 21 (textA X.l i) 0
      have zz0 : (w6.setCell ⟨w4.heap.size,3,none⟩ (.slice ao6 2 c6)).heap[w4.heap.size]? = some (.cells #[.int .i64 21,.string ⟨((textA X.l i)).toArray⟩,.int .i64 0,.slice ao6 2 c6] 24 (0,0)):=(heap_setCell_same w6 (w4.heap.size) 3 _ B6).trans rfl
      clear z0 z1 z2 z3 zf3 hg6 hO6 B6 y0 y1 y2 y3 yf3 q0 q1 q2 q3 qf3
      generalize w6.setCell ⟨w4.heap.size,3,none⟩ (.slice ao6 2 c6) = w7x at *
      obtain ⟨z0,z1,z2,z3,_⟩:=cells_of_blk zz0
      have HR : Hid (variableR X.l (ps X.l n) h i = .ok (.mk 21 (textA X.l i) 0 [t2,r]) j):=by simp [Hid,variableR,Res.bind,E1.out,E2.out,E7.out,E5.out]
      obtain ⟨u0,u1,u2,u3,b0,b1,b2,b3,bf⟩:=S7x.box.open
      have bf0:=bf 0
      have bf1:=bf 1
      have bf2:=bf 2
      have bf3:=bf 3
      clear bf
      go_wp2
      obtain ⟨Wf,hWf,hput,_,d0,d1,d2,d3⟩:=putN4 S7x.box (.int .i64 21) (.string ⟨((textA X.l i)).toArray⟩) (.int .i64 0) (.slice ao6 2 c6)
      rw [hWf]
      exact bodyPost_ret (v:=.agg #[.int .i64 21,.string ⟨((textA X.l i)).toArray⟩,.int .i64 0,.slice ao6 2 c6]) (by simp [results,Tryz.results160,go_sem,d0,d1,d2,d3]) rfl (OutT.of HR (S7x.done Ttx hput (by omega)))
end Go.Proofs.YtnkphlkjhgngkaaGreatDoor

namespace Go.Proofs.YtnkphlkjhgngkaaGreatDoor
open Go.RowKit
attribute [local go_sem ↓] Go.wp_at_zero Go.wp_at_succ
theorem isNameN_any (t : Tr) (ao : Option Addr) (n c : Nat) (w : World) : Calls Tryz.prog 143 #[tv t (.slice ao n c)] w fun e w' => e = .returned (.bool (isNameT t)) ∧ Below w.heap.size w w':=by
 go_enter Tryz.func143,Tryz.ntmps143
 go_wp2
 go_ret
 exact ⟨rfl,(Below.refl _ _).alloc (Nat.le_refl _) _⟩
theorem isCall_any (t : Tr) (ao : Option Addr) (n c : Nat) (w : World) : Calls Tryz.prog 145 #[tv t (.slice ao n c)] w fun e w' => e = .returned (.bool (isCallT t)) ∧ Below w.heap.size w w':=by
 go_enter Tryz.func145,Tryz.ntmps145
 go_wp2
 go_ret
 exact ⟨rfl,(Below.refl _ _).alloc (Nat.le_refl _) _⟩
set_option maxRecDepth 20000 in
theorem isPlaceV_any (k : Int) (s : List UInt8) (m : Int) (ao : Option Addr) (n c : Nat) (w : World) : Calls Tryz.prog 144 #[.agg #[.int .i64 k,.string ⟨s.toArray⟩,.int .i64 m,.slice ao n c]] w fun e w' => e = .returned (.bool (isPlaceT (.mk k s m []))) ∧ Below w.heap.size w w':=by
 have HR : Hid (isPlaceT (.mk k s m []) = (k == 44 || k == 48 || k == 49 || (k == 52 && s == [42]))):=rfl
 by_cases h1 : k = 44
 · have HX : Hid (isPlaceT (.mk k s m []) = true):=HR.out.trans (by simp [h1])
   subst h1
   go_enter Tryz.func144,Tryz.ntmps144
   go_wp2
   go_ret
   exact ⟨by simp [HX.out],(Below.refl _ _).alloc (Nat.le_refl _) _⟩
 by_cases h2 : k = 48
 · have HX : Hid (isPlaceT (.mk k s m []) = true):=HR.out.trans (by simp [h2])
   subst h2
   go_enter Tryz.func144,Tryz.ntmps144
   go_wp2
   go_ret
   exact ⟨by simp [HX.out],(Below.refl _ _).alloc (Nat.le_refl _) _⟩
 by_cases h3 : k = 49
 · have HX : Hid (isPlaceT (.mk k s m []) = true):=HR.out.trans (by simp [h3])
   subst h3
   go_enter Tryz.func144,Tryz.ntmps144
   go_wp2
   go_ret
   exact ⟨by simp [HX.out],(Below.refl _ _).alloc (Nat.le_refl _) _⟩
 by_cases h4 : k = 52
 · have HX : Hid (isPlaceT (.mk k s m []) = (s == [42])):=HR.out.trans (by simp [h4])
   clear h1 h2 h3
   subst h4
   go_enter Tryz.func144,Tryz.ntmps144
   go_wp2
   go_ret
   exact ⟨by simp [HX.out],(Below.refl _ _).alloc (Nat.le_refl _) _⟩
 have HX : Hid (isPlaceT (.mk k s m []) = false):=HR.out.trans (by simp [h1,h2,h3,h4])
 have e1 : (k == 44) = false:=by simpa using h1
 have e2 : (k == 48) = false:=by simpa using h2
 have e3 : (k == 49) = false:=by simpa using h3
 have e4 : (k == 52) = false:=by simpa using h4
 clear h1 h2 h3 h4
 go_enter Tryz.func144,Tryz.ntmps144
 go_wp2
 go_ret
 exact ⟨by simp [HX.out],(Below.refl _ _).alloc (Nat.le_refl _) _⟩
theorem isPlace_any (t : Tr) (ao : Option Addr) (n c : Nat) (w : World) : Calls Tryz.prog 144 #[tv t (.slice ao n c)] w fun e w' => e = .returned (.bool (isPlaceT t)) ∧ Below w.heap.size w w':=isPlaceV_any t.kind t.text t.num ao n c w
theorem cellsOf_get : ∀ {ts : List Tr} {sls : List Value} {k : Nat} {t : Tr} {sl : Value},ts[k]? = some t → sls[k]? = some sl →
    (cellsOf ts sls)[k * 4]? = some (.int .i64 t.kind) ∧ (cellsOf ts sls)[k * 4 + 1]? = some (.string ⟨t.text.toArray⟩) ∧ (cellsOf ts sls)[k * 4 + 2]? = some (.int .i64 t.num) ∧ (cellsOf ts sls)[k * 4 + 3]? = some sl
  | t :: ts,s :: sls,0,_,_,h1,h2 => by simp at h1 h2; subst h1 h2; simp [cellsOf]
  | t :: ts,s :: sls,k + 1,_,_,h1,h2 => by
   simp at h1 h2
   have:=cellsOf_get (ts:=ts) (sls:=sls) h1 h2
   have e : ∀ j,(k + 1) * 4 + j = k * 4 + j + 1 + 1 + 1 + 1:=by intro j; omega
   simp only [cellsOf]
   rw [show (k + 1) * 4 = k * 4 + 1 + 1 + 1 + 1 by omega]
   simpa [e,Nat.add_assoc] using this
  | [],_,_,_,_,h1,_ => by simp at h1
  | _ :: _,[],_,_,_,_,h2 => by simp at h2
set_option maxRecDepth 20000 in
set_option maxHeartbeats 1600000 in
theorem every_any (p : Tr → Bool) (g : Nat) (ls : Array Value) (he : Enters Tryz.prog g) (ts : List Tr) (sls : List Value) (hsl : sls.length = ts.length) (w : World) (b o cap : Nat) (hn : ts.length ≤ 1000000)
    (hc : ∀ (j : Nat) u,(cellsOf ts sls)[j]? = some u → w.cell? ⟨b,o + j,none⟩ = some u) (hsh : ∀ s ∈ sls,∃ ao n c,s = .slice ao n c)
    (hI : ∀ (k : Nat) t sl w1,ts[k]? = some t → sls[k]? = some sl → Below w.heap.size w w1 → Calls Tryz.prog g (#[tv t sl] ++ ls) w1 fun e w' => e = .returned (.bool (p t)) ∧ Below w1.heap.size w1 w') :
    Calls Tryz.prog 46 #[.slice (some ⟨b,o,none⟩) ts.length cap,.func (.func g) #[] ls] w fun e w' => e = .returned (.bool (ts.all p)) ∧ Below w.heap.size w w':=by
  have eg : ∀ args w,(callFunc g args).run Tryz.prog w = .ok (.enter g args) w:=he
  have HI:=Lib.hid hI
  have HC:=Lib.hid hc
  have HS:=Lib.hid hsh
  clear hI hc hsh
  go_enter Tryz.func46,Tryz.ntmps46
  go_wp2_with fail
  go_loopw [9] (fun v wr => ∃ k : Nat,k ≤ ts.length ∧ v = .int .i64 k ∧ Below w.heap.size w wr ∧ Hid ((ts.take k).all p = true)) (fun v _ => ts.length - (intOf v).toNat)
  case atStart => exact ⟨0,Nat.zero_le _,rfl,Below.refl _ _,by simp [Hid]⟩
  case round =>
   obtain ⟨k,hk,rfl,hb,HA⟩:=hrel
   have hz:=hb.size
   by_cases hlt : k < ts.length
   · obtain ⟨t,ht⟩ : ∃ t,ts[k]? = some t:=⟨_,List.getElem?_eq_getElem hlt⟩
     obtain ⟨sl,hs⟩ : ∃ sl,sls[k]? = some sl:=⟨_,List.getElem?_eq_getElem (by omega)⟩
     obtain ⟨ao,nn,c,rfl⟩:=HS.out sl (List.mem_of_getElem? hs)
     obtain ⟨q0,q1,q2,q3⟩:=cellsOf_get ht hs
     have a0:=HC.out _ _ q0
     have bl:=lt_of_cell a0
     have r : ∀ o,wr.cell? ⟨b,o,none⟩ = w.cell? ⟨b,o,none⟩:=fun o => hb.cell (p:=⟨b,o,none⟩) bl
     have x0 : wr.cell? ⟨b,o + k * 4,none⟩ = some (.int .i64 t.kind):=(r _).trans a0
     have x1 : wr.cell? ⟨b,o + k * 4 + 1,none⟩ = some (.string ⟨t.text.toArray⟩):=(r _).trans (HC.out _ _ q1)
     have x2 : wr.cell? ⟨b,o + k * 4 + 2,none⟩ = some (.int .i64 t.num):=(r _).trans (HC.out _ _ q2)
     have x3 : wr.cell? ⟨b,o + k * 4 + 3,none⟩ = some (.slice ao nn c):=(r _).trans (HC.out _ _ q3)
     have hba:=hb.alloc hz (.cells #[.int .i64 t.kind,.string ⟨t.text.toArray⟩,.int .i64 t.num,.slice ao nn c] 24)
     have cT:=HI.out k t (.slice ao nn c) _ ht hs hba
     have HT:=Lib.hid ht
     clear ht hs q0 q1 q2 q3 a0 r
     go_wp2_with fail
     refine cT.mono ?_
     rintro e w2 ⟨rfl,hb2⟩
     have hb3 : Below w.heap.size w w2:=hba.trans (hb2.mono (by simp; omega))
     clear cT
     cases hp : p t with
     | false =>
      have HX : Hid (ts.all p = false):=by
       rw [Hid,List.all_eq_false]
       exact ⟨t,List.mem_of_getElem? HT.out,by simp [hp]⟩
      clear hp
      go_wp2
      go_ret
      exact ⟨by simp [HX.out],hb3⟩
     | true =>
      have HX : Hid ((ts.take (k + 1)).all p = true):=by
       have e : ts.take (k + 1) = ts.take k ++ [t]:=by rw [List.take_add_one,HT.out]; rfl
       rw [Hid,e,List.all_append,HA.out]; simp [hp]
      clear hp
      go_wp2
      go_roundw
      case rel => exact ⟨k + 1,by omega,by go_num,hb3,HX⟩
      case measure => simp [intOf]; omega
   · have HX : Hid (ts.all p = true):=by
      have:=HA.out
      rwa [List.take_of_length_le (by omega)] at this
     go_wp2
     go_ret
     exact ⟨by simp [HX.out],hb⟩
theorem every_nil (v : Value) (ao : Option Addr) (c : Nat) (w : World) : Calls Tryz.prog 46 #[.slice ao 0 c,v] w fun e w' => e = .returned (.bool true) ∧ w' = w:=by
 go_enter Tryz.func46,Tryz.ntmps46
 go_wp2_with fail
 go_loopw [9] (fun v wr => v = .int .i64 0 ∧ wr = w) (fun _ _ => 0)
 case atStart => exact ⟨rfl,rfl⟩
 case round =>
  obtain ⟨rfl,rfl⟩:=hrel
  go_wp2
  go_ret
  exact ⟨rfl,rfl⟩
theorem enters_isName : Enters Tryz.prog 143:=enters_of Tryz.func143 (by kernel_rfl) rfl
theorem enters_isPlace : Enters Tryz.prog 144:=enters_of Tryz.func144 (by kernel_rfl) rfl
theorem KL.get {w : World} {S : Nat → Prop} : ∀ {ts : List Tr} {sls : List Value} {k : Nat} {t : Tr} {sl : Value},KL w S ts sls → ts[k]? = some t → sls[k]? = some sl → KT w S t sl
  | t :: ts,sls,0,_,_,h,h1,h2 => by
   simp only [KL] at h
   obtain ⟨sl,r,rfl,h3,_⟩:=h
   simp at h1 h2; subst h1 h2; exact h3
  | t :: ts,sls,k + 1,_,_,h,h1,h2 => by
   simp only [KL] at h
   obtain ⟨sl,r,rfl,_,h3⟩:=h
   simp at h1 h2; exact KL.get h3 h1 h2
  | [],_,_,_,_,_,h1,_ => by simp at h1
theorem KL.slices {w : World} {S : Nat → Prop} : ∀ {ts : List Tr} {sls : List Value},KL w S ts sls → ∀ s ∈ sls,∃ ao n c,s = Value.slice ao n c
  | [],sls,h,v,hv => by simp only [KL] at h; rw [h] at hv; simp at hv
  | t :: ts,sls,h,v,hv => by
   simp only [KL] at h
   obtain ⟨sl,r,rfl,h2,h3⟩:=h
   simp only [List.mem_cons] at hv
   rcases hv with rfl | hv
   · exact h2.slice
   · exact KL.slices h3 v hv
/-- every of an own list. -/
theorem every_own (p : Tr → Bool) (g : Nat) (he : Enters Tryz.prog g) {ts : List Tr} {v : Value} {w : World} {B : Nat} (T : OwnL w B v ts) (hn : ts.length ≤ 1000000)
    (hI : ∀ t ao n c w1,Calls Tryz.prog g #[tv t (.slice ao n c)] w1 fun e w' => e = .returned (.bool (p t)) ∧ Below w1.heap.size w1 w') :
    Calls Tryz.prog 46 #[v,.func (.func g) #[] #[]] w fun e w' => e = .returned (.bool (ts.all p)) ∧ Below w.heap.size w w':=by
  obtain ⟨sls,o1,k1⟩:=T
  rcases o1.2 with ⟨rfl,e0⟩ | ⟨q,cap,cur,rfl,hb,hg,hcap,_,hsz,htk⟩
  · have hu : ts = []:=List.eq_nil_of_length_eq_zero e0
    subst hu
    exact (every_nil _ none 0 w).mono fun e w' ⟨h1,h2⟩ => ⟨h1,h2 ▸ Below.refl _ _⟩
  · refine every_any p g #[] he ts sls k1.length w q 0 cap hn (fun j u hj => ?_) k1.slices (fun k t sl w1 ht hs _ => ?_)
    · rw [← htk] at hj
      have hj' : cur[j]? = some u:=by
       rw [List.getElem?_take] at hj
       split at hj
       · simpa using hj
       · cases hj
      simp [World.cell?,hg,hj']
    · obtain ⟨ao,nn,c,rfl⟩:=k1.slices sl (List.mem_of_getElem? hs)
      rw [Array.append_empty]
      exact hI t ao nn c w1
end Go.Proofs.YtnkphlkjhgngkaaGreatDoor

namespace Go.Proofs.YtnkphlkjhgngkaaGreatDoor
open Go.RowKit
theorem wpList_joinQ {W : World} {ops : Array Oper} {rest : List Oper} {o : Oper} {a : Act} {Q : Exit → Act → World → Prop} {Z : Nat → Prop} (hgd : o.guard = none) (s x : Operand)
    (ho : o.op = .call { callee:=.builtin .append,args:=#[s,x],argTypes:=#[22,22] }) {B C : Nat} {v1 v2 : Value} {ts us : List Tr} (hs : a.eval s = v1) (hx : a.eval x = v2)
    (h1 : OwnQ Z W B v1 ts) (h2 : OwnQ Z W C v2 us) (hZ : Z W.heap.size) (hBC : B ≤ C) (hC : C ≤ W.heap.size) (hv : ∀ k,v1.ownBlock = some k → k < C) (hlen : ts.length + us.length ≤ 1000000)
    (h : ∀ ao cap w',OwnQ Z w' B (.slice ao (ts.length + us.length) cap) (ts ++ us) → W.grownBy w' v1.ownBlock → wpList Tryz.prog ops Q rest (a.put o.dst (.slice ao (ts.length + us.length) cap)) w') : wpList Tryz.prog ops Q (o :: rest) a W:=by
  refine wpList_plain hgd fun _ hK => ?_
  obtain ⟨ao,cap,w',hr,hO,hg⟩:=run_joinQ o.type h1 h2 hZ hBC hC hv hlen
  unfold Oper.wp execOp
  simp only [ho,resolve,invoke,builtin,Sem.run_bind,Sem.run_pure,Result.andThen_ok,List.map_toArray,List.map_cons,List.map_nil,hs,hx,hr]
  exact hK _ _ (h ao cap w' hO hg)
/-- What a part leaves that works on what its caller has made. -/
def OutA (X : Px) (w0 : World) (i : Nat) (h : Bool) (r : Res Tr) (e : Ending) (w' : World) : Prop:=match r with
  | .ok t j => i < j ∧ St X w0 w' j h ∧ ∃ ao n c,e = .returned (tv t (.slice ao n c)) ∧ Tre w0 w' t (.slice ao n c)
  | .bad j => e = pan ∧ But X.P w0.heap.size w0 w' ∧ ∃ h',Par X w' j h'
theorem OutA.of {X : Px} {w : World} {i : Nat} {h : Bool} {r r' : Res Tr} {e : Ending} {w' : World} (hr : Hid (r = r')) (o : OutA X w i h r' e w') : OutA X w i h r e w':=by
 have:=hr.out; subst this; exact o
set_option maxRecDepth 20000 in
set_option maxHeartbeats 1600000 in
theorem assigned_any (X : Px) (n : Nat) (A : Good X n) (w0 w : World) (i : Nat) (h : Bool) (first : List Tr) (ao : Option Addr) (c : Nat) (kd : Int) (S0 : St X w0 w i h) (T : Own w0 w (.slice ao first.length c) first) (nx : i + 1 < X.l.length) (hlen : first.length ≤ 20001) (hn : 3 * (X.l.length - (i + 1)) + 1 ≤ n) :
    Calls Tryz.prog 175 #[X.p,.int .i64 kd,.slice ao first.length c] w (OutA X w0 i h (assignedR X.l (ps X.l n) h kd first i)):=by
  have lv:=OwnL.lt T
  have TQ : OwnQ (fun b => b ≠ w.heap.size) w (w0.heap.size + 1) (.slice ao first.length c) first:=OwnQ.of T (fun b _ hb => Nat.ne_of_lt hb)
  have l0:=S0.lt
  have p0:=S0.plt
  obtain ⟨W1,hW1,S1⟩:=St.first S0.par
  have S0a : St X w0 W1 i h:=hW1 ▸ S0.alloc _
  have TQ1 : OwnQ (fun b => b ≠ w.heap.size) W1 (w0.heap.size + 1) (.slice ao first.length c) first:=hW1 ▸ TQ.later (by simp) (fun b _ h2 => Below.heap_alloc w _ b h2)
  have zW1 : W1.heap.size = w.heap.size + 1:=by rw [← hW1]; simp
  have c1:=S1.par.c1
  have f1:=S1.par.fz 1
  have bn:=S1.par.bnd
  have S2:=S1.next nx
  have S0b:=S0a.next nx
  have TQ2 : OwnQ (fun b => b ≠ w.heap.size) (W1.setCell ⟨X.P,1,none⟩ (.int .i64 ((i : Int) + 1))) (w0.heap.size + 1) (.slice ao first.length c) first:=TQ1.later (by simp) (fun b h1 _ => Below.heap_setCell _ _ _ _ (by simp only; omega))
  have zW2 : (W1.setCell ⟨X.P,1,none⟩ (.int .i64 ((i : Int) + 1))).heap.size = w.heap.size + 1:=by rw [World.size_setCell,zW1]
  go_enter Tryz.func175,Tryz.ntmps175
  go_wp2_with fail
  clear c1 f1
  generalize W1.setCell ⟨X.P,1,none⟩ (.int .i64 ((i : Int) + 1)) = W2 at *
  refine (expressions_any X n A W2 (i + 1) h S2.par hn).mono ?_
  rintro e w3 ⟨⟨hb3,hr3⟩,_⟩
  have z3:=hb3.size
  cases hp : exprsR X.l (ps X.l n) h (i + 1) with
  | bad j =>
   rw [hp] at hr3
   obtain ⟨rfl,h3,H3⟩:=hr3
   have HR : Hid (assignedR X.l (ps X.l n) h kd first i = .bad j):=by simp [Hid,assignedR,Res.bind,hp]
   exact ⟨rfl,OutA.of HR ⟨rfl,S0b.but.trans (hb3.mono (by omega)),h3,H3⟩⟩
  | ok l j =>
   rw [hp] at hr3
   obtain ⟨ij,H3,v3,rfl,hk3⟩:=hr3
   obtain ⟨ao3,c3,rfl⟩:=hk3.slice
   have HR : Hid (assignedR X.l (ps X.l n) h kd first i = .ok (.mk kd [] first.length (first ++ l)) j):=by simp [Hid,assignedR,Res.bind,hp]
   have S3:=S2.call hb3 H3
   have S0c:=S0b.call hb3 H3
   have TQ3:=TQ2.later hb3.size (fun b h1 h2 => hb3.block b h2 (by omega))
   have hk3q : OwnQ (fun b => b ≠ w.heap.size) w3 W2.heap.size (.slice ao3 l.length c3) l:=OwnQ.of hk3 (fun b hb _ => by omega)
   have bd3:=H3.bnd
   clear hp
   go_wp2_with (at_builtin; refine wpList_joinQ (by rfl) _ _ (by rfl) (by rfl) (by rfl) TQ3 hk3q (by omega) (by omega) (by omega) (fun q hq => by have:=(lv q hq).2; omega) (by omega) ?_)
   intro ao5 c5 w5 hO5 hg5
   have S0d:=S0c.grown hg5 (fun q hq => (lv q hq).1)
   have z5:=hg5.size
   have bx5 : Box w5 w.heap.size:=S3.box.of_block (hg5.block _ (by omega) (fun e => by have:=(lv _ e.symm).2; omega))
   clear hk3q TQ3 hk3
   go_wp2_with fail
   refine (node_any kd [] _ _ _ _).mono ?_
   rintro e w6 ⟨rfl,hb6⟩
   have z6:=hb6.size
   have S0e:=S0d.below hb6
   have bx6:=bx5.below hb6 (by omega)
   have hO6:=hO5.later hb6.size (fun b _ h2 => hb6.block b h2)
   obtain ⟨u0,u1,u2,u3,b0,b1,b2,b3,bf⟩:=bx6.open
   have bf0:=bf 0
   have bf1:=bf 1
   have bf2:=bf 2
   have bf3:=bf 3
   clear bf
   have nlt : w.heap.size < w6.heap.size:=bx6.lt
   have nne : w.heap.size ≠ w6.heap.size:=by omega
   have nne2 : w6.heap.size ≠ w.heap.size:=by omega
   go_wp2
   obtain ⟨Wf,hWf,hput,_,d0,d1,d2,d3⟩:=putN4 bx6 (.int .i64 kd) (.string ⟨([] : List UInt8).toArray⟩) (.int .i64 (first.length : Int)) (.slice ao5 (first.length + l.length) c5)
   rw [hWf]
   have hlz : w.heap.size < Wf.heap.size:=by rw [hput.size]; exact nlt
   have hT : Tre w0 Wf (.mk kd [] (first.length : Int) (first ++ l)) (.slice ao5 (first.length + l.length) c5):=OwnL.kt (hO6.put hput) kd [] (first.length : Int)
   exact bodyPost_ret (v:=.agg #[.int .i64 kd,.string ⟨([] : List UInt8).toArray⟩,.int .i64 (first.length : Int),.slice ao5 (first.length + l.length) c5]) (by simp [results,Tryz.results175,go_sem,d0,d1,d2,d3,hlz]) rfl
     (OutA.of HR ⟨by omega,(S0e.put hput (by omega)).alloc _,_,_,_,rfl,hT.alloc _⟩)
end Go.Proofs.YtnkphlkjhgngkaaGreatDoor
