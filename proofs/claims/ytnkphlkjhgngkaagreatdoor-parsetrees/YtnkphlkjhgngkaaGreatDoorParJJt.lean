/- append of one list of trees behind another. -/
import Derived.Test.YtnkphlkjhgngkaaGreatDoorParDJt
import Derived.Laws.OwnMore
namespace Go.Proofs.YtnkphlkjhgngkaaGreatDoor
open Go.RowKit
/-- Two lists that a call has made, the second one later: the first with the second behind it. -/
theorem run_join {W : World} {B C : Nat} {v1 v2 : Value} {ts us : List Tr} (ty : TypeId) (h1 : OwnL W B v1 ts) (h2 : OwnL W C v2 us) (hBC : B ≤ C) (hC : C ≤ W.heap.size) (hv : ∀ k,v1.ownBlock = some k → k < C) (hlen : ts.length + us.length ≤ 1000000) :
    ∃ ao cap w',(Builtin.append_ #[22,22] ty #[v1,v2]).run Tryz.prog W = .ok (.slice ao (ts.length + us.length) cap) w' ∧ OwnL w' B (.slice ao (ts.length + us.length) cap) (ts ++ us) ∧ W.grownBy w' v1.ownBlock:=by
  obtain ⟨sls,o1,k1⟩:=h1
  obtain ⟨sls2,o2,k2⟩:=h2
  obtain ⟨i0,hi,hz0,hz1,hz2⟩:=info_parts Tryz.info24
  have key : ∃ v' w',(Builtin.append_ #[22,22] ty #[v1,v2]).run Tryz.prog W = .ok v' w' ∧ w'.ownsRow B 24 4 v' (ts.length + us.length) (cellsOf ts sls ++ cellsOf us sls2) ∧ W.grownBy w' v1.ownBlock ∧ (v'.ownBlock = v1.ownBlock ∨ v'.ownBlock = some W.heap.size):=by
   rcases o2.2 with ⟨rfl,e0⟩ | ⟨g,cap,cur,rfl,hb,hg,hcap,_,hsz,htk⟩
   · have hu : us = []:=List.eq_nil_of_length_eq_zero e0
     subst hu
     refine ⟨v1,W,run_append_owned_none W B 22 ty 24 i0 4 Tryz.underlying22 hi v1 _ _ o1,?_,⟨rfl,rfl,rfl,Nat.le_refl _,fun _ _ _ => rfl⟩,.inl rfl⟩
     cases sls2 with
     | nil => simpa [cellsOf] using o1
     | cons a b => simpa [cellsOf] using o1
   · have hnews : ∀ j u,(cellsOf us sls2)[j]? = some u → W.cell? ((⟨g,0,none⟩ : Addr).add j) = some u:=by
      intro j u hj
      rw [← htk] at hj
      have hj' : cur[j]? = some u:=by
       rw [List.getElem?_take] at hj
       split at hj
       · simpa using hj
       · cases hj
      have ha : (⟨g,0,none⟩ : Addr).add j = ⟨g,j,none⟩:=by cases j <;> simp [Addr.add]
      rw [ha]; simp [World.cell?,hg,hj']
     obtain ⟨v',w',hr,ho,hgr,_,hat⟩:=run_append_own_at (P:=Tryz.prog) W B 22 ty 24 i0 _ 4 56 Tryz.underlying22 hi hz0 hz1 hz2 rfl (by decide) v1 _ _ o1 ⟨g,0,none⟩ us.length cap (cellsOf us sls2) (cellsOf_length k2.length) hnews (cellsOf_one k2.one) (by unfold maxLen; omega) (by omega) (by omega)
     exact ⟨v',w',hr,ho,hgr,hat⟩
  obtain ⟨v',w',hr,ho,hgr,hat⟩:=key
  have hz:=hgr.size
  have hO : OwnL w' B v' (ts ++ us):=by
   refine ⟨sls ++ sls2,?_,KL.append (k1.fr (fun b hb => hgr.block b hb.1.2 hb.2) (fun b hb => ⟨⟨hb.1.1,by omega⟩,?_⟩)) (k2.fr (fun b hb => hgr.block b hb.1.2 (fun e => by have:=hv b e.symm; omega)) (fun b hb => ⟨⟨by omega,by omega⟩,?_⟩))⟩
   · rw [cellsOf_append k1.length,List.length_append]; exact ho
   · rcases hat with e | e
     · rw [e]; exact hb.2
     · rw [e]; intro e2; cases e2; omega
   · rcases hat with e | e
     · rw [e]; intro e2; have:=hv b e2.symm; omega
     · rw [e]; intro e2; cases e2; omega
  obtain ⟨ao,cap,e⟩:=hO.slice
  rw [List.length_append] at e
  rw [e] at hr hO
  exact ⟨ao,cap,w',hr,hO,hgr⟩
theorem wpList_join {W : World} {ops : Array Oper} {rest : List Oper} {o : Oper} {a : Act} {Q : Exit → Act → World → Prop} (hgd : o.guard = none) (s x : Operand)
    (ho : o.op = .call { callee:=.builtin .append,args:=#[s,x],argTypes:=#[22,22] }) {B C : Nat} {v1 v2 : Value} {ts us : List Tr} (hs : a.eval s = v1) (hx : a.eval x = v2)
    (h1 : OwnL W B v1 ts) (h2 : OwnL W C v2 us) (hBC : B ≤ C) (hC : C ≤ W.heap.size) (hv : ∀ k,v1.ownBlock = some k → k < C) (hlen : ts.length + us.length ≤ 1000000)
    (h : ∀ ao cap w',OwnL w' B (.slice ao (ts.length + us.length) cap) (ts ++ us) → W.grownBy w' v1.ownBlock → wpList Tryz.prog ops Q rest (a.put o.dst (.slice ao (ts.length + us.length) cap)) w') : wpList Tryz.prog ops Q (o :: rest) a W:=by
  refine wpList_plain hgd fun _ hK => ?_
  obtain ⟨ao,cap,w',hr,hO,hg⟩:=run_join o.type h1 h2 hBC hC hv hlen
  unfold Oper.wp execOp
  simp only [ho,resolve,invoke,builtin,Sem.run_bind,Sem.run_pure,Result.andThen_ok,List.map_toArray,List.map_cons,List.map_nil,hs,hx,hr]
  exact hK _ _ (h ao cap w' hO hg)
section
variable {X : Px} {w W W' : World} {i j k : Nat} {h : Bool} {t : Tr} {sl v : Value} {ts : List Tr}
theorem OwnL.lt {B : Nat} (T : OwnL W B v ts) : ∀ k,v.ownBlock = some k → B ≤ k ∧ k < W.heap.size:=by
 obtain ⟨sls,o,_⟩:=T
 exact o.lt
theorem St.grown (S : St X w W i h) {row : Option Nat} (hg : W.grownBy W' row) (hr : ∀ k,row = some k → w.heap.size + 1 ≤ k) : St X w W' i h:=by
 have h1:=S.plt
 have h2:=S.tlt
 have h3:=S.lt
 exact ⟨S.but.grown hg (by omega) (fun k hk => by have:=hr k hk; omega),S.par.grown hg (fun e => by have:=hr _ e.symm; omega) (fun e => by have:=hr _ e.symm; omega),
   S.box.of_block (hg.block _ h3 (fun e => by have:=hr _ e.symm; omega)),h1,h2⟩
/-- A tree in blocks that another list's row is not among stays when that list grows. -/
theorem Tre.grown {lo hi : Nat} (T : KT W (Rg lo hi) t sl) {row : Option Nat} (hg : W.grownBy W' row) (hr : ∀ k,row = some k → k < lo ∨ hi ≤ k) (hlo : w.heap.size + 1 ≤ lo) (hhi : hi ≤ W.heap.size) : Tre w W' t sl :=
  KT.fr T (fun b hb => hg.block b (by omega) (fun e => by have:=hr _ e.symm; omega)) (fun b hb => ⟨by omega,by have:=hg.size; omega⟩)
theorem St.doneA (S : St X w W j h) (T : Tre w W t sl) {Wf : World} (hput : Put w.heap.size W Wf) (hij : i < j) (o : Obj) : OutT X w i h (.ok t j) (.returned (tv t sl)) (Wf.alloc o):=by
 have hp:=S.plt
 have ht:=S.tlt
 have hz:=hput.size
 have hl:=S.lt
 refine ⟨(S.but.put hput (.inr (Nat.le_refl _))).alloc (by omega) o,hij,(S.par.put hput (by omega) (by omega)).alloc o,sl,rfl,KT.fr T (fun b hb => (Below.heap_alloc Wf o b (by omega)).trans (hput.block b (by omega))) (fun b hb => ⟨by omega,by simp; omega⟩)⟩
end
end Go.Proofs.YtnkphlkjhgngkaaGreatDoor

namespace Go.Proofs.YtnkphlkjhgngkaaGreatDoor
open Go.RowKit
theorem enters_typ : Enters Tryz.prog 132:=enters_of Tryz.func132 (by kernel_rfl) rfl
theorem enters_parameter : Enters Tryz.prog 109:=enters_of Tryz.func109 (by kernel_rfl) rfl
theorem enters_types : Enters Tryz.prog 157:=enters_of Tryz.func157 (by kernel_rfl) rfl
theorem enters_receiver : Enters Tryz.prog 63:=enters_of Tryz.func63 (by kernel_rfl) rfl
theorem enters_field : Enters Tryz.prog 104:=enters_of Tryz.func104 (by kernel_rfl) rfl
theorem enters_method : Enters Tryz.prog 105:=enters_of Tryz.func105 (by kernel_rfl) rfl
theorem enters_statement : Enters Tryz.prog 110:=enters_of Tryz.func110 (by kernel_rfl) rfl
theorem enters_expression : Enters Tryz.prog 174:=enters_of Tryz.func174 (by kernel_rfl) rfl
theorem enters_declaration : Enters Tryz.prog 35:=enters_of Tryz.func35 (by kernel_rfl) rfl
theorem types_any (X : Px) (n : Nat) (A : Good X n) (w : World) (i : Nat) (h : Bool) (H : Par X w i h) (hn : 3 * (X.l.length - i) ≤ n) :
    Calls Tryz.prog 157 #[X.p] w (OutL X w i h (typesR X.l (ps X.l n) i)):=by
  have cC:=commas_any X w i h (ps X.l n).typ 132 #[X.p] #[] enters_typ H (fun w1 k hk _ H1 => by rw [Array.append_empty]; exact A.typ w1 k h H1 (by omega))
  have HX : Hid (typesR X.l (ps X.l n) i = commasR X.l (ps X.l n).typ i):=rfl
  go_enter Tryz.func157,Tryz.ntmps157
  go_wp2_with fail
  refine cC.mono ?_
  rintro e w2 ⟨⟨hb2,hr⟩,_⟩
  clear cC
  generalize commasR X.l (ps X.l n).typ i = r at *
  cases r with
  | bad j =>
   obtain ⟨rfl,h',H2⟩:=hr
   exact ⟨rfl,OutL.of HX ⟨hb2,rfl,h',H2⟩⟩
  | ok ts j =>
   obtain ⟨hij,H2,v,rfl,hk⟩:=hr
   obtain ⟨ao,cap,rfl⟩:=hk.slice
   go_wp2
   go_ret
   exact OutL.of HX ⟨hb2,hij,H2,_,rfl,hk⟩
set_option maxRecDepth 20000 in
theorem atType_any (X : Px) (w : World) (i : Nat) (h : Bool) (H : Par X w i h) :
    Calls Tryz.prog 158 #[X.p] w fun e w' => e = .returned (.bool (atTypeR X.l i)) ∧ Below w.heap.size w w':=by
  have cT:=tokenA_any X w i h H
  have hfd:=field_tok0
  cases hk : (kindA X.l i == 1) with
  | true =>
   have HX : Hid (atTypeR X.l i = true):=by simp [Hid,atTypeR,hk]
   go_enter Tryz.func158,Tryz.ntmps158
   go_wp2_with fail
   refine cT.mono ?_
   rintro e w1 ⟨rfl,hb1⟩
   go_wp2
   go_ret
   exact ⟨by simp [HX.out],hb1⟩
  | false =>
   have HX : Hid (atTypeR X.l i = (isM X.l i [42] || isM X.l i [91] || isM X.l i [102,117,110,99])):=by simp [Hid,atTypeR,hk]
   go_enter Tryz.func158,Tryz.ntmps158
   go_wp2_with fail
   refine cT.mono ?_
   rintro e w1 ⟨rfl,hb1⟩
   have H1:=H.below hb1 (Nat.le_refl _)
   have hz1:=hb1.size
   have c1:=is_any X w1 i h H1 [42]
   clear cT
   cases h1 : isM X.l i [42] with
   | true =>
    rw [h1] at c1
    have HX2 : Hid (atTypeR X.l i = true):=HX.out.trans (by simp [h1])
    clear h1
    go_wp2_with fail
    refine c1.mono ?_
    rintro e w2 ⟨rfl,hb2⟩
    go_wp2
    go_ret
    exact ⟨by simp [HX2.out],hb1.trans (hb2.mono hz1)⟩
   | false =>
    rw [h1] at c1
    have HX2 : Hid (atTypeR X.l i = (isM X.l i [91] || isM X.l i [102,117,110,99])):=HX.out.trans (by simp [h1])
    clear h1 HX
    go_wp2_with fail
    refine c1.mono ?_
    rintro e w2 ⟨rfl,hb2⟩
    have hB2:=hb1.trans (hb2.mono hz1)
    have hz2:=hB2.size
    have c2:=is_any X w2 i h (H1.below hb2 (Nat.le_refl _)) [91]
    clear c1
    cases h2 : isM X.l i [91] with
    | true =>
     rw [h2] at c2
     have HX3 : Hid (atTypeR X.l i = true):=HX2.out.trans (by simp [h2])
     clear h2
     go_wp2_with fail
     refine c2.mono ?_
     rintro e w3 ⟨rfl,hb3⟩
     go_wp2
     go_ret
     exact ⟨by simp [HX3.out],hB2.trans (hb3.mono hz2)⟩
    | false =>
     rw [h2] at c2
     have HX3 : Hid (atTypeR X.l i = isM X.l i [102,117,110,99]):=HX2.out.trans (by simp [h2])
     clear h2 HX2
     go_wp2_with fail
     refine c2.mono ?_
     rintro e w3 ⟨rfl,hb3⟩
     have hB3:=hB2.trans (hb3.mono hz2)
     have hz3:=hB3.size
     have c3:=is_any X w3 i h (H.below hB3 (Nat.le_refl _)) [102,117,110,99]
     clear c2
     go_wp2_with fail
     refine c3.mono ?_
     rintro e w4 ⟨rfl,hb4⟩
     go_wp2
     go_ret
     exact ⟨by simp [HX3.out],hB3.trans (hb4.mono hz3)⟩
set_option maxRecDepth 20000 in
set_option maxHeartbeats 800000 in
theorem results_any (X : Px) (n : Nat) (A : Good X n) (w : World) (i : Nat) (h : Bool) (H : Par X w i h) (hn : 3 * (X.l.length - i) ≤ n) :
    Calls Tryz.prog 134 #[X.p] w (OutL X w i h (resultsR X.l (ps X.l n) i)):=by
  have c1:=is_any X w i h H [40]
  have hpl:=H.plt
  have lt0:=H.lt
  cases h1 : isM X.l i [40] with
  | true =>
   rw [h1] at c1
   have HX : Hid (resultsR X.l (ps X.l n) i = betweenR X.l [40] [41] (typesR X.l (ps X.l n)) i):=by simp [Hid,resultsR,h1]
   clear h1
   go_enter Tryz.func134,Tryz.ntmps134
   go_wp2_with fail
   refine c1.mono ?_
   rintro e w1 ⟨rfl,hb1⟩
   have hz1:=hb1.size
   clear c1
   go_wp2_with fail
   refine (betweenL_any X w1 i h (typesR X.l (ps X.l n)) 157 #[X.p] #[] enters_types (H.below hb1 (Nat.le_refl _)) [40] [41] (by decide) (by decide) (fun _ w2 _ H2 => by rw [Array.append_empty]; exact types_any X n A w2 (i + 1) false H2 (by omega))).mono ?_
   rintro e w2 ⟨⟨hb2,hr⟩,_⟩
   have hB2 : But X.P w.heap.size w w2:=(But.of_below hb1).trans (hb2.mono hz1)
   generalize betweenR X.l [40] [41] (typesR X.l (ps X.l n)) i = r at *
   cases r with
   | bad j =>
    obtain ⟨rfl,h',H2⟩:=hr
    exact ⟨rfl,OutL.of HX ⟨hB2,rfl,h',H2⟩⟩
   | ok ts j =>
    obtain ⟨hij,H2,v,rfl,hk⟩:=hr
    obtain ⟨ao,cap,rfl⟩:=hk.slice
    go_wp2
    go_ret
    exact OutL.of HX ⟨hB2,hij,H2,_,rfl,hk.wide hz1⟩
  | false =>
   rw [h1] at c1
   cases h2 : atTypeR X.l i with
   | true =>
    have HX : Hid (resultsR X.l (ps X.l n) i = ((ps X.l n).typ i).bind fun t i => .ok [t] i):=by simp [Hid,resultsR,h1,h2]
    go_enter Tryz.func134,Tryz.ntmps134
    go_wp2_with fail
    refine c1.mono ?_
    rintro e w1 ⟨rfl,hb1⟩
    have hz1:=hb1.size
    have H1:=H.below hb1 (Nat.le_refl _)
    have c2:=atType_any X w1 i h H1
    rw [h2] at c2
    clear c1 h1 h2
    go_wp2_with fail
    refine c2.mono ?_
    rintro e w2 ⟨rfl,hb2⟩
    have hB2:=hb1.trans (hb2.mono hz1)
    have hz2:=hB2.size
    clear c2
    go_wp2_with fail
    refine (A.typ w2 i h (H.below hB2 (Nat.le_refl _)) hn).mono ?_
    rintro e w3 ⟨hb3,hr⟩
    have hB3 : But X.P w.heap.size w w3:=(But.of_below hB2).trans (hb3.mono hz2)
    have hz3:=hb3.size
    generalize (ps X.l n).typ i = r at *
    cases r with
    | bad j =>
     obtain ⟨rfl,h',H2⟩:=hr
     exact ⟨rfl,OutL.of HX ⟨hB3,rfl,h',H2⟩⟩
    | ok t j =>
     obtain ⟨hij,H2,sl,rfl,hk⟩:=hr
     obtain ⟨ao,n2,cap,rfl⟩:=hk.slice
     have hO:=OwnL.one (B:=w.heap.size) (by omega) hk hz2 (Nat.le_refl _)
     go_wp2
     go_ret
     exact OutL.of HX ⟨hB3.alloc (by omega) _,by simp; omega,H2.alloc _,_,rfl,hO⟩
   | false =>
    have HX : Hid (resultsR X.l (ps X.l n) i = .ok [] i):=by simp [Hid,resultsR,h1,h2]
    go_enter Tryz.func134,Tryz.ntmps134
    go_wp2_with fail
    refine c1.mono ?_
    rintro e w1 ⟨rfl,hb1⟩
    have hz1:=hb1.size
    have H1:=H.below hb1 (Nat.le_refl _)
    have c2:=atType_any X w1 i h H1
    rw [h2] at c2
    clear c1 h1 h2
    go_wp2_with fail
    refine c2.mono ?_
    rintro e w2 ⟨rfl,hb2⟩
    have hB2:=hb1.trans (hb2.mono hz1)
    go_wp2
    go_ret
    exact OutL.of HX ⟨But.of_below hB2,by simp,H.below hB2 (Nat.le_refl _),_,rfl,OwnL.nil _ _⟩
set_option maxRecDepth 20000 in
set_option maxHeartbeats 1600000 in
theorem function_any (X : Px) (n : Nat) (A : Good X n) (w : World) (i : Nat) (h : Bool) (kd : Int) (pr : Nat → Res Tr) (f : Nat) (bs ls : Array Value) (he : Enters Tryz.prog f) (hI : ∀ w1 k,i < k → But X.P w.heap.size w w1 → Par X w1 k false → Calls Tryz.prog f (bs ++ ls) w1 (OutT X w1 k false (pr k))) (H : Par X w i h) (hn : 3 * (X.l.length - i) ≤ n + 3) :
    Calls Tryz.prog 108 #[X.p,.int .i64 kd,.func (.func f) bs ls] w (OutT X w i h (functionR X.l (ps X.l n) kd pr i)):=by
  obtain ⟨W0,hW0,S0⟩:=St.first H
  have lt0:=H.lt
  go_enter Tryz.func108,Tryz.ntmps108
  go_wp2_with fail
  refine (listed_any X W0 i h pr f bs ls he S0.par [40] [41] (by decide) (by decide) (fun _ w1 k hk hb H1 => hI w1 k hk (S0.but.trans (hb.mono (Nat.le_of_lt S0.lt))) H1)).mono ?_
  rintro e w1 ⟨⟨hb1,hr1⟩,hx1⟩
  cases hp1 : listedR X.l [40] [41] pr i with
  | bad j1 =>
   rw [hp1] at hr1
   obtain ⟨rfl,h1,H1⟩:=hr1
   have E1:=Lib.hid hp1
   have HR : Hid (functionR X.l (ps X.l n) kd pr i = .bad j1):=by simp [Hid,functionR,Res.bind,E1.out]
   exact ⟨rfl,OutT.of HR (S0.bad hb1 H1)⟩
  | ok l1 j1 =>
   rw [hp1] at hr1
   obtain ⟨ij1,H1,v1,rfl,hk1⟩:=hr1
   obtain ⟨ao1,c1,rfl⟩:=hk1.slice
   have xx1:=hx1 _ _ hp1
   have E1:=Lib.hid hp1
   have bz1:=hb1.size
   have ls1:=S0.lt
   have bd1:=H1.bnd
   have S1:=S0.call hb1 H1
   have lt1:=H1.lt
   have Tl1:=Own.new S0 hk1
   clear hp1
   clear hx1
   go_wp2_with fail
   refine (results_any X n A w1 j1 h S1.par (by omega)).mono ?_
   rintro e w2 ⟨hb2,hr2⟩
   cases hp2 : resultsR X.l (ps X.l n) j1 with
   | bad j2 =>
    rw [hp2] at hr2
    obtain ⟨rfl,h2,H2⟩:=hr2
    have E2:=Lib.hid hp2
    have HR : Hid (functionR X.l (ps X.l n) kd pr i = .bad j2):=by simp [Hid,functionR,Res.bind,E1.out,E2.out]
    exact ⟨rfl,OutT.of HR (S1.bad hb2 H2)⟩
   | ok l2 j2 =>
    rw [hp2] at hr2
    obtain ⟨ij2,H2,v2,rfl,hk2⟩:=hr2
    obtain ⟨ao2,c2,rfl⟩:=hk2.slice
    have E2:=Lib.hid hp2
    have bz2:=hb2.size
    have ls2:=S1.lt
    have bd2:=H2.bnd
    have lv2_l1:=OwnL.lt Tl1
    have S2:=S1.call hb2 H2
    have Tl1_2:=Tl1.call S1 hb2
    have lt2:=H2.lt
    have Tl2:=Own.new S1 hk2
    clear hp2
    go_wp2_with (at_builtin; refine wpList_join (by rfl) _ _ (by rfl) (by rfl) (by rfl) Tl1_2 hk2 (by omega) (by omega) (fun q hq => (lv2_l1 q hq).2) (by first | omega | (simp only [List.length_cons,List.length_nil]; omega)) ?_)
    intro ao3 c3 w3 hO3 hg3
    have S3:=S2.grown hg3 (fun q hq => (lv2_l1 q hq).1)
    have Tl3 : Own w w3 _ _:=hO3
    clear hk2
    go_wp2_with fail
    refine (node_any kd [] _ _ _ _).mono ?_
    rintro e w4 ⟨rfl,hb4⟩
    have S4:=S3.below hb4
    have Tl3_4:=Tl3.below hb4
    have Tt4:=Tl3_4.tre kd [] (l1.length : Int)
    have HR : Hid (functionR X.l (ps X.l n) kd pr i = .ok (.mk kd [] (l1.length : Int) (l1 ++ l2)) j2):=by simp [Hid,functionR,Res.bind,E1.out,E2.out]
    obtain ⟨u0,u1,u2,u3,b0,b1,b2,b3,bf⟩:=S4.box.open
    have bf0:=bf 0
    have bf1:=bf 1
    have bf2:=bf 2
    have bf3:=bf 3
    clear bf
    have nlt:=S4.lt
    have nlt2 : w.heap.size < w4.heap.size:=S4.lt
    have nne : w.heap.size ≠ w4.heap.size:=by omega
    have nne2 : w4.heap.size ≠ w.heap.size:=by omega
    go_wp2
    obtain ⟨Wf,hWf,hput,_,d0,d1,d2,d3⟩:=putN4 S4.box (.int .i64 kd) (.string ⟨([]).toArray⟩) (.int .i64 (l1.length : Int)) (.slice ao3 (l1.length + l2.length) c3)
    rw [hWf]
    have hlz : w.heap.size < Wf.heap.size:=by rw [hput.size]; exact S4.lt
    exact bodyPost_ret (v:=.agg #[.int .i64 kd,.string ⟨([]).toArray⟩,.int .i64 (l1.length : Int),.slice ao3 (l1.length + l2.length) c3]) (by simp [results,Tryz.results108,go_sem,d0,d1,d2,d3,hlz]) rfl (OutT.of HR (S4.doneA Tt4 hput (by omega) _))
set_option maxRecDepth 20000 in
set_option maxHeartbeats 1600000 in
theorem parameter_any (X : Px) (n : Nat) (A : Good X n) (w : World) (i : Nat) (h : Bool) (H : Par X w i h) (hn : 3 * (X.l.length - i) ≤ n + 3) :
    Calls Tryz.prog 109 #[X.p] w (OutT X w i h (paramR X.l (ps X.l n) i)):=by
  obtain ⟨W0,hW0,S0⟩:=St.first H
  have lt0:=H.lt
  go_enter Tryz.func109,Tryz.ntmps109
  go_wp2_with fail
  cases hm1 : (kindA X.l i == 1) with
  | false =>
   have E1:=Lib.hid (nameR_no hm1)
   refine (name_no X W0 i h S0.par (by simpa using hm1)).mono ?_
   rintro e w1 ⟨rfl,hb1,H1⟩
   have HR : Hid (paramR X.l (ps X.l n) i = .bad i):=by simp [Hid,paramR,Res.bind,E1.out]
   exact ⟨rfl,OutT.of HR (S0.bad hb1 H1)⟩
  | true =>
   have E1:=Lib.hid (nameR_yes hm1)
   refine (name_yes X W0 i h S0.par (by simpa using hm1)).mono ?_
   rintro e w1 ⟨rfl,hb1,H1⟩
   have S1:=S0.call hb1 H1
   have lt1:=H1.lt
   clear hm1
   go_wp2_with fail
   refine (A.typ w1 (i + 1) h S1.par (by omega)).mono ?_
   rintro e w2 ⟨hb2,hr2⟩
   cases hp2 : (ps X.l n).typ (i + 1) with
   | bad j2 =>
    rw [hp2] at hr2
    obtain ⟨rfl,h2,H2⟩:=hr2
    have E2:=Lib.hid hp2
    have HR : Hid (paramR X.l (ps X.l n) i = .bad j2):=by simp [Hid,paramR,Res.bind,E1.out,E2.out]
    exact ⟨rfl,OutT.of HR (S1.bad hb2 H2)⟩
   | ok t2 j2 =>
    rw [hp2] at hr2
    obtain ⟨ij2,H2,sl2,rfl,hk2⟩:=hr2
    obtain ⟨ao2,n2,c2,rfl⟩:=hk2.slice
    have E2:=Lib.hid hp2
    have S2:=S1.call hb2 H2
    have lt2:=H2.lt
    have Tt2:=Tre.new S1 hk2
    clear hp2 hk2
    have Tl3:=Own.made1 S2 Tt2
    have S3:=S2.alloc (.cells #[.int .i64 t2.kind,.string ⟨t2.text.toArray⟩,.int .i64 t2.num,.slice ao2 n2 c2] 24)
    go_wp2_with fail
    refine (node_any 8 (textA X.l i) _ _ _ _).mono ?_
    rintro e w4 ⟨rfl,hb4⟩
    have S4:=S3.below hb4
    have Tl3_4:=Tl3.below hb4
    have Tt4:=Tl3_4.tre 8 (textA X.l i) 0
    have HR : Hid (paramR X.l (ps X.l n) i = .ok (.mk 8 (textA X.l i) 0 [t2]) j2):=by simp [Hid,paramR,Res.bind,E1.out,E2.out]
    obtain ⟨u0,u1,u2,u3,b0,b1,b2,b3,bf⟩:=S4.box.open
    have bf0:=bf 0
    have bf1:=bf 1
    have bf2:=bf 2
    have bf3:=bf 3
    clear bf
    go_wp2
    obtain ⟨Wf,hWf,hput,_,d0,d1,d2,d3⟩:=putN4 S4.box (.int .i64 8) (.string ⟨((textA X.l i)).toArray⟩) (.int .i64 0) (.slice (some ⟨w2.heap.size,0,none⟩) 1 1)
    rw [hWf]
    exact bodyPost_ret (v:=.agg #[.int .i64 8,.string ⟨((textA X.l i)).toArray⟩,.int .i64 0,.slice (some ⟨w2.heap.size,0,none⟩) 1 1]) (by simp [results,Tryz.results109,go_sem,d0,d1,d2,d3]) rfl (OutT.of HR (S4.done Tt4 hput (by omega)))
set_option maxRecDepth 20000 in
set_option maxHeartbeats 1600000 in
theorem signature_any (X : Px) (n : Nat) (A : Good X n) (w : World) (i : Nat) (h : Bool) (H : Par X w i h) (hn : 3 * (X.l.length - i) ≤ n + 3) :
    Calls Tryz.prog 65 #[X.p] w (OutT X w i h (sigR X.l (ps X.l n) i)):=by
  obtain ⟨W0,hW0,S0⟩:=St.first H
  have lt0:=H.lt
  go_enter Tryz.func65,Tryz.ntmps65
  go_wp2_with fail
  refine (function_any X n A W0 i h 7 (paramR X.l (ps X.l n)) 109 #[X.p] #[] enters_parameter (fun w1 k hk _ H1 => by rw [Array.append_empty]; exact parameter_any X n A w1 k false H1 (by omega)) S0.par hn).mono ?_
  rintro e w1 ⟨hb1,hr1⟩
  cases hp1 : functionR X.l (ps X.l n) 7 (paramR X.l (ps X.l n)) i with
  | bad j1 =>
   rw [hp1] at hr1
   obtain ⟨rfl,h1,H1⟩:=hr1
   have E1:=Lib.hid hp1
   have HR : Hid (sigR X.l (ps X.l n) i = .bad j1):=by simp [Hid,sigR,E1.out]
   exact ⟨rfl,OutT.of HR (S0.bad hb1 H1)⟩
  | ok t1 j1 =>
   rw [hp1] at hr1
   obtain ⟨ij1,H1,sl1,rfl,hk1⟩:=hr1
   obtain ⟨ao1,n1,c1,rfl⟩:=hk1.slice
   have E1:=Lib.hid hp1
   have S1:=S0.call hb1 H1
   have lt1:=H1.lt
   have Tt1:=Tre.new S0 hk1
   clear hp1 hk1
   have HR : Hid (sigR X.l (ps X.l n) i = .ok t1 j1):=by simp [Hid,sigR,E1.out]
   obtain ⟨u0,u1,u2,u3,b0,b1,b2,b3,bf⟩:=S1.box.open
   have bf0:=bf 0
   have bf1:=bf 1
   have bf2:=bf 2
   have bf3:=bf 3
   clear bf
   go_wp2
   obtain ⟨Wf,hWf,hput,_,d0,d1,d2,d3⟩:=putN4 S1.box (.int .i64 t1.kind) (.string ⟨t1.text.toArray⟩) (.int .i64 t1.num) (.slice ao1 n1 c1)
   rw [hWf]
   exact bodyPost_ret (v:=.agg #[.int .i64 t1.kind,.string ⟨t1.text.toArray⟩,.int .i64 t1.num,.slice ao1 n1 c1]) (by simp [results,Tryz.results65,go_sem,d0,d1,d2,d3]) rfl (OutT.of HR (S1.done Tt1 hput (by omega)))
set_option maxRecDepth 20000 in
set_option maxHeartbeats 1600000 in
theorem typ_any (X : Px) (n : Nat) (A : Good X n) (w : World) (i : Nat) (h : Bool) (H : Par X w i h) (hn : 3 * (X.l.length - i) ≤ n + 1) :
    Calls Tryz.prog 132 #[X.p] w (OutT X w i h (typS X.l (ps X.l n) i)):=by
  obtain ⟨W0,hW0,S0⟩:=St.first H
  have lt0:=H.lt
  have hfd:=field_tok0
  go_enter Tryz.func132,Tryz.ntmps132
  go_wp2_with fail
  refine (tokenA_any X W0 i h S0.par).mono ?_
  rintro e w1 ⟨rfl,hb1⟩
  have S1:=S0.below hb1
  cases hm1 : (kindA X.l i == 1) with
  | false =>
   have E1:=Lib.hid hm1
   go_wp2_with fail
   cases hm2 : isM X.l i [42] with
   | false =>
    refine (take_no X w1 i h S1.par [42] hm2).mono ?_
    rintro e w2 ⟨rfl,hb2,H2⟩
    have E2:=Lib.hid hm2
    have S2:=S1.call hb2 H2
    have lt2:=H2.lt
    clear hm2
    go_wp2_with fail
    cases hm3 : isM X.l i [91] with
    | false =>
     refine (take_no X w2 i h S2.par [91] hm3).mono ?_
     rintro e w3 ⟨rfl,hb3,H3⟩
     have E3:=Lib.hid hm3
     have S3:=S2.call hb3 H3
     have lt3:=H3.lt
     clear hm3
     go_wp2_with fail
     cases hm4 : isM X.l i [102,117,110,99] with
     | false =>
      have E4:=Lib.hid (needR_no hm4)
      refine (need_no X w3 i h S3.par [102,117,110,99] hm4).mono ?_
      rintro e w4 ⟨rfl,hb4,H4⟩
      have HR : Hid (typS X.l (ps X.l n) i = .bad i):=by simp [Hid,typS,Res.bind,E1.out,E2.out,E3.out,E4.out]
      exact ⟨rfl,OutT.of HR (S3.bad hb4 H4)⟩
     | true =>
      have E4:=Lib.hid (needR_yes hm4)
      refine (need_yes X w3 i h S3.par [102,117,110,99] (by decide) hm4).mono ?_
      rintro e w4 ⟨rfl,hb4,H4⟩
      have S4:=S3.call hb4 H4
      have lt4:=H4.lt
      clear hm4
      go_wp2_with fail
      refine (function_any X n A w4 (i + 1) h 13 (ps X.l n).typ 132 #[X.p] #[] enters_typ (fun w1 k hk _ H1 => by rw [Array.append_empty]; exact A.typ w1 k false H1 (by omega)) S4.par (by omega)).mono ?_
      rintro e w5 ⟨hb5,hr5⟩
      cases hp5 : functionR X.l (ps X.l n) 13 (ps X.l n).typ (i + 1) with
      | bad j5 =>
       rw [hp5] at hr5
       obtain ⟨rfl,h5,H5⟩:=hr5
       have E5:=Lib.hid hp5
       have HR : Hid (typS X.l (ps X.l n) i = .bad j5):=by simp [Hid,typS,Res.bind,E1.out,E2.out,E3.out,E4.out,E5.out]
       exact ⟨rfl,OutT.of HR (S4.bad hb5 H5)⟩
      | ok t5 j5 =>
       rw [hp5] at hr5
       obtain ⟨ij5,H5,sl5,rfl,hk5⟩:=hr5
       obtain ⟨ao5,n5,c5,rfl⟩:=hk5.slice
       have E5:=Lib.hid hp5
       have S5:=S4.call hb5 H5
       have lt5:=H5.lt
       have Tt5:=Tre.new S4 hk5
       clear hp5 hk5
       have HR : Hid (typS X.l (ps X.l n) i = .ok t5 j5):=by simp [Hid,typS,Res.bind,E1.out,E2.out,E3.out,E4.out,E5.out]
       obtain ⟨u0,u1,u2,u3,b0,b1,b2,b3,bf⟩:=S5.box.open
       have bf0:=bf 0
       have bf1:=bf 1
       have bf2:=bf 2
       have bf3:=bf 3
       clear bf
       go_wp2
       obtain ⟨Wf,hWf,hput,_,d0,d1,d2,d3⟩:=putN4 S5.box (.int .i64 t5.kind) (.string ⟨t5.text.toArray⟩) (.int .i64 t5.num) (.slice ao5 n5 c5)
       rw [hWf]
       exact bodyPost_ret (v:=.agg #[.int .i64 t5.kind,.string ⟨t5.text.toArray⟩,.int .i64 t5.num,.slice ao5 n5 c5]) (by simp [results,Tryz.results132,go_sem,d0,d1,d2,d3]) rfl (OutT.of HR (S5.done Tt5 hput (by omega)))
    | true =>
     refine (take_yes X w2 i h S2.par [91] (by decide) hm3).mono ?_
     rintro e w3 ⟨rfl,hb3,H3⟩
     have E3:=Lib.hid hm3
     have S3:=S2.call hb3 H3
     have lt3:=H3.lt
     clear hm3
     go_wp2_with fail
     cases hm6 : isM X.l (i + 1) [93] with
     | false =>
      have E6:=Lib.hid (needR_no hm6)
      refine (need_no X w3 (i + 1) h S3.par [93] hm6).mono ?_
      rintro e w6 ⟨rfl,hb6,H6⟩
      have HR : Hid (typS X.l (ps X.l n) i = .bad (i + 1)):=by simp [Hid,typS,Res.bind,E1.out,E2.out,E3.out,E6.out]
      exact ⟨rfl,OutT.of HR (S3.bad hb6 H6)⟩
     | true =>
      have E6:=Lib.hid (needR_yes hm6)
      refine (need_yes X w3 (i + 1) h S3.par [93] (by decide) hm6).mono ?_
      rintro e w6 ⟨rfl,hb6,H6⟩
      have S6:=S3.call hb6 H6
      have lt6:=H6.lt
      clear hm6
      go_wp2_with fail
      refine (A.typ w6 (i + 2) h S6.par (by omega)).mono ?_
      rintro e w7 ⟨hb7,hr7⟩
      cases hp7 : (ps X.l n).typ (i + 2) with
      | bad j7 =>
       rw [hp7] at hr7
       obtain ⟨rfl,h7,H7⟩:=hr7
       have E7:=Lib.hid hp7
       have HR : Hid (typS X.l (ps X.l n) i = .bad j7):=by simp [Hid,typS,Res.bind,E1.out,E2.out,E3.out,E6.out,E7.out]
       exact ⟨rfl,OutT.of HR (S6.bad hb7 H7)⟩
      | ok t7 j7 =>
       rw [hp7] at hr7
       obtain ⟨ij7,H7,sl7,rfl,hk7⟩:=hr7
       obtain ⟨ao7,n7,c7,rfl⟩:=hk7.slice
       have E7:=Lib.hid hp7
       have S7:=S6.call hb7 H7
       have lt7:=H7.lt
       have Tt7:=Tre.new S6 hk7
       clear hp7 hk7
       have Tl8:=Own.made1 S7 Tt7
       have S8:=S7.alloc (.cells #[.int .i64 t7.kind,.string ⟨t7.text.toArray⟩,.int .i64 t7.num,.slice ao7 n7 c7] 24)
       go_wp2_with fail
       refine (node_any 12 [] _ _ _ _).mono ?_
       rintro e w9 ⟨rfl,hb9⟩
       have S9:=S8.below hb9
       have Tl8_9:=Tl8.below hb9
       have Tt9:=Tl8_9.tre 12 [] 0
       have HR : Hid (typS X.l (ps X.l n) i = .ok (.mk 12 [] 0 [t7]) j7):=by simp [Hid,typS,Res.bind,E1.out,E2.out,E3.out,E6.out,E7.out]
       obtain ⟨u0,u1,u2,u3,b0,b1,b2,b3,bf⟩:=S9.box.open
       have bf0:=bf 0
       have bf1:=bf 1
       have bf2:=bf 2
       have bf3:=bf 3
       clear bf
       go_wp2
       obtain ⟨Wf,hWf,hput,_,d0,d1,d2,d3⟩:=putN4 S9.box (.int .i64 12) (.string ⟨([]).toArray⟩) (.int .i64 0) (.slice (some ⟨w7.heap.size,0,none⟩) 1 1)
       rw [hWf]
       exact bodyPost_ret (v:=.agg #[.int .i64 12,.string ⟨([]).toArray⟩,.int .i64 0,.slice (some ⟨w7.heap.size,0,none⟩) 1 1]) (by simp [results,Tryz.results132,go_sem,d0,d1,d2,d3]) rfl (OutT.of HR (S9.done Tt9 hput (by omega)))
   | true =>
    refine (take_yes X w1 i h S1.par [42] (by decide) hm2).mono ?_
    rintro e w2 ⟨rfl,hb2,H2⟩
    have E2:=Lib.hid hm2
    have S2:=S1.call hb2 H2
    have lt2:=H2.lt
    clear hm2
    go_wp2_with fail
    refine (A.typ w2 (i + 1) h S2.par (by omega)).mono ?_
    rintro e w10 ⟨hb10,hr10⟩
    cases hp10 : (ps X.l n).typ (i + 1) with
    | bad j10 =>
     rw [hp10] at hr10
     obtain ⟨rfl,h10,H10⟩:=hr10
     have E10:=Lib.hid hp10
     have HR : Hid (typS X.l (ps X.l n) i = .bad j10):=by simp [Hid,typS,Res.bind,E1.out,E2.out,E10.out]
     exact ⟨rfl,OutT.of HR (S2.bad hb10 H10)⟩
    | ok t10 j10 =>
     rw [hp10] at hr10
     obtain ⟨ij10,H10,sl10,rfl,hk10⟩:=hr10
     obtain ⟨ao10,n10,c10,rfl⟩:=hk10.slice
     have E10:=Lib.hid hp10
     have S10:=S2.call hb10 H10
     have lt10:=H10.lt
     have Tt10:=Tre.new S2 hk10
     clear hp10 hk10
     have Tl11:=Own.made1 S10 Tt10
     have S11:=S10.alloc (.cells #[.int .i64 t10.kind,.string ⟨t10.text.toArray⟩,.int .i64 t10.num,.slice ao10 n10 c10] 24)
     go_wp2_with fail
     refine (node_any 11 [] _ _ _ _).mono ?_
     rintro e w12 ⟨rfl,hb12⟩
     have S12:=S11.below hb12
     have Tl11_12:=Tl11.below hb12
     have Tt12:=Tl11_12.tre 11 [] 0
     have HR : Hid (typS X.l (ps X.l n) i = .ok (.mk 11 [] 0 [t10]) j10):=by simp [Hid,typS,Res.bind,E1.out,E2.out,E10.out]
     obtain ⟨u0,u1,u2,u3,b0,b1,b2,b3,bf⟩:=S12.box.open
     have bf0:=bf 0
     have bf1:=bf 1
     have bf2:=bf 2
     have bf3:=bf 3
     clear bf
     go_wp2
     obtain ⟨Wf,hWf,hput,_,d0,d1,d2,d3⟩:=putN4 S12.box (.int .i64 11) (.string ⟨([]).toArray⟩) (.int .i64 0) (.slice (some ⟨w10.heap.size,0,none⟩) 1 1)
     rw [hWf]
     exact bodyPost_ret (v:=.agg #[.int .i64 11,.string ⟨([]).toArray⟩,.int .i64 0,.slice (some ⟨w10.heap.size,0,none⟩) 1 1]) (by simp [results,Tryz.results132,go_sem,d0,d1,d2,d3]) rfl (OutT.of HR (S12.done Tt12 hput (by omega)))
  | true =>
   have E1:=Lib.hid hm1
   go_wp2_with fail
   refine (name_yes X w1 i h S1.par (by simpa using hm1)).mono ?_
   rintro e w13 ⟨rfl,hb13,H13⟩
   have S13:=S1.call hb13 H13
   have lt13:=H13.lt
   clear hm1
   go_wp2_with fail
   refine (node_any 10 (textA X.l i) _ _ _ _).mono ?_
   rintro e w14 ⟨rfl,hb14⟩
   have S14:=S13.below hb14
   have Tt14:=Tre.leaf w w14 10 (textA X.l i) 0 none 0
   have HR : Hid (typS X.l (ps X.l n) i = .ok (.mk 10 (textA X.l i) 0 []) (i + 1)):=by simp [Hid,typS,E1.out]
   obtain ⟨u0,u1,u2,u3,b0,b1,b2,b3,bf⟩:=S14.box.open
   have bf0:=bf 0
   have bf1:=bf 1
   have bf2:=bf 2
   have bf3:=bf 3
   clear bf
   go_wp2
   obtain ⟨Wf,hWf,hput,_,d0,d1,d2,d3⟩:=putN4 S14.box (.int .i64 10) (.string ⟨((textA X.l i)).toArray⟩) (.int .i64 0) (.slice none 0 0)
   rw [hWf]
   exact bodyPost_ret (v:=.agg #[.int .i64 10,.string ⟨((textA X.l i)).toArray⟩,.int .i64 0,.slice none 0 0]) (by simp [results,Tryz.results132,go_sem,d0,d1,d2,d3]) rfl (OutT.of HR (S14.done Tt14 hput (by omega)))
set_option maxRecDepth 20000 in
set_option maxHeartbeats 1600000 in
theorem receiver_any (X : Px) (w : World) (i : Nat) (h : Bool) (H : Par X w i h) :
    Calls Tryz.prog 63 #[X.p] w (OutT X w i h (receiverR X.l i)):=by
  obtain ⟨W0,hW0,S0⟩:=St.first H
  have lt0:=H.lt
  go_enter Tryz.func63,Tryz.ntmps63
  go_wp2_with fail
  cases hm1 : (kindA X.l i == 1) with
  | false =>
   have E1:=Lib.hid (nameR_no hm1)
   refine (name_no X W0 i h S0.par (by simpa using hm1)).mono ?_
   rintro e w1 ⟨rfl,hb1,H1⟩
   have HR : Hid (receiverR X.l i = .bad i):=by simp [Hid,receiverR,Res.bind,E1.out]
   exact ⟨rfl,OutT.of HR (S0.bad hb1 H1)⟩
  | true =>
   have E1:=Lib.hid (nameR_yes hm1)
   refine (name_yes X W0 i h S0.par (by simpa using hm1)).mono ?_
   rintro e w1 ⟨rfl,hb1,H1⟩
   have S1:=S0.call hb1 H1
   have lt1:=H1.lt
   clear hm1
   go_wp2_with fail
   cases hm2 : isM X.l (i + 1) [42] with
   | false =>
    have E2:=Lib.hid (needR_no hm2)
    refine (need_no X w1 (i + 1) h S1.par [42] hm2).mono ?_
    rintro e w2 ⟨rfl,hb2,H2⟩
    have HR : Hid (receiverR X.l i = .bad (i + 1)):=by simp [Hid,receiverR,Res.bind,E1.out,E2.out]
    exact ⟨rfl,OutT.of HR (S1.bad hb2 H2)⟩
   | true =>
    have E2:=Lib.hid (needR_yes hm2)
    refine (need_yes X w1 (i + 1) h S1.par [42] (by decide) hm2).mono ?_
    rintro e w2 ⟨rfl,hb2,H2⟩
    have S2:=S1.call hb2 H2
    have lt2:=H2.lt
    clear hm2
    go_wp2_with fail
    cases hm3 : (kindA X.l (i + 2) == 1) with
    | false =>
     have E3:=Lib.hid (nameR_no hm3)
     refine (name_no X w2 (i + 2) h S2.par (by simpa using hm3)).mono ?_
     rintro e w3 ⟨rfl,hb3,H3⟩
     have HR : Hid (receiverR X.l i = .bad (i + 2)):=by simp [Hid,receiverR,Res.bind,E1.out,E2.out,E3.out]
     exact ⟨rfl,OutT.of HR (S2.bad hb3 H3)⟩
    | true =>
     have E3:=Lib.hid (nameR_yes hm3)
     refine (name_yes X w2 (i + 2) h S2.par (by simpa using hm3)).mono ?_
     rintro e w3 ⟨rfl,hb3,H3⟩
     have S3:=S2.call hb3 H3
     have lt3:=H3.lt
     clear hm3
     go_wp2_with fail
     refine (node_any 10 (textA X.l (i + 2)) _ _ _ _).mono ?_
     rintro e w4 ⟨rfl,hb4⟩
     have S4:=S3.below hb4
     have Tt4:=Tre.leaf w w4 10 (textA X.l (i + 2)) 0 none 0
     have Tl5:=Own.made1 S4 Tt4
     have S5:=S4.alloc (.cells #[.int .i64 10,.string ⟨((textA X.l (i + 2))).toArray⟩,.int .i64 0,.slice none 0 0] 24)
     go_wp2_with fail
     refine (node_any 11 [] _ _ _ _).mono ?_
     rintro e w6 ⟨rfl,hb6⟩
     have S6:=S5.below hb6
     have Tl5_6:=Tl5.below hb6
     have Tt6:=Tl5_6.tre 11 [] 0
     have Tl7:=Own.made1 S6 Tt6
     have S7:=S6.alloc (.cells #[.int .i64 11,.string ⟨([]).toArray⟩,.int .i64 0,.slice (some ⟨w4.heap.size,0,none⟩) 1 1] 24)
     go_wp2_with fail
     refine (node_any 8 (textA X.l i) _ _ _ _).mono ?_
     rintro e w8 ⟨rfl,hb8⟩
     have S8:=S7.below hb8
     have Tl7_8:=Tl7.below hb8
     have Tt8:=Tl7_8.tre 8 (textA X.l i) 0
     have HR : Hid (receiverR X.l i = .ok (.mk 8 (textA X.l i) 0 [(.mk 11 [] 0 [(.mk 10 (textA X.l (i + 2)) 0 [])])]) (i + 3)):=by simp [Hid,receiverR,Res.bind,E1.out,E2.out,E3.out]
     obtain ⟨u0,u1,u2,u3,b0,b1,b2,b3,bf⟩:=S8.box.open
     have bf0:=bf 0
     have bf1:=bf 1
     have bf2:=bf 2
     have bf3:=bf 3
     clear bf
     go_wp2
     obtain ⟨Wf,hWf,hput,_,d0,d1,d2,d3⟩:=putN4 S8.box (.int .i64 8) (.string ⟨((textA X.l i)).toArray⟩) (.int .i64 0) (.slice (some ⟨w6.heap.size,0,none⟩) 1 1)
     rw [hWf]
     exact bodyPost_ret (v:=.agg #[.int .i64 8,.string ⟨((textA X.l i)).toArray⟩,.int .i64 0,.slice (some ⟨w6.heap.size,0,none⟩) 1 1]) (by simp [results,Tryz.results63,go_sem,d0,d1,d2,d3]) rfl (OutT.of HR (S8.done Tt8 hput (by omega)))
set_option maxRecDepth 20000 in
set_option maxHeartbeats 1600000 in
theorem field_any (X : Px) (n : Nat) (A : Good X n) (w : World) (i : Nat) (h : Bool) (H : Par X w i h) (hn : 3 * (X.l.length - i) ≤ n + 3) :
    Calls Tryz.prog 104 #[X.p] w (OutT X w i h (fieldR X.l (ps X.l n) i)):=by
  obtain ⟨W0,hW0,S0⟩:=St.first H
  have lt0:=H.lt
  go_enter Tryz.func104,Tryz.ntmps104
  go_wp2_with fail
  cases hm1 : (kindA X.l i == 1) with
  | false =>
   have E1:=Lib.hid (nameR_no hm1)
   refine (name_no X W0 i h S0.par (by simpa using hm1)).mono ?_
   rintro e w1 ⟨rfl,hb1,H1⟩
   have HR : Hid (fieldR X.l (ps X.l n) i = .bad i):=by simp [Hid,fieldR,Res.bind,E1.out]
   exact ⟨rfl,OutT.of HR (S0.bad hb1 H1)⟩
  | true =>
   have E1:=Lib.hid (nameR_yes hm1)
   refine (name_yes X W0 i h S0.par (by simpa using hm1)).mono ?_
   rintro e w1 ⟨rfl,hb1,H1⟩
   have S1:=S0.call hb1 H1
   have lt1:=H1.lt
   clear hm1
   go_wp2_with fail
   refine (A.typ w1 (i + 1) h S1.par (by omega)).mono ?_
   rintro e w2 ⟨hb2,hr2⟩
   cases hp2 : (ps X.l n).typ (i + 1) with
   | bad j2 =>
    rw [hp2] at hr2
    obtain ⟨rfl,h2,H2⟩:=hr2
    have E2:=Lib.hid hp2
    have HR : Hid (fieldR X.l (ps X.l n) i = .bad j2):=by simp [Hid,fieldR,Res.bind,E1.out,E2.out]
    exact ⟨rfl,OutT.of HR (S1.bad hb2 H2)⟩
   | ok t2 j2 =>
    rw [hp2] at hr2
    obtain ⟨ij2,H2,sl2,rfl,hk2⟩:=hr2
    obtain ⟨ao2,n2,c2,rfl⟩:=hk2.slice
    have E2:=Lib.hid hp2
    have S2:=S1.call hb2 H2
    have lt2:=H2.lt
    have Tt2:=Tre.new S1 hk2
    clear hp2 hk2
    have Tl3:=Own.made1 S2 Tt2
    have S3:=S2.alloc (.cells #[.int .i64 t2.kind,.string ⟨t2.text.toArray⟩,.int .i64 t2.num,.slice ao2 n2 c2] 24)
    go_wp2_with fail
    refine (node_any 6 (textA X.l i) _ _ _ _).mono ?_
    rintro e w4 ⟨rfl,hb4⟩
    have S4:=S3.below hb4
    have Tl3_4:=Tl3.below hb4
    have Tt4:=Tl3_4.tre 6 (textA X.l i) 0
    have pl5:=S4.par.plt
    have S5:=S4.alloc (.cells #[.int .i64 6,.string ⟨((textA X.l i)).toArray⟩,.int .i64 0,.slice (some ⟨w2.heap.size,0,none⟩) 1 1] 24)
    have Tt4_5:=Tt4.alloc (.cells #[.int .i64 6,.string ⟨((textA X.l i)).toArray⟩,.int .i64 0,.slice (some ⟨w2.heap.size,0,none⟩) 1 1] 24)
    go_wp2_with fail
    cases hm6 : isM X.l j2 [59] with
    | false =>
     have E6:=Lib.hid (needR_no hm6)
     refine (need_no X (w4.alloc (.cells #[.int .i64 6,.string ⟨((textA X.l i)).toArray⟩,.int .i64 0,.slice (some ⟨w2.heap.size,0,none⟩) 1 1] 24)) j2 h S5.par [59] hm6).mono ?_
     rintro e w6 ⟨rfl,hb6,H6⟩
     have HR : Hid (fieldR X.l (ps X.l n) i = .bad j2):=by simp [Hid,fieldR,Res.bind,E1.out,E2.out,E6.out]
     exact ⟨rfl,OutT.of HR (S5.bad hb6 H6)⟩
    | true =>
     have E6:=Lib.hid (needR_yes hm6)
     refine (need_yes X (w4.alloc (.cells #[.int .i64 6,.string ⟨((textA X.l i)).toArray⟩,.int .i64 0,.slice (some ⟨w2.heap.size,0,none⟩) 1 1] 24)) j2 h S5.par [59] (by decide) hm6).mono ?_
     rintro e w6 ⟨rfl,hb6,H6⟩
     obtain ⟨q0,q1,q2,q3⟩:=held4 hb6 pl5
     have S6:=S5.call hb6 H6
     have Tt4_6:=Tt4_5.call S5 hb6
     have lt6:=H6.lt
     clear hm6
     have HR : Hid (fieldR X.l (ps X.l n) i = .ok (.mk 6 (textA X.l i) 0 [t2]) (j2 + 1)):=by simp [Hid,fieldR,Res.bind,E1.out,E2.out,E6.out]
     obtain ⟨u0,u1,u2,u3,b0,b1,b2,b3,bf⟩:=S6.box.open
     have bf0:=bf 0
     have bf1:=bf 1
     have bf2:=bf 2
     have bf3:=bf 3
     clear bf
     go_wp2
     obtain ⟨Wf,hWf,hput,_,d0,d1,d2,d3⟩:=putN4 S6.box (.int .i64 6) (.string ⟨((textA X.l i)).toArray⟩) (.int .i64 0) (.slice (some ⟨w2.heap.size,0,none⟩) 1 1)
     rw [hWf]
     exact bodyPost_ret (v:=.agg #[.int .i64 6,.string ⟨((textA X.l i)).toArray⟩,.int .i64 0,.slice (some ⟨w2.heap.size,0,none⟩) 1 1]) (by simp [results,Tryz.results104,go_sem,d0,d1,d2,d3]) rfl (OutT.of HR (S6.done Tt4_6 hput (by omega)))
set_option maxRecDepth 20000 in
set_option maxHeartbeats 1600000 in
theorem method_any (X : Px) (n : Nat) (A : Good X n) (w : World) (i : Nat) (h : Bool) (H : Par X w i h) (hn : 3 * (X.l.length - i) ≤ n + 3) :
    Calls Tryz.prog 105 #[X.p] w (OutT X w i h (methodR X.l (ps X.l n) i)):=by
  obtain ⟨W0,hW0,S0⟩:=St.first H
  have lt0:=H.lt
  go_enter Tryz.func105,Tryz.ntmps105
  go_wp2_with fail
  cases hm1 : (kindA X.l i == 1) with
  | false =>
   have E1:=Lib.hid (nameR_no hm1)
   refine (name_no X W0 i h S0.par (by simpa using hm1)).mono ?_
   rintro e w1 ⟨rfl,hb1,H1⟩
   have HR : Hid (methodR X.l (ps X.l n) i = .bad i):=by simp [Hid,methodR,Res.bind,E1.out]
   exact ⟨rfl,OutT.of HR (S0.bad hb1 H1)⟩
  | true =>
   have E1:=Lib.hid (nameR_yes hm1)
   refine (name_yes X W0 i h S0.par (by simpa using hm1)).mono ?_
   rintro e w1 ⟨rfl,hb1,H1⟩
   have S1:=S0.call hb1 H1
   have lt1:=H1.lt
   clear hm1
   go_wp2_with fail
   refine (signature_any X n A w1 (i + 1) h S1.par (by omega)).mono ?_
   rintro e w2 ⟨hb2,hr2⟩
   cases hp2 : sigR X.l (ps X.l n) (i + 1) with
   | bad j2 =>
    rw [hp2] at hr2
    obtain ⟨rfl,h2,H2⟩:=hr2
    have E2:=Lib.hid hp2
    have HR : Hid (methodR X.l (ps X.l n) i = .bad j2):=by simp [Hid,methodR,Res.bind,E1.out,E2.out]
    exact ⟨rfl,OutT.of HR (S1.bad hb2 H2)⟩
   | ok t2 j2 =>
    rw [hp2] at hr2
    obtain ⟨ij2,H2,sl2,rfl,hk2⟩:=hr2
    obtain ⟨ao2,n2,c2,rfl⟩:=hk2.slice
    have E2:=Lib.hid hp2
    have S2:=S1.call hb2 H2
    have lt2:=H2.lt
    have Tt2:=Tre.new S1 hk2
    clear hp2 hk2
    have Tl3:=Own.made1 S2 Tt2
    have S3:=S2.alloc (.cells #[.int .i64 t2.kind,.string ⟨t2.text.toArray⟩,.int .i64 t2.num,.slice ao2 n2 c2] 24)
    go_wp2_with fail
    refine (node_any 6 (textA X.l i) _ _ _ _).mono ?_
    rintro e w4 ⟨rfl,hb4⟩
    have S4:=S3.below hb4
    have Tl3_4:=Tl3.below hb4
    have Tt4:=Tl3_4.tre 6 (textA X.l i) 0
    have pl5:=S4.par.plt
    have S5:=S4.alloc (.cells #[.int .i64 6,.string ⟨((textA X.l i)).toArray⟩,.int .i64 0,.slice (some ⟨w2.heap.size,0,none⟩) 1 1] 24)
    have Tt4_5:=Tt4.alloc (.cells #[.int .i64 6,.string ⟨((textA X.l i)).toArray⟩,.int .i64 0,.slice (some ⟨w2.heap.size,0,none⟩) 1 1] 24)
    go_wp2_with fail
    cases hm6 : isM X.l j2 [59] with
    | false =>
     have E6:=Lib.hid (needR_no hm6)
     refine (need_no X (w4.alloc (.cells #[.int .i64 6,.string ⟨((textA X.l i)).toArray⟩,.int .i64 0,.slice (some ⟨w2.heap.size,0,none⟩) 1 1] 24)) j2 h S5.par [59] hm6).mono ?_
     rintro e w6 ⟨rfl,hb6,H6⟩
     have HR : Hid (methodR X.l (ps X.l n) i = .bad j2):=by simp [Hid,methodR,Res.bind,E1.out,E2.out,E6.out]
     exact ⟨rfl,OutT.of HR (S5.bad hb6 H6)⟩
    | true =>
     have E6:=Lib.hid (needR_yes hm6)
     refine (need_yes X (w4.alloc (.cells #[.int .i64 6,.string ⟨((textA X.l i)).toArray⟩,.int .i64 0,.slice (some ⟨w2.heap.size,0,none⟩) 1 1] 24)) j2 h S5.par [59] (by decide) hm6).mono ?_
     rintro e w6 ⟨rfl,hb6,H6⟩
     obtain ⟨q0,q1,q2,q3⟩:=held4 hb6 pl5
     have S6:=S5.call hb6 H6
     have Tt4_6:=Tt4_5.call S5 hb6
     have lt6:=H6.lt
     clear hm6
     have HR : Hid (methodR X.l (ps X.l n) i = .ok (.mk 6 (textA X.l i) 0 [t2]) (j2 + 1)):=by simp [Hid,methodR,Res.bind,E1.out,E2.out,E6.out]
     obtain ⟨u0,u1,u2,u3,b0,b1,b2,b3,bf⟩:=S6.box.open
     have bf0:=bf 0
     have bf1:=bf 1
     have bf2:=bf 2
     have bf3:=bf 3
     clear bf
     go_wp2
     obtain ⟨Wf,hWf,hput,_,d0,d1,d2,d3⟩:=putN4 S6.box (.int .i64 6) (.string ⟨((textA X.l i)).toArray⟩) (.int .i64 0) (.slice (some ⟨w2.heap.size,0,none⟩) 1 1)
     rw [hWf]
     exact bodyPost_ret (v:=.agg #[.int .i64 6,.string ⟨((textA X.l i)).toArray⟩,.int .i64 0,.slice (some ⟨w2.heap.size,0,none⟩) 1 1]) (by simp [results,Tryz.results105,go_sem,d0,d1,d2,d3]) rfl (OutT.of HR (S6.done Tt4_6 hput (by omega)))
set_option maxRecDepth 20000 in
set_option maxHeartbeats 1600000 in
theorem typeDeclaration_any (X : Px) (n : Nat) (A : Good X n) (w : World) (i : Nat) (h : Bool) (H : Par X w i h) (hn : 3 * (X.l.length - i) ≤ n + 3) :
    Calls Tryz.prog 60 #[X.p] w (OutT X w i h (typeDeclR X.l (ps X.l n) i)):=by
  obtain ⟨W0,hW0,S0⟩:=St.first H
  have lt0:=H.lt
  go_enter Tryz.func60,Tryz.ntmps60
  go_wp2_with fail
  cases hm1 : (kindA X.l i == 1) with
  | false =>
   have E1:=Lib.hid (nameR_no hm1)
   refine (name_no X W0 i h S0.par (by simpa using hm1)).mono ?_
   rintro e w1 ⟨rfl,hb1,H1⟩
   have HR : Hid (typeDeclR X.l (ps X.l n) i = .bad i):=by simp [Hid,typeDeclR,Res.bind,E1.out]
   exact ⟨rfl,OutT.of HR (S0.bad hb1 H1)⟩
  | true =>
   have E1:=Lib.hid (nameR_yes hm1)
   refine (name_yes X W0 i h S0.par (by simpa using hm1)).mono ?_
   rintro e w1 ⟨rfl,hb1,H1⟩
   have S1:=S0.call hb1 H1
   have lt1:=H1.lt
   clear hm1
   go_wp2_with fail
   cases hm2 : isM X.l (i + 1) [115,116,114,117,99,116] with
   | false =>
    refine (take_no X w1 (i + 1) h S1.par [115,116,114,117,99,116] hm2).mono ?_
    rintro e w2 ⟨rfl,hb2,H2⟩
    have E2:=Lib.hid hm2
    have S2:=S1.call hb2 H2
    have lt2:=H2.lt
    clear hm2
    go_wp2_with fail
    cases hm3 : isM X.l (i + 1) [105,110,116,101,114,102,97,99,101] with
    | false =>
     have E3:=Lib.hid (needR_no hm3)
     refine (need_no X w2 (i + 1) h S2.par [105,110,116,101,114,102,97,99,101] hm3).mono ?_
     rintro e w3 ⟨rfl,hb3,H3⟩
     have HR : Hid (typeDeclR X.l (ps X.l n) i = .bad (i + 1)):=by simp [Hid,typeDeclR,Res.bind,E1.out,E2.out,E3.out]
     exact ⟨rfl,OutT.of HR (S2.bad hb3 H3)⟩
    | true =>
     have E3:=Lib.hid (needR_yes hm3)
     refine (need_yes X w2 (i + 1) h S2.par [105,110,116,101,114,102,97,99,101] (by decide) hm3).mono ?_
     rintro e w3 ⟨rfl,hb3,H3⟩
     have S3:=S2.call hb3 H3
     have lt3:=H3.lt
     clear hm3
     go_wp2_with fail
     refine (members_any X w3 (i + 2) h (methodR X.l (ps X.l n)) 105 #[X.p] #[] enters_method S3.par (fun _ w1 k hk _ H1 => by rw [Array.append_empty]; exact method_any X n A w1 k false H1 (by omega))).mono ?_
     rintro e w4 ⟨⟨hb4,hr4⟩,hx4⟩
     cases hp4 : membersR X.l (methodR X.l (ps X.l n)) (i + 2) with
     | bad j4 =>
      rw [hp4] at hr4
      obtain ⟨rfl,h4,H4⟩:=hr4
      have E4:=Lib.hid hp4
      have HR : Hid (typeDeclR X.l (ps X.l n) i = .bad j4):=by simp [Hid,typeDeclR,Res.bind,E1.out,E2.out,E3.out,E4.out]
      exact ⟨rfl,OutT.of HR (S3.bad hb4 H4)⟩
     | ok l4 j4 =>
      rw [hp4] at hr4
      obtain ⟨ij4,H4,v4,rfl,hk4⟩:=hr4
      obtain ⟨ao4,c4,rfl⟩:=hk4.slice
      have xx4:=hx4 _ _ hp4
      have E4:=Lib.hid hp4
      have S4:=S3.call hb4 H4
      have lt4:=H4.lt
      have Tl4:=Own.new S3 hk4
      clear hp4
      clear hx4
      go_wp2_with fail
      refine (node_any 3 (textA X.l i) _ _ _ _).mono ?_
      rintro e w5 ⟨rfl,hb5⟩
      have S5:=S4.below hb5
      have Tl4_5:=Tl4.below hb5
      have Tt5:=Tl4_5.tre 3 (textA X.l i) 0
      have HR : Hid (typeDeclR X.l (ps X.l n) i = .ok (.mk 3 (textA X.l i) 0 l4) j4):=by simp [Hid,typeDeclR,Res.bind,E1.out,E2.out,E3.out,E4.out]
      obtain ⟨u0,u1,u2,u3,b0,b1,b2,b3,bf⟩:=S5.box.open
      have bf0:=bf 0
      have bf1:=bf 1
      have bf2:=bf 2
      have bf3:=bf 3
      clear bf
      go_wp2
      obtain ⟨Wf,hWf,hput,_,d0,d1,d2,d3⟩:=putN4 S5.box (.int .i64 3) (.string ⟨((textA X.l i)).toArray⟩) (.int .i64 0) (.slice ao4 l4.length c4)
      rw [hWf]
      exact bodyPost_ret (v:=.agg #[.int .i64 3,.string ⟨((textA X.l i)).toArray⟩,.int .i64 0,.slice ao4 l4.length c4]) (by simp [results,Tryz.results60,go_sem,d0,d1,d2,d3]) rfl (OutT.of HR (S5.done Tt5 hput (by omega)))
   | true =>
    refine (take_yes X w1 (i + 1) h S1.par [115,116,114,117,99,116] (by decide) hm2).mono ?_
    rintro e w2 ⟨rfl,hb2,H2⟩
    have E2:=Lib.hid hm2
    have S2:=S1.call hb2 H2
    have lt2:=H2.lt
    clear hm2
    go_wp2_with fail
    refine (members_any X w2 (i + 2) h (fieldR X.l (ps X.l n)) 104 #[X.p] #[] enters_field S2.par (fun _ w1 k hk _ H1 => by rw [Array.append_empty]; exact field_any X n A w1 k false H1 (by omega))).mono ?_
    rintro e w6 ⟨⟨hb6,hr6⟩,hx6⟩
    cases hp6 : membersR X.l (fieldR X.l (ps X.l n)) (i + 2) with
    | bad j6 =>
     rw [hp6] at hr6
     obtain ⟨rfl,h6,H6⟩:=hr6
     have E6:=Lib.hid hp6
     have HR : Hid (typeDeclR X.l (ps X.l n) i = .bad j6):=by simp [Hid,typeDeclR,Res.bind,E1.out,E2.out,E6.out]
     exact ⟨rfl,OutT.of HR (S2.bad hb6 H6)⟩
    | ok l6 j6 =>
     rw [hp6] at hr6
     obtain ⟨ij6,H6,v6,rfl,hk6⟩:=hr6
     obtain ⟨ao6,c6,rfl⟩:=hk6.slice
     have xx6:=hx6 _ _ hp6
     have E6:=Lib.hid hp6
     have S6:=S2.call hb6 H6
     have lt6:=H6.lt
     have Tl6:=Own.new S2 hk6
     clear hp6
     clear hx6
     go_wp2_with fail
     refine (node_any 2 (textA X.l i) _ _ _ _).mono ?_
     rintro e w7 ⟨rfl,hb7⟩
     have S7:=S6.below hb7
     have Tl6_7:=Tl6.below hb7
     have Tt7:=Tl6_7.tre 2 (textA X.l i) 0
     have HR : Hid (typeDeclR X.l (ps X.l n) i = .ok (.mk 2 (textA X.l i) 0 l6) j6):=by simp [Hid,typeDeclR,Res.bind,E1.out,E2.out,E6.out]
     obtain ⟨u0,u1,u2,u3,b0,b1,b2,b3,bf⟩:=S7.box.open
     have bf0:=bf 0
     have bf1:=bf 1
     have bf2:=bf 2
     have bf3:=bf 3
     clear bf
     go_wp2
     obtain ⟨Wf,hWf,hput,_,d0,d1,d2,d3⟩:=putN4 S7.box (.int .i64 2) (.string ⟨((textA X.l i)).toArray⟩) (.int .i64 0) (.slice ao6 l6.length c6)
     rw [hWf]
     exact bodyPost_ret (v:=.agg #[.int .i64 2,.string ⟨((textA X.l i)).toArray⟩,.int .i64 0,.slice ao6 l6.length c6]) (by simp [results,Tryz.results60,go_sem,d0,d1,d2,d3]) rfl (OutT.of HR (S7.done Tt7 hput (by omega)))
end Go.Proofs.YtnkphlkjhgngkaaGreatDoor

namespace Go.Proofs.YtnkphlkjhgngkaaGreatDoor
open Go.RowKit
theorem isPrefix_any (s : List UInt8) (w : World) : Calls Tryz.prog 167 #[.string ⟨s.toArray⟩] w fun e w' => e = .returned (.bool (prefixL s)) ∧ w' = w:=by
 have HR : Hid (prefixL s = (s == [45] || s == [33] || s == [38] || s == [42])):=rfl
 by_cases h0 : s = [45]
 · subst h0
   have HP : Hid (prefixL _ = true):=Lib.hid (show prefixL [45] = true by decide)
   go_enter Tryz.func167,Tryz.ntmps167
   go_wp2
   go_ret
   exact ⟨by simp [HP.out],rfl⟩
 by_cases h1 : s = [33]
 · subst h1
   have HP : Hid (prefixL _ = true):=Lib.hid (show prefixL [33] = true by decide)
   go_enter Tryz.func167,Tryz.ntmps167
   go_wp2
   go_ret
   exact ⟨by simp [HP.out],rfl⟩
 by_cases h2 : s = [38]
 · subst h2
   have HP : Hid (prefixL _ = true):=Lib.hid (show prefixL [38] = true by decide)
   go_enter Tryz.func167,Tryz.ntmps167
   go_wp2
   go_ret
   exact ⟨by simp [HP.out],rfl⟩
 have e0 : (s == [45]) = false:=by simpa using h0
 have e1 : (s == [33]) = false:=by simpa using h1
 have e2 : (s == [38]) = false:=by simpa using h2
 have HR2 : Hid (prefixL s = (s == [42])):=HR.out.trans (by rw [e0,e1,e2]; rfl)
 clear h0 h1 h2
 go_enter Tryz.func167,Tryz.ntmps167
 go_wp2
 go_ret
 exact ⟨by simp [HR2.out],rfl⟩
set_option maxRecDepth 20000 in
set_option maxHeartbeats 1600000 in
theorem rank_any (s : List UInt8) (w : World) : Calls Tryz.prog 168 #[.string ⟨s.toArray⟩] w fun e w' => e = .returned (.int .i64 (rankL s)) ∧ w' = w:=by
 by_cases h0 : s = [124,124]
 · subst h0
   have HP : Hid (rankL [124,124] = 1):=Lib.hid (by decide)
   go_enter Tryz.func168,Tryz.ntmps168
   go_wp2
   go_ret
   exact ⟨by simp [HP.out],rfl⟩
 have e0 : (s == [124,124]) = false:=by simpa using h0
 clear h0
 by_cases h1 : s = [38,38]
 · subst h1
   have HP : Hid (rankL [38,38] = 2):=Lib.hid (by decide)
   go_enter Tryz.func168,Tryz.ntmps168
   go_wp2
   go_ret
   exact ⟨by simp [HP.out],rfl⟩
 have e1 : (s == [38,38]) = false:=by simpa using h1
 clear h1
 by_cases h2 : s = [61,61]
 · subst h2
   have HP : Hid (rankL [61,61] = 3):=Lib.hid (by decide)
   go_enter Tryz.func168,Tryz.ntmps168
   go_wp2
   go_ret
   exact ⟨by simp [HP.out],rfl⟩
 have e2 : (s == [61,61]) = false:=by simpa using h2
 clear h2
 by_cases h3 : s = [33,61]
 · subst h3
   have HP : Hid (rankL [33,61] = 3):=Lib.hid (by decide)
   go_enter Tryz.func168,Tryz.ntmps168
   go_wp2
   go_ret
   exact ⟨by simp [HP.out],rfl⟩
 have e3 : (s == [33,61]) = false:=by simpa using h3
 clear h3
 by_cases h4 : s = [60]
 · subst h4
   have HP : Hid (rankL [60] = 3):=Lib.hid (by decide)
   go_enter Tryz.func168,Tryz.ntmps168
   go_wp2
   go_ret
   exact ⟨by simp [HP.out],rfl⟩
 have e4 : (s == [60]) = false:=by simpa using h4
 clear h4
 by_cases h5 : s = [60,61]
 · subst h5
   have HP : Hid (rankL [60,61] = 3):=Lib.hid (by decide)
   go_enter Tryz.func168,Tryz.ntmps168
   go_wp2
   go_ret
   exact ⟨by simp [HP.out],rfl⟩
 have e5 : (s == [60,61]) = false:=by simpa using h5
 clear h5
 by_cases h6 : s = [62]
 · subst h6
   have HP : Hid (rankL [62] = 3):=Lib.hid (by decide)
   go_enter Tryz.func168,Tryz.ntmps168
   go_wp2
   go_ret
   exact ⟨by simp [HP.out],rfl⟩
 have e6 : (s == [62]) = false:=by simpa using h6
 clear h6
 by_cases h7 : s = [62,61]
 · subst h7
   have HP : Hid (rankL [62,61] = 3):=Lib.hid (by decide)
   go_enter Tryz.func168,Tryz.ntmps168
   go_wp2
   go_ret
   exact ⟨by simp [HP.out],rfl⟩
 have e7 : (s == [62,61]) = false:=by simpa using h7
 clear h7
 by_cases h8 : s = [43]
 · subst h8
   have HP : Hid (rankL [43] = 4):=Lib.hid (by decide)
   go_enter Tryz.func168,Tryz.ntmps168
   go_wp2
   go_ret
   exact ⟨by simp [HP.out],rfl⟩
 have e8 : (s == [43]) = false:=by simpa using h8
 clear h8
 by_cases h9 : s = [45]
 · subst h9
   have HP : Hid (rankL [45] = 4):=Lib.hid (by decide)
   go_enter Tryz.func168,Tryz.ntmps168
   go_wp2
   go_ret
   exact ⟨by simp [HP.out],rfl⟩
 have e9 : (s == [45]) = false:=by simpa using h9
 clear h9
 by_cases h10 : s = [42]
 · subst h10
   have HP : Hid (rankL [42] = 5):=Lib.hid (by decide)
   go_enter Tryz.func168,Tryz.ntmps168
   go_wp2
   go_ret
   exact ⟨by simp [HP.out],rfl⟩
 have e10 : (s == [42]) = false:=by simpa using h10
 clear h10
 by_cases h11 : s = [47]
 · subst h11
   have HP : Hid (rankL [47] = 5):=Lib.hid (by decide)
   go_enter Tryz.func168,Tryz.ntmps168
   go_wp2
   go_ret
   exact ⟨by simp [HP.out],rfl⟩
 have e11 : (s == [47]) = false:=by simpa using h11
 clear h11
 by_cases h12 : s = [37]
 · subst h12
   have HP : Hid (rankL [37] = 5):=Lib.hid (by decide)
   go_enter Tryz.func168,Tryz.ntmps168
   go_wp2
   go_ret
   exact ⟨by simp [HP.out],rfl⟩
 have e12 : (s == [37]) = false:=by simpa using h12
 clear h12
 have HR : Hid (rankL s = 0):=by simp only [Hid,rankL,e0,e1,e2,e3,e4,e5,e6,e7,e8,e9,e10,e11,e12]; rfl
 go_enter Tryz.func168,Tryz.ntmps168
 go_wp2
 go_ret
 exact ⟨by simp [HR.out],rfl⟩
set_option maxRecDepth 20000 in
set_option maxHeartbeats 1600000 in
theorem expression_any (X : Px) (n : Nat) (A : Good X n) (w : World) (i : Nat) (h : Bool) (H : Par X w i h) (hn : 3 * (X.l.length - i) + 1 ≤ n) :
    Calls Tryz.prog 174 #[X.p] w (OutT X w i h (exprR (ps X.l n) h i)):=by
  obtain ⟨W0,hW0,S0⟩:=St.first H
  have lt0:=H.lt
  go_enter Tryz.func174,Tryz.ntmps174
  go_wp2_with fail
  refine (A.bin W0 i h 1 S0.par (by decide) (by decide) hn).mono ?_
  rintro e w1 ⟨hb1,hr1⟩
  cases hp1 : (ps X.l n).bin h 1 i with
  | bad j1 =>
   rw [hp1] at hr1
   obtain ⟨rfl,h1,H1⟩:=hr1
   have E1:=Lib.hid hp1
   have HR : Hid (exprR (ps X.l n) h i = .bad j1):=by simp [Hid,exprR,E1.out]
   exact ⟨rfl,OutT.of HR (S0.bad hb1 H1)⟩
  | ok t1 j1 =>
   rw [hp1] at hr1
   obtain ⟨ij1,H1,sl1,rfl,hk1⟩:=hr1
   obtain ⟨ao1,n1,c1,rfl⟩:=hk1.slice
   have E1:=Lib.hid hp1
   have S1:=S0.call hb1 H1
   have lt1:=H1.lt
   have Tt1:=Tre.new S0 hk1
   clear hp1 hk1
   have HR : Hid (exprR (ps X.l n) h i = .ok t1 j1):=by simp [Hid,exprR,E1.out]
   obtain ⟨u0,u1,u2,u3,b0,b1,b2,b3,bf⟩:=S1.box.open
   have bf0:=bf 0
   have bf1:=bf 1
   have bf2:=bf 2
   have bf3:=bf 3
   clear bf
   go_wp2
   obtain ⟨Wf,hWf,hput,_,d0,d1,d2,d3⟩:=putN4 S1.box (.int .i64 t1.kind) (.string ⟨t1.text.toArray⟩) (.int .i64 t1.num) (.slice ao1 n1 c1)
   rw [hWf]
   exact bodyPost_ret (v:=.agg #[.int .i64 t1.kind,.string ⟨t1.text.toArray⟩,.int .i64 t1.num,.slice ao1 n1 c1]) (by simp [results,Tryz.results174,go_sem,d0,d1,d2,d3]) rfl (OutT.of HR (S1.done Tt1 hput (by omega)))
theorem expressions_any (X : Px) (n : Nat) (A : Good X n) (w : World) (i : Nat) (h : Bool) (H : Par X w i h) (hn : 3 * (X.l.length - i) + 1 ≤ n) :
    Calls Tryz.prog 161 #[X.p] w (fun e w' => OutL X w i h (exprsR X.l (ps X.l n) h i) e w' ∧ ∀ ts j,exprsR X.l (ps X.l n) h i = .ok ts j → 0 < ts.length):=by
  have cC:=commas_any X w i h (exprR (ps X.l n) h) 174 #[X.p] #[] enters_expression H (fun w1 k hk _ H1 => by rw [Array.append_empty]; exact expression_any X n A w1 k h H1 (by omega))
  have HX : Hid (exprsR X.l (ps X.l n) h i = commasR X.l (exprR (ps X.l n) h) i):=rfl
  go_enter Tryz.func161,Tryz.ntmps161
  go_wp2_with fail
  refine cC.mono ?_
  rintro e w2 ⟨⟨hb2,hr⟩,hx⟩
  clear cC
  generalize commasR X.l (exprR (ps X.l n) h) i = r at *
  cases r with
  | bad j =>
   obtain ⟨rfl,h',H2⟩:=hr
   exact ⟨rfl,OutL.of HX ⟨hb2,rfl,h',H2⟩,fun ts j e => by rw [HX.out] at e; cases e⟩
  | ok ts j =>
   obtain ⟨hij,H2,v,rfl,hk⟩:=hr
   obtain ⟨ao,cap,rfl⟩:=hk.slice
   go_wp2
   go_ret
   exact ⟨OutL.of HX ⟨hb2,hij,H2,_,rfl,hk⟩,fun ts' j' e => by rw [HX.out] at e; exact hx ts' j' e⟩
theorem elements_any (X : Px) (n : Nat) (A : Good X n) (w : World) (i : Nat) (h : Bool) (H : Par X w i h) (hn : 3 * (X.l.length - i) ≤ n + 2) :
    Calls Tryz.prog 201 #[X.p] w (fun e w' => OutL X w i h (elementsR X.l (ps X.l n) i) e w' ∧ ∀ ts j,elementsR X.l (ps X.l n) i = .ok ts j → i < j):=by
  have lt0:=H.lt
  have cC:=listed_any X w i h (exprR (ps X.l n) false) 174 #[X.p] #[] enters_expression H [123] [125] (by decide) (by decide) (fun _ w1 k hk _ H1 => by rw [Array.append_empty]; exact expression_any X n A w1 k false H1 (by omega))
  have HX : Hid (elementsR X.l (ps X.l n) i = listedR X.l [123] [125] (exprR (ps X.l n) false) i):=rfl
  go_enter Tryz.func201,Tryz.ntmps201
  go_wp2_with fail
  refine cC.mono ?_
  rintro e w2 ⟨⟨hb2,hr⟩,hx⟩
  clear cC
  generalize listedR X.l [123] [125] (exprR (ps X.l n) false) i = r at *
  cases r with
  | bad j =>
   obtain ⟨rfl,h',H2⟩:=hr
   exact ⟨rfl,OutL.of HX ⟨hb2,rfl,h',H2⟩,fun ts j e => by rw [HX.out] at e; cases e⟩
  | ok ts j =>
   obtain ⟨hij,H2,v,rfl,hk⟩:=hr
   obtain ⟨ao,cap,rfl⟩:=hk.slice
   go_wp2
   go_ret
   exact ⟨OutL.of HX ⟨hb2,hij,H2,_,rfl,hk⟩,fun ts' j' e => by rw [HX.out] at e; exact hx ts' j' e⟩
set_option maxRecDepth 20000 in
set_option maxHeartbeats 1600000 in
theorem named_false_any (X : Px) (n : Nat) (A : Good X n) (w : World) (i : Nat) (H : Par X w i false) (hn : 3 * (X.l.length - i) ≤ n + 3) :
    Calls Tryz.prog 200 #[X.p] w (OutT X w i false (namedR X.l (ps X.l n) false i)):=by
  obtain ⟨W0,hW0,S0⟩:=St.first H
  have lt0:=H.lt
  go_enter Tryz.func200,Tryz.ntmps200
  go_wp2_with fail
  cases hm1 : (kindA X.l i == 1) with
  | false =>
   have E1:=Lib.hid (nameR_no hm1)
   refine (name_no X W0 i false S0.par (by simpa using hm1)).mono ?_
   rintro e w1 ⟨rfl,hb1,H1⟩
   have HR : Hid (namedR X.l (ps X.l n) false i = .bad i):=by simp [Hid,namedR,Res.bind,E1.out]
   exact ⟨rfl,OutT.of HR (S0.bad hb1 H1)⟩
  | true =>
   have E1:=Lib.hid (nameR_yes hm1)
   refine (name_yes X W0 i false S0.par (by simpa using hm1)).mono ?_
   rintro e w1 ⟨rfl,hb1,H1⟩
   have S1:=S0.call hb1 H1
   have lt1:=H1.lt
   clear hm1
   have c2:=S1.par.c2
   go_wp2_with fail
   have cI2:=is_any X w1 (i + 1) false S1.par [123]
   cases hm2 : isM X.l (i + 1) [123] with
   | false =>
    rw [hm2] at cI2
    refine cI2.mono ?_
    rintro e w2 ⟨rfl,hb2⟩
    have E2:=Lib.hid hm2
    have S2:=S1.below hb2
    clear hm2 cI2
    go_wp2_with fail
    refine (node_any 44 (textA X.l i) _ _ _ _).mono ?_
    rintro e w3 ⟨rfl,hb3⟩
    have S3:=S2.below hb3
    have Tt3:=Tre.leaf w w3 44 (textA X.l i) 0 none 0
    have HR : Hid (namedR X.l (ps X.l n) false i = .ok (.mk 44 (textA X.l i) 0 []) (i + 1)):=by simp [Hid,namedR,Res.bind,E1.out,E2.out]
    obtain ⟨u0,u1,u2,u3,b0,b1,b2,b3,bf⟩:=S3.box.open
    have bf0:=bf 0
    have bf1:=bf 1
    have bf2:=bf 2
    have bf3:=bf 3
    clear bf
    go_wp2
    obtain ⟨Wf,hWf,hput,_,d0,d1,d2,d3⟩:=putN4 S3.box (.int .i64 44) (.string ⟨((textA X.l i)).toArray⟩) (.int .i64 0) (.slice none 0 0)
    rw [hWf]
    exact bodyPost_ret (v:=.agg #[.int .i64 44,.string ⟨((textA X.l i)).toArray⟩,.int .i64 0,.slice none 0 0]) (by simp [results,Tryz.results200,go_sem,d0,d1,d2,d3]) rfl (OutT.of HR (S3.done Tt3 hput (by omega)))
   | true =>
    rw [hm2] at cI2
    refine cI2.mono ?_
    rintro e w2 ⟨rfl,hb2⟩
    have E2:=Lib.hid hm2
    have S2:=S1.below hb2
    clear hm2 cI2
    have c2:=S2.par.c2
    go_wp2_with fail
    refine (elements_any X n A w2 (i + 1) false S2.par (by omega)).mono ?_
    rintro e w4 ⟨⟨hb4,hr4⟩,hx4⟩
    cases hp4 : elementsR X.l (ps X.l n) (i + 1) with
    | bad j4 =>
     rw [hp4] at hr4
     obtain ⟨rfl,h4,H4⟩:=hr4
     have E4:=Lib.hid hp4
     have HR : Hid (namedR X.l (ps X.l n) false i = .bad j4):=by simp [Hid,namedR,Res.bind,E1.out,E2.out,E4.out]
     exact ⟨rfl,OutT.of HR (S2.bad hb4 H4)⟩
    | ok l4 j4 =>
     rw [hp4] at hr4
     obtain ⟨ij4,H4,v4,rfl,hk4⟩:=hr4
     obtain ⟨ao4,c4,rfl⟩:=hk4.slice
     have xx4:=hx4 _ _ hp4
     have E4:=Lib.hid hp4
     have S4:=S2.call hb4 H4
     have lt4:=H4.lt
     have Tl4:=Own.new S2 hk4
     clear hp4
     clear hx4
     go_wp2_with fail
     refine (node_any 45 (textA X.l i) _ _ _ _).mono ?_
     rintro e w5 ⟨rfl,hb5⟩
     have S5:=S4.below hb5
     have Tl4_5:=Tl4.below hb5
     have Tt5:=Tl4_5.tre 45 (textA X.l i) 0
     have HR : Hid (namedR X.l (ps X.l n) false i = .ok (.mk 45 (textA X.l i) 0 l4) j4):=by simp [Hid,namedR,Res.bind,E1.out,E2.out,E4.out]
     obtain ⟨u0,u1,u2,u3,b0,b1,b2,b3,bf⟩:=S5.box.open
     have bf0:=bf 0
     have bf1:=bf 1
     have bf2:=bf 2
     have bf3:=bf 3
     clear bf
     go_wp2
     obtain ⟨Wf,hWf,hput,_,d0,d1,d2,d3⟩:=putN4 S5.box (.int .i64 45) (.string ⟨((textA X.l i)).toArray⟩) (.int .i64 0) (.slice ao4 l4.length c4)
     rw [hWf]
     exact bodyPost_ret (v:=.agg #[.int .i64 45,.string ⟨((textA X.l i)).toArray⟩,.int .i64 0,.slice ao4 l4.length c4]) (by simp [results,Tryz.results200,go_sem,d0,d1,d2,d3]) rfl (OutT.of HR (S5.done Tt5 hput (by omega)))
set_option maxRecDepth 20000 in
set_option maxHeartbeats 1600000 in
theorem named_true_any (X : Px) (n : Nat) (w : World) (i : Nat) (H : Par X w i true) :
    Calls Tryz.prog 200 #[X.p] w (OutT X w i true (namedR X.l (ps X.l n) true i)):=by
  obtain ⟨W0,hW0,S0⟩:=St.first H
  have lt0:=H.lt
  go_enter Tryz.func200,Tryz.ntmps200
  go_wp2_with fail
  cases hm1 : (kindA X.l i == 1) with
  | false =>
   have E1:=Lib.hid (nameR_no hm1)
   refine (name_no X W0 i true S0.par (by simpa using hm1)).mono ?_
   rintro e w1 ⟨rfl,hb1,H1⟩
   have HR : Hid (namedR X.l (ps X.l n) true i = .bad i):=by simp [Hid,namedR,Res.bind,E1.out]
   exact ⟨rfl,OutT.of HR (S0.bad hb1 H1)⟩
  | true =>
   have E1:=Lib.hid (nameR_yes hm1)
   refine (name_yes X W0 i true S0.par (by simpa using hm1)).mono ?_
   rintro e w1 ⟨rfl,hb1,H1⟩
   have S1:=S0.call hb1 H1
   have lt1:=H1.lt
   clear hm1
   have c2:=S1.par.c2
   go_wp2_with fail
   have cI2:=is_any X w1 (i + 1) true S1.par [123]
   cases hm2 : isM X.l (i + 1) [123] with
   | false =>
    rw [hm2] at cI2
    refine cI2.mono ?_
    rintro e w2 ⟨rfl,hb2⟩
    have E2:=Lib.hid hm2
    have S2:=S1.below hb2
    clear hm2 cI2
    go_wp2_with fail
    refine (node_any 44 (textA X.l i) _ _ _ _).mono ?_
    rintro e w3 ⟨rfl,hb3⟩
    have S3:=S2.below hb3
    have Tt3:=Tre.leaf w w3 44 (textA X.l i) 0 none 0
    have HR : Hid (namedR X.l (ps X.l n) true i = .ok (.mk 44 (textA X.l i) 0 []) (i + 1)):=by simp [Hid,namedR,Res.bind,E1.out,E2.out]
    obtain ⟨u0,u1,u2,u3,b0,b1,b2,b3,bf⟩:=S3.box.open
    have bf0:=bf 0
    have bf1:=bf 1
    have bf2:=bf 2
    have bf3:=bf 3
    clear bf
    go_wp2
    obtain ⟨Wf,hWf,hput,_,d0,d1,d2,d3⟩:=putN4 S3.box (.int .i64 44) (.string ⟨((textA X.l i)).toArray⟩) (.int .i64 0) (.slice none 0 0)
    rw [hWf]
    exact bodyPost_ret (v:=.agg #[.int .i64 44,.string ⟨((textA X.l i)).toArray⟩,.int .i64 0,.slice none 0 0]) (by simp [results,Tryz.results200,go_sem,d0,d1,d2,d3]) rfl (OutT.of HR (S3.done Tt3 hput (by omega)))
   | true =>
    rw [hm2] at cI2
    refine cI2.mono ?_
    rintro e w2 ⟨rfl,hb2⟩
    have E2:=Lib.hid hm2
    have S2:=S1.below hb2
    clear hm2 cI2
    have c2:=S2.par.c2
    go_wp2_with fail
    refine (node_any 44 (textA X.l i) _ _ _ _).mono ?_
    rintro e w4 ⟨rfl,hb4⟩
    have S4:=S2.below hb4
    have Tt4:=Tre.leaf w w4 44 (textA X.l i) 0 none 0
    have HR : Hid (namedR X.l (ps X.l n) true i = .ok (.mk 44 (textA X.l i) 0 []) (i + 1)):=by simp [Hid,namedR,Res.bind,E1.out,E2.out]
    obtain ⟨u0,u1,u2,u3,b0,b1,b2,b3,bf⟩:=S4.box.open
    have bf0:=bf 0
    have bf1:=bf 1
    have bf2:=bf 2
    have bf3:=bf 3
    clear bf
    go_wp2
    obtain ⟨Wf,hWf,hput,_,d0,d1,d2,d3⟩:=putN4 S4.box (.int .i64 44) (.string ⟨((textA X.l i)).toArray⟩) (.int .i64 0) (.slice none 0 0)
    rw [hWf]
    exact bodyPost_ret (v:=.agg #[.int .i64 44,.string ⟨((textA X.l i)).toArray⟩,.int .i64 0,.slice none 0 0]) (by simp [results,Tryz.results200,go_sem,d0,d1,d2,d3]) rfl (OutT.of HR (S4.done Tt4 hput (by omega)))
theorem named_any (X : Px) (n : Nat) (A : Good X n) (w : World) (i : Nat) (h : Bool) (H : Par X w i h) (hn : 3 * (X.l.length - i) ≤ n + 3) :
    Calls Tryz.prog 200 #[X.p] w (OutT X w i h (namedR X.l (ps X.l n) h i)):=by
  cases h
  · exact named_false_any X n A w i H hn
  · exact named_true_any X n w i H
set_option maxRecDepth 20000 in
set_option maxHeartbeats 8000000 in
theorem primary_any (X : Px) (n : Nat) (A : Good X n) (w : World) (i : Nat) (h : Bool) (H : Par X w i h) (hn : 3 * (X.l.length - i) ≤ n + 1) :
    Calls Tryz.prog 195 #[X.p] w (OutT X w i h (primR X.l (ps X.l n) h i)):=by
  obtain ⟨W0,hW0,S0⟩:=St.first H
  have lt0:=H.lt
  go_enter Tryz.func195,Tryz.ntmps195
  go_wp2_with fail
  refine (tokenA_any X W0 i h S0.par).mono ?_
  rintro e w1 ⟨rfl,hb1⟩
  have S1:=S0.below hb1
  have tp1:=S1.plt
  have tl1:=S1.lt
  have tq1 : X.P < w1.heap.size:=S1.par.plt
  have tn1 : X.P ≠ w1.heap.size:=by omega
  have to1 : w1.heap.size ≠ X.P:=by omega
  cases hm2 : (kindA X.l i == 2) with
  | false =>
   have E2:=Lib.hid hm2
   cases hm3 : (kindA X.l i == 3) with
   | false =>
    have E3:=Lib.hid hm3
    cases hm4 : (kindA X.l i == 1) with
    | false =>
     have E4:=Lib.hid hm4
     have S5:=S1.alloc (.cells #[.int .i64 (kindA X.l i),.string ⟨(textA X.l i).toArray⟩,.int .i64 (numA X.l i),.int .i64 (atA X.l i)] 46)
     go_wp2_with fail
     cases hm6 : isM X.l i [116,114,117,101] with
     | false =>
      refine (take_no X (w1.alloc (.cells #[.int .i64 (kindA X.l i),.string ⟨(textA X.l i).toArray⟩,.int .i64 (numA X.l i),.int .i64 (atA X.l i)] 46)) i h S5.par [116,114,117,101] hm6).mono ?_
      rintro e w6 ⟨rfl,hb6,H6⟩
      have E6:=Lib.hid hm6
      have S6:=S5.call hb6 H6
      have lt6:=H6.lt
      clear hm6
      go_wp2_with fail
      cases hm7 : isM X.l i [102,97,108,115,101] with
      | false =>
       refine (take_no X w6 i h S6.par [102,97,108,115,101] hm7).mono ?_
       rintro e w7 ⟨rfl,hb7,H7⟩
       have E7:=Lib.hid hm7
       have S7:=S6.call hb7 H7
       have lt7:=H7.lt
       clear hm7
       go_wp2_with fail
       cases hm8 : isM X.l i [110,105,108] with
       | false =>
        refine (take_no X w7 i h S7.par [110,105,108] hm8).mono ?_
        rintro e w8 ⟨rfl,hb8,H8⟩
        have E8:=Lib.hid hm8
        have S8:=S7.call hb8 H8
        have lt8:=H8.lt
        clear hm8
        go_wp2_with fail
        have cI9:=is_any X w8 i h S8.par [40]
        cases hm9 : isM X.l i [40] with
        | false =>
         rw [hm9] at cI9
         refine cI9.mono ?_
         rintro e w9 ⟨rfl,hb9⟩
         have E9:=Lib.hid hm9
         have S9:=S8.below hb9
         clear hm9 cI9
         go_wp2_with fail
         cases hm10 : isM X.l i [91] with
         | false =>
          refine (take_no X w9 i h S9.par [91] hm10).mono ?_
          rintro e w10 ⟨rfl,hb10,H10⟩
          have E10:=Lib.hid hm10
          have S10:=S9.call hb10 H10
          have lt10:=H10.lt
          clear hm10
          go_wp2_with fail
          cases hm11 : isM X.l i [102,117,110,99] with
          | false =>
           have E11:=Lib.hid (needR_no hm11)
           refine (need_no X w10 i h S10.par [102,117,110,99] hm11).mono ?_
           rintro e w11 ⟨rfl,hb11,H11⟩
           have HR : Hid (primR X.l (ps X.l n) h i = .bad i):=by simp [Hid,primR,Res.bind,E2.out,E3.out,E4.out,E6.out,E7.out,E8.out,E9.out,E10.out,E11.out]
           exact ⟨rfl,OutT.of HR (S10.bad hb11 H11)⟩
          | true =>
           have E11:=Lib.hid (needR_yes hm11)
           refine (need_yes X w10 i h S10.par [102,117,110,99] (by decide) hm11).mono ?_
           rintro e w11 ⟨rfl,hb11,H11⟩
           have S11:=S10.call hb11 H11
           have lt11:=H11.lt
           clear hm11
           go_wp2_with fail
           refine (signature_any X n A w11 (i + 1) h S11.par (by omega)).mono ?_
           rintro e w12 ⟨hb12,hr12⟩
           cases hp12 : sigR X.l (ps X.l n) (i + 1) with
           | bad j12 =>
            rw [hp12] at hr12
            obtain ⟨rfl,h12,H12⟩:=hr12
            have E12:=Lib.hid hp12
            have HR : Hid (primR X.l (ps X.l n) h i = .bad j12):=by simp [Hid,primR,Res.bind,E2.out,E3.out,E4.out,E6.out,E7.out,E8.out,E9.out,E10.out,E11.out,E12.out]
            exact ⟨rfl,OutT.of HR (S11.bad hb12 H12)⟩
           | ok t12 j12 =>
            rw [hp12] at hr12
            obtain ⟨ij12,H12,sl12,rfl,hk12⟩:=hr12
            obtain ⟨ao12,n12,c12,rfl⟩:=hk12.slice
            have E12:=Lib.hid hp12
            have S12:=S11.call hb12 H12
            have lt12:=H12.lt
            have Tt12:=Tre.new S11 hk12
            clear hp12 hk12
            go_wp2_with fail
            refine (A.blk w12 j12 h S12.par (by omega)).mono ?_
            rintro e w13 ⟨hb13,hr13⟩
            cases hp13 : (ps X.l n).blk j12 with
            | bad j13 =>
             rw [hp13] at hr13
             obtain ⟨rfl,h13,H13⟩:=hr13
             have E13:=Lib.hid hp13
             have HR : Hid (primR X.l (ps X.l n) h i = .bad j13):=by simp [Hid,primR,Res.bind,E2.out,E3.out,E4.out,E6.out,E7.out,E8.out,E9.out,E10.out,E11.out,E12.out,E13.out]
             exact ⟨rfl,OutT.of HR (S12.bad hb13 H13)⟩
            | ok t13 j13 =>
             rw [hp13] at hr13
             obtain ⟨ij13,H13,sl13,rfl,hk13⟩:=hr13
             obtain ⟨ao13,n13,c13,rfl⟩:=hk13.slice
             have E13:=Lib.hid hp13
             have S13:=S12.call hb13 H13
             have Tt12_13:=Tt12.call S12 hb13
             have lt13:=H13.lt
             have Tt13:=Tre.new S12 hk13
             clear hp13 hk13
             have Tl14:=Own.made2 S13 Tt12_13 Tt13
             have S14:=S13.alloc (.cells #[.int .i64 t12.kind,.string ⟨t12.text.toArray⟩,.int .i64 t12.num,.slice ao12 n12 c12,.int .i64 t13.kind,.string ⟨t13.text.toArray⟩,.int .i64 t13.num,.slice ao13 n13 c13] 24)
             go_wp2_with fail
             refine (node_any 47 [] _ _ _ _).mono ?_
             rintro e w15 ⟨rfl,hb15⟩
             have S15:=S14.below hb15
             have Tl14_15:=Tl14.below hb15
             have Tt15:=Tl14_15.tre 47 [] 0
             have HR : Hid (primR X.l (ps X.l n) h i = .ok (.mk 47 [] 0 [t12,t13]) j13):=by simp [Hid,primR,Res.bind,E2.out,E3.out,E4.out,E6.out,E7.out,E8.out,E9.out,E10.out,E11.out,E12.out,E13.out]
             obtain ⟨u0,u1,u2,u3,b0,b1,b2,b3,bf⟩:=S15.box.open
             have bf0:=bf 0
             have bf1:=bf 1
             have bf2:=bf 2
             have bf3:=bf 3
             clear bf
             go_wp2
             obtain ⟨Wf,hWf,hput,_,d0,d1,d2,d3⟩:=putN4 S15.box (.int .i64 47) (.string ⟨([]).toArray⟩) (.int .i64 0) (.slice (some ⟨w13.heap.size,0,none⟩) 2 2)
             rw [hWf]
             exact bodyPost_ret (v:=.agg #[.int .i64 47,.string ⟨([]).toArray⟩,.int .i64 0,.slice (some ⟨w13.heap.size,0,none⟩) 2 2]) (by simp [results,Tryz.results195,go_sem,d0,d1,d2,d3]) rfl (OutT.of HR (S15.done Tt15 hput (by omega)))
         | true =>
          refine (take_yes X w9 i h S9.par [91] (by decide) hm10).mono ?_
          rintro e w10 ⟨rfl,hb10,H10⟩
          have E10:=Lib.hid hm10
          have S10:=S9.call hb10 H10
          have lt10:=H10.lt
          clear hm10
          go_wp2_with fail
          cases hm16 : isM X.l (i + 1) [93] with
          | false =>
           have E16:=Lib.hid (needR_no hm16)
           refine (need_no X w10 (i + 1) h S10.par [93] hm16).mono ?_
           rintro e w16 ⟨rfl,hb16,H16⟩
           have HR : Hid (primR X.l (ps X.l n) h i = .bad (i + 1)):=by simp [Hid,primR,Res.bind,E2.out,E3.out,E4.out,E6.out,E7.out,E8.out,E9.out,E10.out,E16.out]
           exact ⟨rfl,OutT.of HR (S10.bad hb16 H16)⟩
          | true =>
           have E16:=Lib.hid (needR_yes hm16)
           refine (need_yes X w10 (i + 1) h S10.par [93] (by decide) hm16).mono ?_
           rintro e w16 ⟨rfl,hb16,H16⟩
           have S16:=S10.call hb16 H16
           have lt16:=H16.lt
           clear hm16
           go_wp2_with fail
           refine (A.typ w16 (i + 2) h S16.par (by omega)).mono ?_
           rintro e w17 ⟨hb17,hr17⟩
           cases hp17 : (ps X.l n).typ (i + 2) with
           | bad j17 =>
            rw [hp17] at hr17
            obtain ⟨rfl,h17,H17⟩:=hr17
            have E17:=Lib.hid hp17
            have HR : Hid (primR X.l (ps X.l n) h i = .bad j17):=by simp [Hid,primR,Res.bind,E2.out,E3.out,E4.out,E6.out,E7.out,E8.out,E9.out,E10.out,E16.out,E17.out]
            exact ⟨rfl,OutT.of HR (S16.bad hb17 H17)⟩
           | ok t17 j17 =>
            rw [hp17] at hr17
            obtain ⟨ij17,H17,sl17,rfl,hk17⟩:=hr17
            obtain ⟨ao17,n17,c17,rfl⟩:=hk17.slice
            have E17:=Lib.hid hp17
            have S17:=S16.call hb17 H17
            have lt17:=H17.lt
            have Tt17:=Tre.new S16 hk17
            clear hp17 hk17
            have Tl18:=Own.made1 S17 Tt17
            have S18:=S17.alloc (.cells #[.int .i64 t17.kind,.string ⟨t17.text.toArray⟩,.int .i64 t17.num,.slice ao17 n17 c17] 24)
            go_wp2_with fail
            generalize (Value.slice (some ⟨w17.heap.size,0,none⟩) 1 1) = V19 at *
            refine (elements_any X n A (w17.alloc (.cells #[.int .i64 t17.kind,.string ⟨t17.text.toArray⟩,.int .i64 t17.num,.slice ao17 n17 c17] 24)) j17 h S18.par (by omega)).mono ?_
            rintro e w19 ⟨⟨hb19,hr19⟩,hx19⟩
            cases hp19 : elementsR X.l (ps X.l n) j17 with
            | bad j19 =>
             rw [hp19] at hr19
             obtain ⟨rfl,h19,H19⟩:=hr19
             have E19:=Lib.hid hp19
             have HR : Hid (primR X.l (ps X.l n) h i = .bad j19):=by simp [Hid,primR,Res.bind,E2.out,E3.out,E4.out,E6.out,E7.out,E8.out,E9.out,E10.out,E16.out,E17.out,E19.out]
             exact ⟨rfl,OutT.of HR (S18.bad hb19 H19)⟩
            | ok l19 j19 =>
             rw [hp19] at hr19
             obtain ⟨ij19,H19,v19,rfl,hk19⟩:=hr19
             obtain ⟨ao19,c19,rfl⟩:=hk19.slice
             have xx19:=hx19 _ _ hp19
             have E19:=Lib.hid hp19
             have bz19:=hb19.size
             have ls19:=S18.lt
             have bd19:=H19.bnd
             have lv19_l18:=OwnL.lt Tl18
             have S19:=S18.call hb19 H19
             have Tl18_19:=Tl18.call S18 hb19
             have lt19:=H19.lt
             have Tl19:=Own.new S18 hk19
             clear hp19
             clear hx19
             go_wp2_with (at_builtin; refine wpList_join (by rfl) _ _ (by rfl) (by rfl) (by rfl) Tl18_19 hk19 (by omega) (by omega) (fun q hq => (lv19_l18 q hq).2) (by first | omega | (simp only [List.length_cons,List.length_nil]; omega)) ?_)
             intro ao20 c20 w20 hO20 hg20
             have S20:=S19.grown hg20 (fun q hq => (lv19_l18 q hq).1)
             have Tl20 : Own w w20 _ _:=hO20
             clear hk19
             go_wp2_with fail
             refine (node_any 46 [] _ _ _ _).mono ?_
             rintro e w21 ⟨rfl,hb21⟩
             have S21:=S20.below hb21
             have Tl20_21:=Tl20.below hb21
             have Tt21:=Tl20_21.tre 46 [] 0
             have HR : Hid (primR X.l (ps X.l n) h i = .ok (.mk 46 [] 0 ([t17] ++ l19)) j19):=by simp [Hid,primR,Res.bind,E2.out,E3.out,E4.out,E6.out,E7.out,E8.out,E9.out,E10.out,E16.out,E17.out,E19.out]
             obtain ⟨u0,u1,u2,u3,b0,b1,b2,b3,bf⟩:=S21.box.open
             have bf0:=bf 0
             have bf1:=bf 1
             have bf2:=bf 2
             have bf3:=bf 3
             clear bf
             go_wp2
             obtain ⟨Wf,hWf,hput,_,d0,d1,d2,d3⟩:=putN4 S21.box (.int .i64 46) (.string ⟨([]).toArray⟩) (.int .i64 0) (.slice ao20 (1 + l19.length) c20)
             rw [hWf]
             exact bodyPost_ret (v:=.agg #[.int .i64 46,.string ⟨([]).toArray⟩,.int .i64 0,.slice ao20 (1 + l19.length) c20]) (by simp [results,Tryz.results195,go_sem,d0,d1,d2,d3]) rfl (OutT.of HR (S21.done Tt21 hput (by omega)))
        | true =>
         rw [hm9] at cI9
         refine cI9.mono ?_
         rintro e w9 ⟨rfl,hb9⟩
         have E9:=Lib.hid hm9
         have S9:=S8.below hb9
         clear hm9 cI9
         go_wp2_with fail
         refine (betweenN_any X w9 i h (exprR (ps X.l n) false) 174 #[X.p] #[] enters_expression S9.par [40] [41] (by decide) (by decide) (fun _ w1 _ H1 => by rw [Array.append_empty]; exact expression_any X n A w1 (i + 1) false H1 (by omega))).mono ?_
         rintro e w22 ⟨hb22,hr22⟩
         cases hp22 : betweenR X.l [40] [41] (exprR (ps X.l n) false) i with
         | bad j22 =>
          rw [hp22] at hr22
          obtain ⟨rfl,h22,H22⟩:=hr22
          have E22:=Lib.hid hp22
          have HR : Hid (primR X.l (ps X.l n) h i = .bad j22):=by simp [Hid,primR,E2.out,E3.out,E4.out,E6.out,E7.out,E8.out,E9.out,E22.out]
          exact ⟨rfl,OutT.of HR (S9.bad hb22 H22)⟩
         | ok t22 j22 =>
          rw [hp22] at hr22
          obtain ⟨ij22,H22,sl22,rfl,hk22⟩:=hr22
          obtain ⟨ao22,n22,c22,rfl⟩:=hk22.slice
          have E22:=Lib.hid hp22
          have S22:=S9.call hb22 H22
          have lt22:=H22.lt
          have Tt22:=Tre.new S9 hk22
          clear hp22 hk22
          have HR : Hid (primR X.l (ps X.l n) h i = .ok t22 j22):=by simp [Hid,primR,E2.out,E3.out,E4.out,E6.out,E7.out,E8.out,E9.out,E22.out]
          obtain ⟨u0,u1,u2,u3,b0,b1,b2,b3,bf⟩:=S22.box.open
          have bf0:=bf 0
          have bf1:=bf 1
          have bf2:=bf 2
          have bf3:=bf 3
          clear bf
          go_wp2
          obtain ⟨Wf,hWf,hput,_,d0,d1,d2,d3⟩:=putN4 S22.box (.int .i64 t22.kind) (.string ⟨t22.text.toArray⟩) (.int .i64 t22.num) (.slice ao22 n22 c22)
          rw [hWf]
          exact bodyPost_ret (v:=.agg #[.int .i64 t22.kind,.string ⟨t22.text.toArray⟩,.int .i64 t22.num,.slice ao22 n22 c22]) (by simp [results,Tryz.results195,go_sem,d0,d1,d2,d3]) rfl (OutT.of HR (S22.done Tt22 hput (by omega)))
       | true =>
        refine (take_yes X w7 i h S7.par [110,105,108] (by decide) hm8).mono ?_
        rintro e w8 ⟨rfl,hb8,H8⟩
        have E8:=Lib.hid hm8
        have S8:=S7.call hb8 H8
        have lt8:=H8.lt
        clear hm8
        go_wp2_with fail
        refine (node_any 43 [] _ _ _ _).mono ?_
        rintro e w23 ⟨rfl,hb23⟩
        have S23:=S8.below hb23
        have Tt23:=Tre.leaf w w23 43 [] 0 none 0
        have HR : Hid (primR X.l (ps X.l n) h i = .ok (.mk 43 [] 0 []) (i + 1)):=by simp [Hid,primR,E2.out,E3.out,E4.out,E6.out,E7.out,E8.out]
        obtain ⟨u0,u1,u2,u3,b0,b1,b2,b3,bf⟩:=S23.box.open
        have bf0:=bf 0
        have bf1:=bf 1
        have bf2:=bf 2
        have bf3:=bf 3
        clear bf
        go_wp2
        obtain ⟨Wf,hWf,hput,_,d0,d1,d2,d3⟩:=putN4 S23.box (.int .i64 43) (.string ⟨([]).toArray⟩) (.int .i64 0) (.slice none 0 0)
        rw [hWf]
        exact bodyPost_ret (v:=.agg #[.int .i64 43,.string ⟨([]).toArray⟩,.int .i64 0,.slice none 0 0]) (by simp [results,Tryz.results195,go_sem,d0,d1,d2,d3]) rfl (OutT.of HR (S23.done Tt23 hput (by omega)))
      | true =>
       refine (take_yes X w6 i h S6.par [102,97,108,115,101] (by decide) hm7).mono ?_
       rintro e w7 ⟨rfl,hb7,H7⟩
       have E7:=Lib.hid hm7
       have S7:=S6.call hb7 H7
       have lt7:=H7.lt
       clear hm7
       go_wp2_with fail
       refine (node_any 42 [] _ _ _ _).mono ?_
       rintro e w24 ⟨rfl,hb24⟩
       have S24:=S7.below hb24
       have Tt24:=Tre.leaf w w24 42 [] 0 none 0
       have HR : Hid (primR X.l (ps X.l n) h i = .ok (.mk 42 [] 0 []) (i + 1)):=by simp [Hid,primR,E2.out,E3.out,E4.out,E6.out,E7.out]
       obtain ⟨u0,u1,u2,u3,b0,b1,b2,b3,bf⟩:=S24.box.open
       have bf0:=bf 0
       have bf1:=bf 1
       have bf2:=bf 2
       have bf3:=bf 3
       clear bf
       go_wp2
       obtain ⟨Wf,hWf,hput,_,d0,d1,d2,d3⟩:=putN4 S24.box (.int .i64 42) (.string ⟨([]).toArray⟩) (.int .i64 0) (.slice none 0 0)
       rw [hWf]
       exact bodyPost_ret (v:=.agg #[.int .i64 42,.string ⟨([]).toArray⟩,.int .i64 0,.slice none 0 0]) (by simp [results,Tryz.results195,go_sem,d0,d1,d2,d3]) rfl (OutT.of HR (S24.done Tt24 hput (by omega)))
     | true =>
      refine (take_yes X (w1.alloc (.cells #[.int .i64 (kindA X.l i),.string ⟨(textA X.l i).toArray⟩,.int .i64 (numA X.l i),.int .i64 (atA X.l i)] 46)) i h S5.par [116,114,117,101] (by decide) hm6).mono ?_
      rintro e w6 ⟨rfl,hb6,H6⟩
      have E6:=Lib.hid hm6
      have S6:=S5.call hb6 H6
      have lt6:=H6.lt
      clear hm6
      have Tt25:=Tre.leaf w w6 42 [] 1 none 0
      have HR : Hid (primR X.l (ps X.l n) h i = .ok (.mk 42 [] 1 []) (i + 1)):=by simp [Hid,primR,E2.out,E3.out,E4.out,E6.out]
      obtain ⟨u0,u1,u2,u3,b0,b1,b2,b3,bf⟩:=S6.box.open
      have bf0:=bf 0
      have bf1:=bf 1
      have bf2:=bf 2
      have bf3:=bf 3
      clear bf
      go_wp2
      obtain ⟨Wf,hWf,hput,_,d0,d1,d2,d3⟩:=putN4 S6.box (.int .i64 42) (.string ⟨([]).toArray⟩) (.int .i64 1) (.slice none 0 0)
      rw [hWf]
      exact bodyPost_ret (v:=.agg #[.int .i64 42,.string ⟨([]).toArray⟩,.int .i64 1,.slice none 0 0]) (by simp [results,Tryz.results195,go_sem,d0,d1,d2,d3]) rfl (OutT.of HR (S6.done Tt25 hput (by omega)))
    | true =>
     have E4:=Lib.hid hm4
     have S26:=S1.alloc (.cells #[.int .i64 (kindA X.l i),.string ⟨(textA X.l i).toArray⟩,.int .i64 (numA X.l i),.int .i64 (atA X.l i)] 46)
     go_wp2_with fail
     refine (named_any X n A (w1.alloc (.cells #[.int .i64 (kindA X.l i),.string ⟨(textA X.l i).toArray⟩,.int .i64 (numA X.l i),.int .i64 (atA X.l i)] 46)) i h S26.par (by omega)).mono ?_
     rintro e w27 ⟨hb27,hr27⟩
     cases hp27 : namedR X.l (ps X.l n) h i with
     | bad j27 =>
      rw [hp27] at hr27
      obtain ⟨rfl,h27,H27⟩:=hr27
      have E27:=Lib.hid hp27
      have HR : Hid (primR X.l (ps X.l n) h i = .bad j27):=by simp [Hid,primR,E2.out,E3.out,E4.out,E27.out]
      exact ⟨rfl,OutT.of HR (S26.bad hb27 H27)⟩
     | ok t27 j27 =>
      rw [hp27] at hr27
      obtain ⟨ij27,H27,sl27,rfl,hk27⟩:=hr27
      obtain ⟨ao27,n27,c27,rfl⟩:=hk27.slice
      have E27:=Lib.hid hp27
      have S27:=S26.call hb27 H27
      have lt27:=H27.lt
      have Tt27:=Tre.new S26 hk27
      clear hp27 hk27
      have HR : Hid (primR X.l (ps X.l n) h i = .ok t27 j27):=by simp [Hid,primR,E2.out,E3.out,E4.out,E27.out]
      obtain ⟨u0,u1,u2,u3,b0,b1,b2,b3,bf⟩:=S27.box.open
      have bf0:=bf 0
      have bf1:=bf 1
      have bf2:=bf 2
      have bf3:=bf 3
      clear bf
      go_wp2
      obtain ⟨Wf,hWf,hput,_,d0,d1,d2,d3⟩:=putN4 S27.box (.int .i64 t27.kind) (.string ⟨t27.text.toArray⟩) (.int .i64 t27.num) (.slice ao27 n27 c27)
      rw [hWf]
      exact bodyPost_ret (v:=.agg #[.int .i64 t27.kind,.string ⟨t27.text.toArray⟩,.int .i64 t27.num,.slice ao27 n27 c27]) (by simp [results,Tryz.results195,go_sem,d0,d1,d2,d3]) rfl (OutT.of HR (S27.done Tt27 hput (by omega)))
   | true =>
    have E3:=Lib.hid hm3
    have c1_28:=S1.par.c1
    have f1_28:=S1.par.fz 1
    have bn28:=S1.par.bnd
    have nx28 : i + 1 < X.l.length:=kind_end (k:=3) S1.par (by decide) (by simpa using E3.out)
    have S28:=S1.next nx28
    have S29:=S28.alloc (.cells #[.int .i64 (kindA X.l i),.string ⟨(textA X.l i).toArray⟩,.int .i64 (numA X.l i),.int .i64 (atA X.l i)] 46)
    go_wp2_with fail
    refine (node_any 41 (textA X.l i) _ _ _ _).mono ?_
    rintro e w30 ⟨rfl,hb30⟩
    have S30:=S29.below hb30
    have Tt30:=Tre.leaf w w30 41 (textA X.l i) 0 none 0
    have HR : Hid (primR X.l (ps X.l n) h i = .ok (.mk 41 (textA X.l i) 0 []) (i + 1)):=by simp [Hid,primR,E2.out,E3.out]
    obtain ⟨u0,u1,u2,u3,b0,b1,b2,b3,bf⟩:=S30.box.open
    have bf0:=bf 0
    have bf1:=bf 1
    have bf2:=bf 2
    have bf3:=bf 3
    clear bf
    go_wp2
    obtain ⟨Wf,hWf,hput,_,d0,d1,d2,d3⟩:=putN4 S30.box (.int .i64 41) (.string ⟨((textA X.l i)).toArray⟩) (.int .i64 0) (.slice none 0 0)
    rw [hWf]
    exact bodyPost_ret (v:=.agg #[.int .i64 41,.string ⟨((textA X.l i)).toArray⟩,.int .i64 0,.slice none 0 0]) (by simp [results,Tryz.results195,go_sem,d0,d1,d2,d3]) rfl (OutT.of HR (S30.done Tt30 hput (by omega)))
  | true =>
   have E2:=Lib.hid hm2
   have c1_31:=S1.par.c1
   have f1_31:=S1.par.fz 1
   have bn31:=S1.par.bnd
   have nx31 : i + 1 < X.l.length:=kind_end (k:=2) S1.par (by decide) (by simpa using E2.out)
   have S31:=S1.next nx31
   have Tt32:=Tre.leaf w (w1.setCell ⟨X.P,1,none⟩ (.int .i64 ((i : Int) + 1))) 40 [] (numA X.l i) none 0
   have HR : Hid (primR X.l (ps X.l n) h i = .ok (.mk 40 [] (numA X.l i) []) (i + 1)):=by simp [Hid,primR,E2.out]
   obtain ⟨u0,u1,u2,u3,b0,b1,b2,b3,bf⟩:=S1.box.open
   have bf0:=bf 0
   have bf1:=bf 1
   have bf2:=bf 2
   have bf3:=bf 3
   clear bf
   have nlt:=S31.lt
   have nlt2 : w.heap.size < w1.heap.size:=S1.lt
   have nne : w.heap.size ≠ w1.heap.size:=by omega
   have nne2 : w1.heap.size ≠ w.heap.size:=by omega
   go_wp2
   obtain ⟨Wf,hWf,hput,_,d0,d1,d2,d3⟩:=putN4 S31.box (.int .i64 40) (.string ⟨([]).toArray⟩) (.int .i64 (numA X.l i)) (.slice none 0 0)
   rw [hWf]
   have hlz : w.heap.size < Wf.heap.size:=by rw [hput.size]; exact S31.lt
   exact bodyPost_ret (v:=.agg #[.int .i64 40,.string ⟨([]).toArray⟩,.int .i64 (numA X.l i),.slice none 0 0]) (by simp [results,Tryz.results195,go_sem,d0,d1,d2,d3,hlz]) rfl (OutT.of HR (S31.doneA Tt32 hput (by omega) _))
end Go.Proofs.YtnkphlkjhgngkaaGreatDoor
