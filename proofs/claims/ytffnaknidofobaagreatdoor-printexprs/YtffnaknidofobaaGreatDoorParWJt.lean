/- The parser's unary operators; all the parts that come to themselves again. -/
import Derived.Test.YtffnaknidofobaaGreatDoorParUJt
import Derived.Recover
namespace Go.Proofs.YtffnaknidofobaaGreatDoor
open Go.RowKit
theorem prefix_end {X : Px} {w : World} {i : Nat} {h : Bool} (H : Par X w i h) (hr : prefixL (markA X.l i) = true) : i + 1 < X.l.length:=by
 refine not_end H (fun hn => ?_)
 have : markA X.l i = []:=by unfold markA; rw [hn.2]; split <;> rfl
 rw [this] at hr
 exact absurd hr (by decide)
set_option maxRecDepth 20000 in
set_option maxHeartbeats 1600000 in
theorem unary_any (X : Px) (n : Nat) (A : Good X n) (w : World) (i : Nat) (h : Bool) (H : Par X w i h) (hn : 3 * (X.l.length - i) ≤ n + 1) :
    Calls Tryz.prog 214 #[X.p] w (OutT X w i h (unaS X.l (ps X.l n) h i)):=by
  obtain ⟨W0,hW0,S0⟩:=St.first H
  have lt0:=H.lt
  go_enter Tryz.func214,Tryz.ntmps214
  go_wp2_with fail
  refine (mark_any X W0 i h S0.par).mono ?_
  rintro e w1 ⟨rfl,hb1⟩
  have S1:=S0.below hb1
  go_wp2_with fail
  refine (isPrefix_any (markA X.l i) w1).mono ?_
  rintro e w1 ⟨rfl,rfl⟩
  cases hq : prefixL (markA X.l i) with
  | true =>
   have E1:=Lib.hid hq
   have p1:=S1.par.c1
   have pf:=S1.par.fz 1
   have bn:=S1.par.bnd
   have nx:=prefix_end S1.par hq
   have S2:=S1.next nx
   clear hq
   go_wp2_with fail
   clear p1 pf
   generalize w1.setCell ⟨X.P,1,none⟩ (.int .i64 ((i : Int) + 1)) = w2 at *
   refine (A.una w2 (i + 1) h S2.par (by omega)).mono ?_
   rintro e w3 ⟨hb3,hr3⟩
   cases hp : (ps X.l n).una h (i + 1) with
   | bad j =>
    rw [hp] at hr3
    obtain ⟨rfl,h3,H3⟩:=hr3
    have HR : Hid (unaS X.l (ps X.l n) h i = .bad j):=by simp [Hid,unaS,Res.bind,E1.out,hp]
    exact ⟨rfl,OutT.of HR (S2.bad hb3 H3)⟩
   | ok t j =>
    rw [hp] at hr3
    obtain ⟨ij,H3,sl,rfl,hk⟩:=hr3
    obtain ⟨ao,nn,c,rfl⟩:=hk.slice
    have HR : Hid (unaS X.l (ps X.l n) h i = .ok (.mk 52 (markA X.l i) 0 [t]) j):=by simp [Hid,unaS,Res.bind,E1.out,hp]
    have S3:=S2.call hb3 H3
    have T3:=Tre.new S2 hk
    have O3:=Own.made1 S3 T3
    clear hp hk
    go_wp2_with fail
    refine (node_any 52 (markA X.l i) _ _ _ _).mono ?_
    rintro e w4 ⟨rfl,hb4⟩
    have S4:=(S3.alloc _).below hb4
    have T4:=(O3.below hb4).tre 52 (markA X.l i) 0
    obtain ⟨u0,u1,u2,u3,b0,b1,b2,b3,bf⟩:=S4.box.open
    have bf0:=bf 0
    have bf1:=bf 1
    have bf2:=bf 2
    have bf3:=bf 3
    clear bf
    go_wp2
    obtain ⟨Wf,hWf,hput,_,d0,d1,d2,d3⟩:=putN4 S4.box (.int .i64 52) (.string ⟨(markA X.l i).toArray⟩) (.int .i64 0) (.slice (some ⟨w3.heap.size,0,none⟩) 1 1)
    rw [hWf]
    exact bodyPost_ret (v:=.agg #[.int .i64 52,.string ⟨(markA X.l i).toArray⟩,.int .i64 0,.slice (some ⟨w3.heap.size,0,none⟩) 1 1]) (by simp [results,Tryz.results214,go_sem,d0,d1,d2,d3]) rfl (OutT.of HR (S4.done T4 hput (by omega)))
  | false =>
   have E1:=Lib.hid hq
   have HE : Hid (unaS X.l (ps X.l n) h i = postR X.l (ps X.l n) h i):=by simp [Hid,unaS,hq]
   clear hq
   go_wp2_with fail
   refine (post_any X n A w1 i h S1.par hn).mono ?_
   rintro e w3 ⟨hb3,hr3⟩
   generalize postR X.l (ps X.l n) h i = rr at *
   cases rr with
   | bad j =>
    obtain ⟨rfl,h3,H3⟩:=hr3
    exact ⟨rfl,OutT.of HE (S1.bad hb3 H3)⟩
   | ok t j =>
    obtain ⟨ij,H3,sl,rfl,hk⟩:=hr3
    obtain ⟨ao,nn,c,rfl⟩:=hk.slice
    have S3:=S1.call hb3 H3
    have T3:=Tre.new S1 hk
    obtain ⟨u0,u1,u2,u3,b0,b1,b2,b3,bf⟩:=S3.box.open
    have bf0:=bf 0
    have bf1:=bf 1
    have bf2:=bf 2
    have bf3:=bf 3
    clear bf
    go_wp2
    obtain ⟨Wf,hWf,hput,_,d0,d1,d2,d3⟩:=putN4 S3.box (.int .i64 t.kind) (.string ⟨t.text.toArray⟩) (.int .i64 t.num) (.slice ao nn c)
    rw [hWf]
    exact bodyPost_ret (v:=.agg #[.int .i64 t.kind,.string ⟨t.text.toArray⟩,.int .i64 t.num,.slice ao nn c]) (by simp [results,Tryz.results214,go_sem,d0,d1,d2,d3]) rfl (OutT.of HE (S3.done T3 hput ij))
/-- The parser's parts do what the plain functions say, whatever the steps at hand. -/
theorem good (X : Px) : ∀ n,Good X n
  | 0 => ⟨fun w i h H hn => by have:=H.lt; omega,fun w i h least H _ _ hn => by omega,fun w i h H hn => by have:=H.lt; omega,fun w i h H hn => by have:=H.lt; omega,fun w i h H hn => by omega⟩
  | n + 1 => ⟨fun w i h H hn => typ_any X n (good X n) w i h H hn,fun w i h least H h1 h6 hn => binary_any X n (good X n) w i h least H h1 h6 hn,fun w i h H hn => unary_any X n (good X n) w i h H hn,
      fun w i h H hn => block_any X n (good X n) w i h H hn,fun w i h H hn => ifStatement_any X n (good X n) w i h H hn⟩
end Go.Proofs.YtffnaknidofobaaGreatDoor

namespace Go.Proofs.YtffnaknidofobaaGreatDoor
open Go.RowKit
theorem catch_panicking (p : Addr) (x : Bool) (u : TypeId) (pv : Value) (older : List PanicEntry) (w : World) (hc : w.cell? p = some (.bool x)) (hz : w.frozen? p = false) :
    CallsD Tryz.prog 58 #[.pointer (some p)] (.panicking ({ v:=.iface u pv,recovered:=false } :: older)) w fun e u' w' =>
     e = .returned (.tuple #[]) ∧ u' = .panicking ({ v:=.iface u pv,recovered:=true } :: older) ∧ w' = w.setCell p (.bool false):=by
  refine callsD_of_wpS Tryz.func58 rfl fun c₀ cs hu => ?_
  apply wpS_region
  simp [wpOpsS,go_sem,recoverD,hu,Tryz.ntmps58,hc,hz,bodyPostS,results,Tryz.results58]
theorem catch_idle (p : Addr) (x : Bool) (w : World) (hc : w.cell? p = some (.bool x)) (hz : w.frozen? p = false) :
    CallsD Tryz.prog 58 #[.pointer (some p)] .returning w fun e u' w' => e = .returned (.tuple #[]) ∧ u' = .returning ∧ w' = w.setCell p (.bool true):=by
  refine callsD_of_wpS Tryz.func58 rfl fun c₀ cs hu => ?_
  apply wpS_region
  simp [wpOpsS,go_sem,recoverD,hu,Tryz.ntmps58,hc,hz,bodyPostS,results,Tryz.results58]
  cases c₀
  simp_all
abbrev zeroT : Value:=.agg #[.int .i64 0,.string ⟨#[]⟩,.int .i64 0,.slice none 0 0]
/-- What program leaves: the tree, or the place of the fault. -/
def OutP (X : Px) (w : World) (r : Res Tr) (e : Ending) (w' : World) : Prop :=
  But X.P w.heap.size w w' ∧ match r with
  | .ok t j => (∃ h',Par X w' j h') ∧ ∃ sl,e = .returned (.tuple #[tv t sl,.bool true]) ∧ KT w' (Rg w.heap.size w'.heap.size) t sl
  | .bad j => (∃ h',Par X w' j h') ∧ e = .returned (.tuple #[zeroT,.bool false])
theorem OutP.of {X : Px} {w : World} {r r' : Res Tr} {e : Ending} {w' : World} (hr : Hid (r = r')) (o : OutP X w r' e w') : OutP X w r e w':=by
 have:=hr.out; subst this; exact o
set_option maxRecDepth 20000 in
set_option maxHeartbeats 1600000 in
theorem program_any (X : Px) (w : World) (H : Par X w 0 false) : Calls Tryz.prog 28 #[X.p] w (OutP X w (treeR X.l)):=by
 have hmf : ∀ (fn : Fn) (first cap : Array Value) (w : World),(Instr.makeFunc fn first cap).run Tryz.prog w = .ok (.func fn first cap) w:=fun _ _ _ _ => rfl
 have pl:=H.plt
 have tl:=H.tlt
 obtain ⟨W1,hW1⟩ : ∃ W,((w.alloc (.cells #[.int .i64 0,.string ⟨#[]⟩,.int .i64 0,.slice none 0 0] 24)).alloc (.cells #[.bool false] 4)) = W:=⟨_,rfl⟩
 have hb0 : But X.P w.heap.size w W1:=hW1 ▸ ((But.refl _ _ _).alloc (Nat.le_refl _) _).alloc (by simp) _
 have H0 : Par X W1 0 false:=hW1 ▸ (H.alloc _).alloc _
 have z11 : W1.heap.size ≤ w.heap.size + 2:=by rw [← hW1]; simp
 have z12 : w.heap.size + 2 ≤ W1.heap.size:=by rw [← hW1]; simp
 have bx : W1.heap[w.heap.size]? = some (.cells #[.int .i64 0,.string ⟨#[]⟩,.int .i64 0,.slice none 0 0] 24 (0,0)):=by rw [← hW1,Below.heap_alloc _ _ _ (by simp)]; exact heap_alloc_new w _
 have bk : W1.heap[w.heap.size + 1]? = some (.cells #[.bool false] 4 (0,0)):=by
  have:=heap_alloc_new (w.alloc (.cells #[.int .i64 0,.string ⟨#[]⟩,.int .i64 0,.slice none 0 0] 24)) (.cells #[.bool false] 4)
  rw [World.size_alloc,hW1] at this; exact this
 have cU:=upTo_any X W1 0 false [] (declR X.l (ps X.l (3 * X.l.length + 3))) 61 #[X.p] #[] enters_declaration H0 (fun w1 k _ _ H1 => by rw [Array.append_empty]; exact declaration_any X (3 * X.l.length + 3) (good X _) w1 k false H1 (by omega))
 have HT : Hid (treeR X.l = (upToR X.l [] (declR X.l (ps X.l (3 * X.l.length + 3))) 0).bind fun ks i => .ok (.mk 1 [] 0 ks) i):=rfl
 go_enter_defers Tryz.func28,Tryz.ntmps28
 go_wp2_with fail
 refine cU.mono ?_
 rintro e w2 ⟨hb2,hr2⟩
 have z2:=hb2.size
 clear cU
 have bx2:=(hb2.block w.heap.size (by omega) (by omega)).trans bx
 have bk2:=(hb2.block (w.heap.size + 1) (by omega) (by omega)).trans bk
 generalize upToR X.l [] (declR X.l (ps X.l (3 * X.l.length + 3))) 0 = r at *
 cases r with
 | bad j =>
  obtain ⟨rfl,h2,H2⟩:=hr2
  have HR : Hid (treeR X.l = .bad j):=HT.out
  have kc : w2.cell? ⟨w.heap.size + 1,0,none⟩ = some (.bool false):=by simp [World.cell?,bk2]
  have kf : w2.frozen? ⟨w.heap.size + 1,0,none⟩ = false:=by simp [World.frozen?,bk2]
  obtain ⟨q0,q1,q2,q3,_⟩:=cells_of_blk bx2
  refine leaves_cons (f:=58) (args:=#[.pointer (some ⟨w.heap.size + 1,0,none⟩)]) (by simp) (by simp [go_sem]) ?_
  refine (catch_panicking ⟨w.heap.size + 1,0,none⟩ false 25 _ [] _ kc kf).mono ?_
  rintro e u' w'' ⟨rfl,rfl,rfl⟩
  simp [Leaves,settle,results,Tryz.results28,go_sem,q0,q1,q2,q3,kc]
  exact OutP.of HR ⟨(hb0.trans (hb2.mono (by omega))).setCell (p:=⟨w.heap.size + 1,0,none⟩) (.inr (by simp)) _,⟨h2,H2.setCell (by omega) (by omega) _⟩,rfl⟩
 | ok ks j =>
  obtain ⟨ij,H2,v,rfl,hk⟩:=hr2
  obtain ⟨ao,c,rfl⟩:=hk.slice
  have HR : Hid (treeR X.l = .ok (.mk 1 [] 0 ks) j):=HT.out
  go_wp2_with fail
  refine (node_any 1 [] _ _ _ _).mono ?_
  rintro e w3 ⟨rfl,hb3⟩
  have z3:=hb3.size
  have bx3 : Box w3 w.heap.size:=⟨_,_,_,_,(hb3.block w.heap.size (by omega)).trans bx2⟩
  have bk3:=(hb3.block (w.heap.size + 1) (by omega)).trans bk2
  have kc : w3.cell? ⟨w.heap.size + 1,0,none⟩ = some (.bool false):=by simp [World.cell?,bk3]
  have kf : w3.frozen? ⟨w.heap.size + 1,0,none⟩ = false:=by simp [World.frozen?,bk3]
  obtain ⟨u0,u1,u2,u3,b0,b1,b2,b3,bf⟩:=bx3.open
  have bf0:=bf 0
  have bf1:=bf 1
  have bf2:=bf 2
  have bf3:=bf 3
  clear bf
  go_wp2
  obtain ⟨Wf,hWf,hput,hbf,d0,d1,d2,d3⟩:=putN4 bx3 (.int .i64 1) (.string ⟨#[]⟩) (.int .i64 0) (.slice ao ks.length c)
  rw [hWf]
  have zf:=hput.size
  have bkf:=(hput.block (w.heap.size + 1) (by omega)).trans bk3
  have bkg:=heap_setCell_same Wf (w.heap.size + 1) 0 (.bool true) bkf
  have hg : ∀ b,b ≠ w.heap.size + 1 → (Wf.setCell ⟨w.heap.size + 1,0,none⟩ (.bool true)).heap[b]? = Wf.heap[b]?:=fun b hb => Below.heap_setCell _ _ _ _ hb
  have zg : (Wf.setCell ⟨w.heap.size + 1,0,none⟩ (.bool true)).heap.size = Wf.heap.size:=by simp
  have hB : But X.P w.heap.size w (Wf.setCell ⟨w.heap.size + 1,0,none⟩ (.bool true)):=(((hb0.trans (hb2.mono (by omega))).trans (But.of_below (hb3.mono (by omega)))).put hput (.inr (Nat.le_refl _))).setCell (p:=⟨w.heap.size + 1,0,none⟩) (.inr (by simp)) _
  have HG : Par X (Wf.setCell ⟨w.heap.size + 1,0,none⟩ (.bool true)) j false:=((H2.below hb3 (Nat.le_refl _)).put hput (by omega) (by omega)).setCell (by omega) (by omega) _
  have hkt : KT (Wf.setCell ⟨w.heap.size + 1,0,none⟩ (.bool true)) (Rg W1.heap.size w2.heap.size) (.mk 1 [] 0 ks) (.slice ao ks.length c) :=
    (hk.kt 1 [] 0).fr (fun b hb => (hg b (by omega)).trans ((hput.block b (by omega)).trans (hb3.block b hb.2))) (fun _ hb => hb)
  have e0 : ∀ o,(Wf.setCell ⟨w.heap.size + 1,0,none⟩ (.bool true)).cell? ⟨w.heap.size,o,none⟩ = Wf.cell? ⟨w.heap.size,o,none⟩:=fun o => World.cell?_of_block (w:=Wf) (a:=⟨w.heap.size,o,none⟩) (hg _ (by simp))
  have g0:=(e0 0).trans d0
  have g1:=(e0 1).trans d1
  have g2:=(e0 2).trans d2
  have g3:=(e0 3).trans d3
  clear e0 hg b0 b1 b2 b3 bf0 bf1 bf2 bf3 kc kf
  generalize Wf.setCell ⟨w.heap.size + 1,0,none⟩ (.bool true) = Wg at *
  have kc : Wg.cell? ⟨w.heap.size + 1,0,none⟩ = some (.bool true):=by simp [World.cell?,bkg]
  have kf : Wg.frozen? ⟨w.heap.size + 1,0,none⟩ = false:=by simp [World.frozen?,bkg]
  refine leaves_cons (f:=58) (args:=#[.pointer (some ⟨w.heap.size + 1,0,none⟩)]) (by simp) (by simp [go_sem]) ?_
  refine (catch_idle ⟨w.heap.size + 1,0,none⟩ true _ kc kf).mono ?_
  rintro e u' w'' ⟨rfl,rfl,rfl⟩
  simp [Leaves,settle,results,Tryz.results28,go_sem,g0,g1,g2,g3,kc]
  exact OutP.of HR ⟨hB.setCell (p:=⟨w.heap.size + 1,0,none⟩) (.inr (by simp)) _,⟨false,HG.setCell (by omega) (by omega) _⟩,_,rfl,hkt.fr (fun b hb => Below.heap_setCell _ _ _ _ (by simp only; omega)) (fun b hb => ⟨by omega,by simp; omega⟩)⟩
end Go.Proofs.YtffnaknidofobaaGreatDoor
