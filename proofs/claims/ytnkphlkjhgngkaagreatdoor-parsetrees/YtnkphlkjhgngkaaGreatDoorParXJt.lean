/- The parser's program: a fault is caught. -/
import Derived.Test.YtnkphlkjhgngkaaGreatDoorParUJt
import Derived.Recover
namespace Go.Proofs.YtnkphlkjhgngkaaGreatDoor
open Go.RowKit
theorem catch_panicking (p : Addr) (x : Bool) (u : TypeId) (pv : Value) (older : List PanicEntry) (w : World) (hc : w.cell? p = some (.bool x)) (hz : w.frozen? p = false) :
    CallsD Tryz.prog 32 #[.pointer (some p)] (.panicking ({ v:=.iface u pv,recovered:=false } :: older)) w fun e u' w' =>
     e = .returned (.tuple #[]) ∧ u' = .panicking ({ v:=.iface u pv,recovered:=true } :: older) ∧ w' = w.setCell p (.bool false):=by
  refine callsD_of_wpS Tryz.func32 rfl fun c₀ cs hu => ?_
  apply wpS_region
  simp [wpOpsS,go_sem,recoverD,hu,Tryz.ntmps32,hc,hz,bodyPostS,results,Tryz.results32]
theorem catch_idle (p : Addr) (x : Bool) (w : World) (hc : w.cell? p = some (.bool x)) (hz : w.frozen? p = false) :
    CallsD Tryz.prog 32 #[.pointer (some p)] .returning w fun e u' w' => e = .returned (.tuple #[]) ∧ u' = .returning ∧ w' = w.setCell p (.bool true):=by
  refine callsD_of_wpS Tryz.func32 rfl fun c₀ cs hu => ?_
  apply wpS_region
  simp [wpOpsS,go_sem,recoverD,hu,Tryz.ntmps32,hc,hz,bodyPostS,results,Tryz.results32]
  cases c₀
  simp_all
abbrev zeroT : Value:=.agg #[.int .i64 0,.string ⟨#[]⟩,.int .i64 0,.slice none 0 0]
/-- What program leaves: the tree, or the place of the fault. -/
def OutP (X : Px) (w : World) (r : Res Tr) (e : Ending) (w' : World) : Prop :=
  But X.P w.heap.size w w' ∧ match r with
  | .ok t j => (∃ h',Par X w' j h') ∧ ∃ sl,e = .returned (.tuple #[tv t sl,.bool true]) ∧ KT w' (Rg w.heap.size w'.heap.size) t sl
  | .bad j => (∃ h',Par X w' j h') ∧ e = .returned (.tuple #[zeroT,.bool false])
theorem OutP.of {X : Px} {w : World} {r r' : Res Tr} {e : Ending} {w' : World} (hr : Hid (r = r')) (o : OutP X w r' e w') : OutP X w r e w':=by
 have:=hr.out; subst this; exact o
set_option maxRecDepth 20000 in
set_option maxHeartbeats 1600000 in
theorem program_any (X : Px) (w : World) (H : Par X w 0 false) : Calls Tryz.prog 19 #[X.p] w (OutP X w (treeR X.l)):=by
 have hmf : ∀ (fn : Fn) (first cap : Array Value) (w : World),(Instr.makeFunc fn first cap).run Tryz.prog w = .ok (.func fn first cap) w:=fun _ _ _ _ => rfl
 have pl:=H.plt
 have tl:=H.tlt
 obtain ⟨W1,hW1⟩ : ∃ W,((w.alloc (.cells #[.int .i64 0,.string ⟨#[]⟩,.int .i64 0,.slice none 0 0] 24)).alloc (.cells #[.bool false] 4)) = W:=⟨_,rfl⟩
 have hb0 : But X.P w.heap.size w W1:=hW1 ▸ ((But.refl _ _ _).alloc (Nat.le_refl _) _).alloc (by simp) _
 have H0 : Par X W1 0 false:=hW1 ▸ (H.alloc _).alloc _
 have z11 : W1.heap.size ≤ w.heap.size + 2:=by rw [← hW1]; simp
 have z12 : w.heap.size + 2 ≤ W1.heap.size:=by rw [← hW1]; simp
 have bx : W1.heap[w.heap.size]? = some (.cells #[.int .i64 0,.string ⟨#[]⟩,.int .i64 0,.slice none 0 0] 24 (0,0)):=by rw [← hW1,Below.heap_alloc _ _ _ (by simp)]; exact heap_alloc_new w _
 have bk : W1.heap[w.heap.size + 1]? = some (.cells #[.bool false] 4 (0,0)):=by
  have:=heap_alloc_new (w.alloc (.cells #[.int .i64 0,.string ⟨#[]⟩,.int .i64 0,.slice none 0 0] 24)) (.cells #[.bool false] 4)
  rw [World.size_alloc,hW1] at this; exact this
 have cU:=upTo_any X W1 0 false [] (declR X.l (ps X.l (3 * X.l.length + 3))) 35 #[X.p] #[] enters_declaration H0 (fun w1 k _ _ H1 => by rw [Array.append_empty]; exact declaration_any X (3 * X.l.length + 3) (good X _) w1 k false H1 (by omega))
 have HT : Hid (treeR X.l = (upToR X.l [] (declR X.l (ps X.l (3 * X.l.length + 3))) 0).bind fun ks i => .ok (.mk 1 [] 0 ks) i):=rfl
 go_enter_defers Tryz.func19,Tryz.ntmps19
 go_wp2_with fail
 refine cU.mono ?_
 rintro e w2 ⟨hb2,hr2⟩
 have z2:=hb2.size
 clear cU
 have bx2:=(hb2.block w.heap.size (by omega) (by omega)).trans bx
 have bk2:=(hb2.block (w.heap.size + 1) (by omega) (by omega)).trans bk
 generalize upToR X.l [] (declR X.l (ps X.l (3 * X.l.length + 3))) 0 = r at *
 cases r with
 | bad j =>
  obtain ⟨rfl,h2,H2⟩:=hr2
  have HR : Hid (treeR X.l = .bad j):=HT.out
  have kc : w2.cell? ⟨w.heap.size + 1,0,none⟩ = some (.bool false):=by simp [World.cell?,bk2]
  have kf : w2.frozen? ⟨w.heap.size + 1,0,none⟩ = false:=by simp [World.frozen?,bk2]
  obtain ⟨q0,q1,q2,q3,_⟩:=cells_of_blk bx2
  refine leaves_cons (f:=32) (args:=#[.pointer (some ⟨w.heap.size + 1,0,none⟩)]) (by simp) (by simp [go_sem]) ?_
  refine (catch_panicking ⟨w.heap.size + 1,0,none⟩ false 25 _ [] _ kc kf).mono ?_
  rintro e u' w'' ⟨rfl,rfl,rfl⟩
  simp [Leaves,settle,results,Tryz.results19,go_sem,q0,q1,q2,q3,kc]
  exact OutP.of HR ⟨(hb0.trans (hb2.mono (by omega))).setCell (p:=⟨w.heap.size + 1,0,none⟩) (.inr (by simp)) _,⟨h2,H2.setCell (by omega) (by omega) _⟩,rfl⟩
 | ok ks j =>
  obtain ⟨ij,H2,v,rfl,hk⟩:=hr2
  obtain ⟨ao,c,rfl⟩:=hk.slice
  have HR : Hid (treeR X.l = .ok (.mk 1 [] 0 ks) j):=HT.out
  go_wp2_with fail
  refine (node_any 1 [] _ _ _ _).mono ?_
  rintro e w3 ⟨rfl,hb3⟩
  have z3:=hb3.size
  have bx3 : Box w3 w.heap.size:=⟨_,_,_,_,(hb3.block w.heap.size (by omega)).trans bx2⟩
  have bk3:=(hb3.block (w.heap.size + 1) (by omega)).trans bk2
  have kc : w3.cell? ⟨w.heap.size + 1,0,none⟩ = some (.bool false):=by simp [World.cell?,bk3]
  have kf : w3.frozen? ⟨w.heap.size + 1,0,none⟩ = false:=by simp [World.frozen?,bk3]
  obtain ⟨u0,u1,u2,u3,b0,b1,b2,b3,bf⟩:=bx3.open
  have bf0:=bf 0
  have bf1:=bf 1
  have bf2:=bf 2
  have bf3:=bf 3
  clear bf
  go_wp2
  obtain ⟨Wf,hWf,hput,hbf,d0,d1,d2,d3⟩:=putN4 bx3 (.int .i64 1) (.string ⟨#[]⟩) (.int .i64 0) (.slice ao ks.length c)
  rw [hWf]
  have zf:=hput.size
  have bkf:=(hput.block (w.heap.size + 1) (by omega)).trans bk3
  have bkg:=heap_setCell_same Wf (w.heap.size + 1) 0 (.bool true) bkf
  have hg : ∀ b,b ≠ w.heap.size + 1 → (Wf.setCell ⟨w.heap.size + 1,0,none⟩ (.bool true)).heap[b]? = Wf.heap[b]?:=fun b hb => Below.heap_setCell _ _ _ _ hb
  have zg : (Wf.setCell ⟨w.heap.size + 1,0,none⟩ (.bool true)).heap.size = Wf.heap.size:=by simp
  have hB : But X.P w.heap.size w (Wf.setCell ⟨w.heap.size + 1,0,none⟩ (.bool true)):=(((hb0.trans (hb2.mono (by omega))).trans (But.of_below (hb3.mono (by omega)))).put hput (.inr (Nat.le_refl _))).setCell (p:=⟨w.heap.size + 1,0,none⟩) (.inr (by simp)) _
  have HG : Par X (Wf.setCell ⟨w.heap.size + 1,0,none⟩ (.bool true)) j false:=((H2.below hb3 (Nat.le_refl _)).put hput (by omega) (by omega)).setCell (by omega) (by omega) _
  have hkt : KT (Wf.setCell ⟨w.heap.size + 1,0,none⟩ (.bool true)) (Rg W1.heap.size w2.heap.size) (.mk 1 [] 0 ks) (.slice ao ks.length c) :=
    (hk.kt 1 [] 0).fr (fun b hb => (hg b (by omega)).trans ((hput.block b (by omega)).trans (hb3.block b hb.2))) (fun _ hb => hb)
  have e0 : ∀ o,(Wf.setCell ⟨w.heap.size + 1,0,none⟩ (.bool true)).cell? ⟨w.heap.size,o,none⟩ = Wf.cell? ⟨w.heap.size,o,none⟩:=fun o => World.cell?_of_block (w:=Wf) (a:=⟨w.heap.size,o,none⟩) (hg _ (by simp))
  have g0:=(e0 0).trans d0
  have g1:=(e0 1).trans d1
  have g2:=(e0 2).trans d2
  have g3:=(e0 3).trans d3
  clear e0 hg b0 b1 b2 b3 bf0 bf1 bf2 bf3 kc kf
  generalize Wf.setCell ⟨w.heap.size + 1,0,none⟩ (.bool true) = Wg at *
  have kc : Wg.cell? ⟨w.heap.size + 1,0,none⟩ = some (.bool true):=by simp [World.cell?,bkg]
  have kf : Wg.frozen? ⟨w.heap.size + 1,0,none⟩ = false:=by simp [World.frozen?,bkg]
  refine leaves_cons (f:=32) (args:=#[.pointer (some ⟨w.heap.size + 1,0,none⟩)]) (by simp) (by simp [go_sem]) ?_
  refine (catch_idle ⟨w.heap.size + 1,0,none⟩ true _ kc kf).mono ?_
  rintro e u' w'' ⟨rfl,rfl,rfl⟩
  simp [Leaves,settle,results,Tryz.results19,go_sem,g0,g1,g2,g3,kc]
  exact OutP.of HR ⟨hB.setCell (p:=⟨w.heap.size + 1,0,none⟩) (.inr (by simp)) _,⟨false,HG.setCell (by omega) (by omega) _⟩,_,rfl,hkt.fr (fun b hb => Below.heap_setCell _ _ _ _ (by simp only; omega)) (fun b hb => ⟨by omega,by simp; omega⟩)⟩
end Go.Proofs.YtnkphlkjhgngkaaGreatDoor
