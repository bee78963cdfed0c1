/- The document's reader, plain: it never goes back, and what is behind a fault stays so. -/
import Derived.Test.YtnkphlkjhgngkaaGreatDoorRdMJt
import Derived.Test.YtnkphlkjhgngkaaGreatDoorParJt
import Derived.Test.YtnkphlkjhgngkaaGreatDoorRdAJt
import Derived.Test.YtnkphlkjhgngkaaGreatDoorParIJt
namespace Go.Proofs.YtnkphlkjhgngkaaGreatDoor
/-- From s to s' the reader did not go back. -/
structure Up (s s' : Sg) : Prop where
  at_ : s.1 ≤ s'.1
  bad : s.2 = true → s'.2 = true
/-- It went on, or met a fault. -/
structure Su (s s' : Sg) : Prop where
  up : Up s s'
  on : s'.2 = true ∨ s.1 < s'.1
theorem Up.refl (s : Sg) : Up s s:=⟨Nat.le_refl _,id⟩
theorem Up.trans {a b c : Sg} (h : Up a b) (k : Up b c) : Up a c:=⟨Nat.le_trans h.at_ k.at_,fun e => k.bad (h.bad e)⟩
theorem Su.then {a b c : Sg} (h : Su a b) (k : Up b c) : Su a c:=⟨h.up.trans k,h.on.elim (fun e => .inl (k.bad e)) (fun e => .inr (Nat.lt_of_lt_of_le e k.at_))⟩
theorem Up.then {a b c : Sg} (h : Up a b) (k : Su b c) : Su a c:=⟨h.trans k.up,k.on.elim .inl (fun e => .inr (Nat.lt_of_le_of_lt h.at_ e))⟩
theorem su_step (s : Sg) : Su s (stepV s):=⟨⟨Nat.le_succ _,id⟩,.inr (Nat.lt_succ_self _)⟩
theorem su_bad (s : Sg) : Su s (badV s):=⟨⟨Nat.le_refl _,fun _ => rfl⟩,.inl rfl⟩
theorem su_need (l : List Tk) (m : List UInt8) (s : Sg) : Su s (needV l m s):=by
 unfold needV; split
 · exact su_step s
 · exact su_bad s
theorem su_name (l : List Tk) (s : Sg) : Su s (nameV l s).2:=by
 unfold nameV; split
 · exact su_step s
 · exact su_bad s
theorem up_take (l : List Tk) (m : List UInt8) (s : Sg) : Up s (takeV l m s).2:=by
 unfold takeV; split
 · exact (su_step s).up
 · exact Up.refl s
theorem up_bind {α β : Type} {s : Sg} {v : α × Sg} {f : α → Sg → β × Sg} (h : Up s v.2) (k : ∀ a s,Up s (f a s).2) : Up s (bindV v f).2:=h.trans (k _ _)
theorem su_bind {α β : Type} {s : Sg} {v : α × Sg} {f : α → Sg → β × Sg} (h : Su s v.2) (k : ∀ a s,Up s (f a s).2) : Su s (bindV v f).2:=h.then (k _ _)
theorem up_if {α : Type} {b : Prop} [Decidable b] {s : Sg} {x y : α × Sg} (h : Up s x.2) (k : Up s y.2) : Up s (if b then x else y).2:=by
 split
 · exact h
 · exact k
theorem up_ret {α : Type} (a : α) (s : Sg) : Up s (a,s).2:=Up.refl s
structure UpV (p : Vs) : Prop where
  typ : ∀ s,Up s (p.typ s).2
  bin : ∀ h m s,Up s (p.bin h m s).2
  una : ∀ h s,Up s (p.una h s).2
  blk : ∀ s,Su s (p.blk s).2
  ifS : ∀ s,Up s (p.ifS s).2
section
variable {l : List Tk} {p : Vs}
theorem up_comma {item : Sg → Tr × Sg} (h : ∀ s,Up s (item s).2) : ∀ (f : Nat) (acc : List Tr) (s : Sg),Up s (commaV l item f acc s).2
  | 0,_,s => (su_bad s).up
  | f + 1,_,s => up_bind (up_take l _ s) fun _ s => up_if (up_bind (h s) fun _ s => up_comma h f _ s) (up_ret _ s)
theorem up_commas {item : Sg → Tr × Sg} (h : ∀ s,Up s (item s).2) (s : Sg) : Up s (commasV l item s).2:=up_bind (h s) fun _ s => up_comma h _ _ s
theorem up_needs {α : Type} (m : List UInt8) (a : α) (s : Sg) : Up s (a,needV l m s).2:=(su_need l m s).up
theorem up_results (U : UpV p) (s : Sg) : Up s (resultsV l p s).2 :=
  up_bind (up_take l _ s) fun _ s => up_if (up_bind (up_commas U.typ s) fun _ s => up_needs _ _ s) (up_if (up_bind (U.typ s) fun _ s => up_ret _ s) (up_ret _ s))
theorem up_inner {item : Sg → Tr × Sg} (h : ∀ s,Up s (item s).2) (m : List UInt8) (b : Bool) (s : Sg) : Up s (if b then (([] : List Tr),s) else bindV (commasV l item s) fun ks s => (ks,needV l m s)).2 :=
  up_if (up_ret _ s) (up_bind (up_commas h s) fun _ s => up_needs _ _ s)
theorem up_typ (U : UpV p) (s : Sg) : Up s (typV l p s).2 :=
  up_if (up_ret _ s) (up_if ((su_step s).up.trans (up_bind (U.typ _) fun _ s => up_ret _ s)) (up_if ((su_step s).up.trans ((su_need l _ _).up.trans (up_bind (U.typ _) fun _ s => up_ret _ s)))
    (up_if ((su_step s).up.trans ((su_need l _ _).up.trans (up_bind (up_take l _ _) fun b s => up_bind (up_inner U.typ _ b s) fun _ s => up_bind (up_results U s) fun _ s => up_ret _ s)))
      (up_bind (su_name l s).up fun _ s => up_ret _ s))))
theorem up_par (U : UpV p) (s : Sg) : Up s (parV l p s).2:=up_bind (su_name l s).up fun _ s => up_bind (U.typ s) fun _ s => up_ret _ s
theorem su_sig (U : UpV p) (s : Sg) : Su s (sigV l p s).2 :=
  (su_need l _ s).then (up_bind (up_take l _ _) fun _ s => up_bind (up_if (up_ret _ s) (up_bind (up_if (up_ret _ s) (up_commas (up_par U) s)) fun _ s => up_needs _ _ s)) fun _ s => up_bind (up_results U s) fun _ s => up_ret _ s)
theorem up_expr (U : UpV p) (h : Bool) (s : Sg) : Up s (exprV p h s).2:=U.bin h 1 s
theorem up_exprs (U : UpV p) (h : Bool) (s : Sg) : Up s (exprsV l p h s).2:=up_commas (up_expr U h) s
theorem up_until (U : UpV p) (m : List UInt8) (s : Sg) : Up s (untilV l p m s).2 :=
  up_bind (up_take l _ s) fun _ s => up_if (up_ret _ s) (up_bind (up_exprs U false s) fun _ s => up_needs _ _ s)
theorem up_cut (U : UpV p) (num : Int) (ks : List Tr) (s : Sg) : Up s (cutV l p num ks s).2 :=
  (su_need l _ s).up.trans (up_bind (up_take l _ _) fun _ s => up_if (up_ret _ s) (up_bind (up_expr U false s) fun _ s => up_needs _ _ s))
theorem up_index (U : UpV p) (n : Tr) (s : Sg) : Up s (indexV l p n s).2 :=
  up_if (up_cut U _ _ s) (up_bind (up_expr U false s) fun _ s => up_bind (up_take l _ s) fun _ s => up_if (up_ret _ s) (up_cut U _ _ s))
theorem up_stepR {α : Type} (a : α) (s : Sg) : Up s (a,stepV s).2:=(su_step s).up
theorem up_prim (U : UpV p) (h : Bool) (s : Sg) : Up s (primV l p h s).2 :=
  up_if (up_stepR _ s) (up_if (up_stepR _ s) (up_if (up_bind (su_name l s).up fun _ s => up_if (up_ret _ s) (up_bind (up_take l _ s) fun _ s => up_if (up_bind (up_until U _ s) fun _ s => up_ret _ s) (up_ret _ s)))
    (up_if (up_stepR _ s) (up_if (up_stepR _ s) (up_if (up_stepR _ s) (up_if ((su_step s).up.trans (up_bind (up_expr U false _) fun _ s => up_needs _ _ s))
      (up_if ((su_step s).up.trans ((su_need l _ _).up.trans (up_bind (U.typ _) fun _ s => (su_need l _ s).up.trans (up_bind (up_until U _ _) fun _ s => up_ret _ s))))
        (up_if ((su_step s).up.trans (up_bind (su_sig U _).up fun _ s => up_bind (U.blk s).up fun _ s => up_ret _ s)) (su_bad s).up))))))))
theorem up_post (U : UpV p) : ∀ (f : Nat) (n : Tr) (s : Sg),Up s (postV l p f n s).2
  | 0,_,s => (su_bad s).up
  | f + 1,n,s => up_if (up_ret _ s) (up_if ((su_step s).up.trans (up_bind (su_name l _).up fun _ s => up_post U f _ s)) (up_if ((su_step s).up.trans (up_bind (up_index U n _) fun _ s => up_post U f _ s))
      (up_if ((su_step s).up.trans (up_bind (up_until U _ _) fun _ s => up_post U f _ s)) (up_ret _ s))))
theorem up_una (U : UpV p) (h : Bool) (s : Sg) : Up s (unaV l p h s).2 :=
  up_if ((su_step s).up.trans (up_bind (U.una h _) fun _ s => up_ret _ s)) (up_bind (up_prim U h s) fun _ s => up_post U _ _ s)
theorem up_climb (U : UpV p) (h : Bool) (least : Int) : ∀ (f : Nat) (n : Tr) (s : Sg),Up s (climbV l p h least f n s).2
  | 0,_,s => (su_bad s).up
  | f + 1,_,s => up_if (up_ret _ s) (up_if ((su_step s).up.trans (up_bind (U.bin h _ _) fun _ s => up_climb U h least f _ s)) (up_ret _ s))
theorem up_bin (U : UpV p) (h : Bool) (least : Int) (s : Sg) : Up s (binV l p h least s).2:=up_bind (U.una h s) fun _ s => up_climb U h least _ _ s
theorem up_else (U : UpV p) (s : Sg) : Up s (elseV l p s).2:=up_if ((su_step s).up.trans (U.ifS _)) (U.blk s).up
theorem up_ifS (U : UpV p) (s : Sg) : Up s (ifV l p s).2 :=
  up_bind (up_expr U true s) fun _ s => up_bind (U.blk s).up fun _ s => up_bind (up_take l _ s) fun _ s => up_if (up_if (up_bind (up_else U s) fun _ s => up_ret _ s) (su_bad s).up) (up_ret _ s)
theorem up_for (U : UpV p) (s : Sg) : Up s (forV l p s).2 :=
  up_if (up_bind (U.blk s).up fun _ s => up_ret _ s) (up_bind (up_expr U true s) fun _ s => up_bind (U.blk s).up fun _ s => up_ret _ s)
theorem up_line (U : UpV p) (s : Sg) : Up s (lineV l p s).2 :=
  up_if ((su_step s).up.trans (up_bind (su_name l _).up fun _ s => up_bind (U.typ s) fun _ s => up_bind (up_take l _ s) fun _ s => up_if (up_bind (up_expr U false s) fun _ s => up_ret _ s) (up_ret _ s)))
    (up_if (up_if (up_stepR _ s) ((su_step s).up.trans (up_bind (up_exprs U false _) fun _ s => up_ret _ s))) (up_if (up_stepR _ s) (up_if (up_stepR _ s)
      (up_bind (up_exprs U false s) fun _ s => up_if ((su_step s).up.trans (up_bind (up_exprs U false _) fun _ s => up_ret _ s)) (up_if ((su_step s).up.trans (up_bind (up_exprs U false _) fun _ s => up_ret _ s)) (up_if (up_ret _ s) (su_bad s).up))))))
theorem su_stm (U : UpV p) (s : Sg) : Su s (stmV l p s).2:=by
 unfold stmV
 split
 · exact U.blk s
 split
 · exact (su_step s).then (U.ifS _)
 split
 · exact (su_step s).then (up_for U _)
 · exact (up_line U s).then (su_need l _ _)
theorem up_stms (U : UpV p) : ∀ (f : Nat) (acc : List Tr) (s : Sg),Up s (stmsV l p f acc s).2
  | 0,_,s => (su_bad s).up
  | f + 1,_,s => up_if (up_ret _ s) (up_bind (up_take l _ s) fun _ s => up_if (up_ret _ s) (up_bind (su_stm U s).up fun _ s => up_stms U f _ s))
theorem su_blk (U : UpV p) (s : Sg) : Su s (blkV l p s).2:=(su_need l _ s).then (up_bind (up_stms U _ _ _) fun _ s => up_ret _ s)
theorem upV (l : List Tk) : ∀ n,UpV (vs l n)
  | 0 => ⟨fun s => (su_bad s).up,fun _ _ s => (su_bad s).up,fun _ s => (su_bad s).up,su_bad,fun s => (su_bad s).up⟩
  | n + 1 => ⟨up_typ (upV l n),up_bin (upV l n),up_una (upV l n),su_blk (upV l n),up_ifS (upV l n)⟩
theorem su_mem (U : UpV p) (iface : Bool) (s : Sg) : Su s (memV l p iface s).2 :=
  su_bind (su_name l s) fun _ s => up_bind (up_if (su_sig U s).up (U.typ s)) fun _ s => up_needs _ _ s
theorem up_mems (U : UpV p) (iface : Bool) : ∀ (f : Nat) (acc : List Tr) (s : Sg),Up s (memsV l p iface f acc s).2
  | 0,_,s => (su_bad s).up
  | f + 1,_,s => up_if (up_ret _ s) (up_bind (up_take l _ s) fun _ s => up_if (up_ret _ s) (up_bind (su_mem U iface s).up fun _ s => up_mems U iface f _ s))
theorem up_if2 (i : Bool) (s : Sg) : Up s (if i then s else needV l [115,116,114,117,99,116] s):=by
 split
 · exact Up.refl s
 · exact (su_need l _ s).up
theorem up_head (i : Bool) (s : Sg) : Up s (needV l [123] (if i then s else needV l [115,116,114,117,99,116] s)):=Up.trans (up_if2 i s) (su_need l _ _).up
theorem up_typeD (U : UpV p) (s : Sg) : Up s (bindV (nameV l s) fun n s => bindV (takeV l [105,110,116,101,114,102,97,99,101] s) fun i s => bindV (memsV l p i (l.length + 1) [] (needV l [123] (if i then s else needV l [115,116,114,117,99,116] s))) fun ks s => ((Tr.mk (if i then 3 else 2) n 0 ks),s)).2 :=
  up_bind (su_name l _).up fun _ s => up_bind (up_take l _ s) fun i s => (up_head i s).trans (up_bind (up_mems U i _ _ _) fun _ s => up_ret _ s)
theorem su_funcD (U : UpV p) (s : Sg) : Su s (bindV (takeV l [40] (needV l [102,117,110,99] s)) fun m s =>
 if m then bindV (nameV l s) fun r s => bindV (nameV l (needV l [42] s)) fun o s => bindV (nameV l (needV l [41] s)) fun n s => bindV (sigV l p s) fun g s => bindV (p.blk s) fun b s =>
  (Tr.mk 5 n 0 [.mk 8 r 0 [.mk 11 [] 0 [.mk 10 o 0 []]],g,b],s)
 else bindV (nameV l s) fun n s => bindV (sigV l p s) fun g s => bindV (p.blk s) fun b s => (Tr.mk 4 n 0 [g,b],s)).2 :=
 (su_need l _ s).then (up_bind (up_take l _ _) fun _ s => up_if (up_bind (su_name l s).up fun _ s => (su_need l _ s).up.trans (up_bind (su_name l _).up fun _ s => (su_need l _ s).up.trans (up_bind (su_name l _).up fun _ s => up_bind (su_sig U s).up fun _ s => up_bind (U.blk s).up fun _ s => up_ret _ s)))
     (up_bind (su_name l s).up fun _ s => up_bind (su_sig U s).up fun _ s => up_bind (U.blk s).up fun _ s => up_ret _ s))
theorem su_decl (U : UpV p) (s : Sg) : Su s (declV l p s).2:=by
 cases h : isV l s [116,121,112,101] with
 | true =>
  have e : takeV l [116,121,112,101] s = (true,stepV s):=by simp [takeV,h]
  unfold declV; rw [e]; exact (su_step s).then (up_typeD U _)
 | false =>
  have e : takeV l [116,121,112,101] s = (false,s):=by simp [takeV,h]
  unfold declV; rw [e]; exact su_funcD U s
end
/-- How far the reader may still go. -/
def mS (n : Nat) (s : Sg) : Nat:=if s.2 then 0 else 3 * (n - s.1)
theorem Up.mS {n : Nat} {s s' : Sg} (h : Up s s') : mS n s' ≤ mS n s:=by
 have h1:=h.at_; have h2:=h.bad
 unfold Go.Proofs.YtnkphlkjhgngkaaGreatDoor.mS
 cases e : s'.2
 · cases e2 : s.2
   · simp; omega
   · rw [h2 e2] at e; cases e
 · simp
theorem mS_step {n : Nat} {s : Sg} (h : s.2 = false) (h1 : s.1 < n) : mS n (stepV s) + 3 ≤ mS n s:=by
 simp only [mS,stepV,h]; simp; omega
theorem isV_at {X : Px} {s : Sg} {m : List UInt8} (hm : m ≠ []) (h : isV X.l s m = true) (hs : s.1 ≤ X.toks.length) : s.2 = false ∧ s.1 < X.toks.length:=by
 obtain ⟨i,b⟩:=s
 simp only [isV,beq_iff_eq] at h
 cases b with
 | true => exact absurd (h.symm.trans rfl) hm
 | false =>
  refine ⟨rfl,Nat.lt_of_le_of_ne hs (fun e => hm ?_)⟩
  simp only at e; subst e
  rw [← h]; simp [nowV,kindA,textA,tkA_last]
theorem now_at {X : Px} {s : Sg} (h : nowV X.l s ≠ []) (hs : s.1 ≤ X.toks.length) : s.2 = false ∧ s.1 < X.toks.length:=isV_at h (by simp [isV]) hs
theorem kindV_at {X : Px} {s : Sg} {k : Int} (hk : k ≠ 0) (hk4 : k ≠ 4) (h : (kindV X.l s == k) = true) (hs : s.1 ≤ X.toks.length) : s.2 = false ∧ s.1 < X.toks.length:=by
 obtain ⟨i,b⟩:=s
 simp only [kindV,beq_iff_eq] at h
 cases b with
 | true => exact absurd (h.symm.trans rfl) hk
 | false =>
  refine ⟨rfl,Nat.lt_of_le_of_ne hs (fun e => hk4 ?_)⟩
  simp only at e; subst e
  rw [← h]; simp [kindA,tkA_last]
end Go.Proofs.YtnkphlkjhgngkaaGreatDoor

namespace Go.Proofs.YtnkphlkjhgngkaaGreatDoor
open Go.RowKit
attribute [local go_sem ↓] Go.wp_at_zero Go.wp_at_succ
section
variable {X : Px} {w w' : World} {s : Sg} {h : Bool}
theorem Rdr.bnd (H : Rdr X w s h) : s.1 ≤ 65536:=Nat.le_trans H.le H.cap
theorem Rdr.alloc (H : Rdr X w s h) (o : Obj) : Rdr X (w.alloc o) s h:=H.of_blocks (Below.heap_alloc w o _ H.plt) (Below.heap_alloc w o _ H.tlt) (by simp)
theorem Rdr.step (H : Rdr X w s h) (hl : s.1 < X.toks.length) : Rdr X (w.setCell ⟨X.P,1,none⟩ (.int .i64 ((s.1 : Int) + 1))) (stepV s) h:=H.set (o:=1) (by simp [stepV]) hl
theorem Rdr.bad (H : Rdr X w s h) : Rdr X (w.setCell ⟨X.P,2,none⟩ (.bool true)) (badV s) h:=H.set (o:=2) (by simp [badV]) H.le
theorem Rdr.head (H : Rdr X w s h) (g : Bool) : Rdr X (w.setCell ⟨X.P,3,none⟩ (.bool g)) s g:=H.set (o:=3) (by simp) H.le
theorem Rdr.grown (H : Rdr X w s h) {row : Option Nat} (hg : w.grownBy w' row) (h1 : some X.P ≠ row) (h2 : some X.tb ≠ row) : Rdr X w' s h :=
  H.of_blocks (hg.block _ H.plt h1) (hg.block _ H.tlt h2) hg.size
theorem Rdr.put (H : Rdr X w s h) {n : Nat} (hp : Put n w w') (h1 : n ≠ X.P) (h2 : n ≠ X.tb) : Rdr X w' s h :=
  H.of_blocks (hp.block _ (fun e => h1 e.symm)) (hp.block _ (fun e => h2 e.symm)) (Nat.le_of_eq hp.size.symm)
end
theorem nowS_any (X : Px) (w : World) (s : Sg) (h : Bool) (H : Rdr X w s h) : Calls Tryz.prog 73 #[X.p] w fun e w' => e = .returned (.string ⟨(nowV X.l s).toArray⟩) ∧ Below w.heap.size w w':=nowV_any X w s.1 s.2 h H
theorem kindS_any (X : Px) (w : World) (s : Sg) (h : Bool) (H : Rdr X w s h) : Calls Tryz.prog 74 #[X.p] w fun e w' => e = .returned (.int .i64 (kindRd X s)) ∧ Below w.heap.size w w':=kindV_any X w s.1 s.2 h H
set_option maxHeartbeats 800000 in
theorem rtake_yes (X : Px) (w : World) (s : Sg) (h : Bool) (H : Rdr X w s h) (m : List UInt8) (hs : m ≠ []) (hm : isV X.l s m = true) :
    Calls Tryz.prog 39 #[X.p,.string ⟨m.toArray⟩] w fun e w' => e = .returned (.bool true) ∧ But X.P w.heap.size w w' ∧ Rdr X w' (stepV s) h:=by
  have cI:=nowS_any X w s h H
  have hj:=(isV_at hs hm H.le).2
  have hx : nowV X.l s = m:=by simpa [isV] using hm
  rw [hx] at cI
  have hbn:=H.bnd
  clear hm hx
  go_enter Tryz.func39,Tryz.ntmps39
  go_wp2_with fail
  refine cI.mono ?_
  rintro e w1 ⟨rfl,hb⟩
  have H1:=H.below hb (Nat.le_refl _)
  have c1:=H1.c1
  have f1:=H1.fz 1
  have H2:=H1.step hj
  have hB : But X.P w.heap.size w (w1.setCell ⟨X.P,1,none⟩ (.int .i64 ((s.1 : Int) + 1))):=(But.of_below hb).setCell (p:=⟨X.P,1,none⟩) (.inl rfl) _
  clear cI
  go_wp2
  go_ret
  exact ⟨rfl,hB,H2⟩
set_option maxHeartbeats 800000 in
theorem rtake_no (X : Px) (w : World) (s : Sg) (h : Bool) (H : Rdr X w s h) (m : List UInt8) (hm : isV X.l s m = false) :
    Calls Tryz.prog 39 #[X.p,.string ⟨m.toArray⟩] w fun e w' => e = .returned (.bool false) ∧ But X.P w.heap.size w w' ∧ Rdr X w' s h:=by
  have cI:=nowS_any X w s h H
  have hx : (nowV X.l s == m) = false:=hm
  generalize nowV X.l s = x at *
  clear hm
  go_enter Tryz.func39,Tryz.ntmps39
  go_wp2_with fail
  refine cI.mono ?_
  rintro e w1 ⟨rfl,hb⟩
  go_wp2
  go_ret
  exact ⟨rfl,But.of_below hb,H.below hb (Nat.le_refl _)⟩
theorem rtake_any (X : Px) (w : World) (s : Sg) (h : Bool) (H : Rdr X w s h) (m : List UInt8) (hs : m ≠ []) :
    Calls Tryz.prog 39 #[X.p,.string ⟨m.toArray⟩] w fun e w' => e = .returned (.bool (takeV X.l m s).1) ∧ But X.P w.heap.size w w' ∧ Rdr X w' (takeV X.l m s).2 h:=by
  cases hm : isV X.l s m with
  | true => simpa [takeV,hm] using rtake_yes X w s h H m hs hm
  | false => simpa [takeV,hm] using rtake_no X w s h H m hm
set_option maxHeartbeats 800000 in
theorem rneed_any (X : Px) (w : World) (s : Sg) (h : Bool) (H : Rdr X w s h) (m : List UInt8) (hs : m ≠ []) :
    Calls Tryz.prog 41 #[X.p,.string ⟨m.toArray⟩] w fun e w' => e = .returned (.tuple #[]) ∧ But X.P w.heap.size w w' ∧ Rdr X w' (needV X.l m s) h:=by
  cases hm : isV X.l s m with
  | true =>
   have cI:=rtake_yes X w s h H m hs hm
   have HX : Hid (needV X.l m s = stepV s):=Lib.hid (by simp [needV,hm])
   clear hm
   go_enter Tryz.func41,Tryz.ntmps41
   go_wp2_with fail
   refine cI.mono ?_
   rintro e w1 ⟨rfl,hb,hp⟩
   go_wp2
   exact bodyPost_end (v:=.tuple #[]) (by simp [results,Tryz.results41,go_sem]) rfl ⟨rfl,hb,HX.out ▸ hp⟩
  | false =>
   have cI:=rtake_no X w s h H m hm
   have HX : Hid (needV X.l m s = badV s):=Lib.hid (by simp [needV,hm])
   clear hm
   go_enter Tryz.func41,Tryz.ntmps41
   go_wp2_with fail
   refine cI.mono ?_
   rintro e w1 ⟨rfl,hb,hp⟩
   have c2:=hp.c2
   have f2:=hp.fz 2
   have H2:=hp.bad
   have hB : But X.P w.heap.size w (w1.setCell ⟨X.P,2,none⟩ (.bool true)):=hb.setCell (p:=⟨X.P,2,none⟩) (.inl rfl) _
   go_wp2
   exact bodyPost_end (v:=.tuple #[]) (by simp [results,Tryz.results41,go_sem]) rfl ⟨rfl,hB,HX.out ▸ H2⟩
theorem rnode_any (k : Int) (s : List UInt8) (ao : Option Addr) (n c : Nat) (w : World) :
    Calls Tryz.prog 23 #[.int .i64 k,.string ⟨s.toArray⟩,.slice ao n c] w fun e w' => e = .returned (.agg #[.int .i64 k,.string ⟨s.toArray⟩,.int .i64 0,.slice ao n c]) ∧ Below w.heap.size w w':=by
  go_enter Tryz.func23,Tryz.ntmps23
  go_wp2
  exact bodyPost_ret (v:=.agg #[.int .i64 k,.string ⟨s.toArray⟩,.int .i64 0,.slice ao n c]) (by simp [results,Tryz.results23,go_sem]) rfl ⟨rfl,(Below.refl _ _).alloc (Nat.le_refl _) _⟩
theorem kindRd_eq {X : Px} {s : Sg} (k : Int) (h0 : k ≠ 0) (h4 : k ≠ 4) (hs : s.1 ≤ X.toks.length) : (kindRd X s == k) = (kindV X.l s == k):=by
 obtain ⟨i,b⟩:=s
 cases b with
 | true => rfl
 | false =>
  by_cases hi : i < X.toks.length
  · simp [kindRd,kindV,hi]
  · obtain rfl : i = X.toks.length:=by simp only at hs; omega
    have e1 : ((0 : Int) == k) = false:=by simp; exact fun e => h0 e.symm
    have e2 : ((4 : Int) == k) = false:=by simp; exact fun e => h4 e.symm
    simp only [kindRd,kindV,kindA,tkA_last,Nat.lt_irrefl]
    simp [e1,e2]
set_option maxHeartbeats 1600000 in
theorem rname_any (X : Px) (w : World) (s : Sg) (h : Bool) (H : Rdr X w s h) :
    Calls Tryz.prog 40 #[X.p] w fun e w' => e = .returned (.string ⟨(nameV X.l s).1.toArray⟩) ∧ But X.P w.heap.size w w' ∧ Rdr X w' (nameV X.l s).2 h:=by
  have cK:=kindS_any X w s h H
  have hkq:=kindRd_eq (X:=X) (s:=s) 1 (by decide) (by decide) H.le
  cases hm : (kindV X.l s == 1) with
  | true =>
   rw [hm] at hkq
   have hk1 : kindRd X s = 1:=by simpa using hkq
   rw [hk1] at cK
   obtain ⟨hbad,hj⟩:=kindV_at (by decide) (by decide) hm H.le
   have HX : Hid (nameV X.l s = (textA X.l s.1,stepV s)):=Lib.hid (by simp [nameV,hm])
   have hbn:=H.bnd
   clear hm hkq hk1
   go_enter Tryz.func40,Tryz.ntmps40
   go_wp2_with fail
   refine cK.mono ?_
   rintro e w1 ⟨rfl,hb⟩
   have H1:=H.below hb (Nat.le_refl _)
   have c1:=H1.c1
   have f1:=H1.fz 1
   have H2:=H1.step hj
   have hB : But X.P w.heap.size w (w1.setCell ⟨X.P,1,none⟩ (.int .i64 ((s.1 : Int) + 1))):=(But.of_below hb).setCell (p:=⟨X.P,1,none⟩) (.inl rfl) _
   clear cK
   go_wp2_with fail
   clear c1 f1
   generalize w1.setCell ⟨X.P,1,none⟩ (.int .i64 ((s.1 : Int) + 1)) = w2 at *
   have c0:=H2.c0
   have c1 : w2.cell? ⟨X.P,1,none⟩ = some (.int .i64 ((s.1 : Int) + 1)):=H2.c1
   obtain ⟨t0,t1,t2,t3⟩:=H2.tok s.1 _ (tk_in hj)
   have HT : Hid (textA X.l s.1 = (tkA X.l s.1).2.1):=rfl
   generalize tkA X.l s.1 = t at *
   have j1 : (0 : Int) ≤ (s.1 : Int):=by omega
   have j2 : (s.1 : Int) < (X.toks.length : Int):=by omega
   go_quiet (fail)
   go_wp2
   exact bodyPost_ret (v:=.string ⟨t.2.1.toArray⟩) (by simp [results,Tryz.results40,go_sem]) rfl ⟨by rw [HX.out,HT.out],hB.drewN _,HX.out ▸ H2.of_blocks rfl rfl (Nat.le_refl _)⟩
  | false =>
   rw [hm] at hkq
   have hk1 : kindRd X s ≠ 1:=by simpa using hkq
   have HX : Hid (nameV X.l s = ([],badV s)):=Lib.hid (by simp [nameV,hm])
   generalize kindRd X s = kk at *
   clear hm hkq
   go_enter Tryz.func40,Tryz.ntmps40
   go_wp2_with fail
   refine cK.mono ?_
   rintro e w1 ⟨rfl,hb⟩
   have H1:=H.below hb (Nat.le_refl _)
   have c2:=H1.c2
   have f2:=H1.fz 2
   have H2:=H1.bad
   have hB : But X.P w.heap.size w (w1.setCell ⟨X.P,2,none⟩ (.bool true)):=(But.of_below hb).setCell (p:=⟨X.P,2,none⟩) (.inl rfl) _
   clear cK
   go_wp2
   exact bodyPost_ret (v:=.string ⟨([] : List UInt8).toArray⟩) (by simp [results,Tryz.results40,go_sem]) rfl ⟨by rw [HX.out],hB,HX.out ▸ H2⟩
end Go.Proofs.YtnkphlkjhgngkaaGreatDoor

namespace Go.Proofs.YtnkphlkjhgngkaaGreatDoor
open Go.RowKit
/-- What a part of the reader that answers a tree leaves. -/
def OutR (X : Px) (w : World) (h : Bool) (r : Tr × Sg) (e : Ending) (w' : World) : Prop:=match r with
  | (t,s) => But X.P w.heap.size w w' ∧ Rdr X w' s h ∧ ∃ sl,e = .returned (tv t sl) ∧ KT w' (Rg w.heap.size w'.heap.size) t sl
/-- What a part of the reader that answers a list of trees leaves. -/
def OutRL (X : Px) (w : World) (s0 : Sg) (h : Bool) (r : List Tr × Sg) (e : Ending) (w' : World) : Prop:=match r with
  | (ts,s) => But X.P w.heap.size w w' ∧ Rdr X w' s h ∧ ts.length ≤ s.1 - s0.1 + 1 ∧ ∃ v,e = .returned v ∧ OwnL w' w.heap.size v ts
/-- A walk that began in w with the box of its result stands in W. -/
structure Sd (X : Px) (w W : World) (s : Sg) (h : Bool) : Prop where
  but : But X.P w.heap.size w W
  rdr : Rdr X W s h
  box : Box W w.heap.size
  plt : X.P < w.heap.size
  tlt : X.tb < w.heap.size
section
variable {X : Px} {w W W' : World} {s s' : Sg} {h g : Bool} {t : Tr} {sl v : Value} {ts : List Tr} {m : Nat} {k num : Int} {x : List UInt8} {V : Value}
theorem OutR.of {r r' : Tr × Sg} {e : Ending} (hr : Hid (r = r')) (o : OutR X w h r' e W) : OutR X w h r e W:=by
 have:=hr.out; subst this; exact o
theorem OutRL.of {r r' : List Tr × Sg} {e : Ending} (hr : Hid (r = r')) (o : OutRL X w s h r' e W) : OutRL X w s h r e W:=by
 have:=hr.out; subst this; exact o
theorem Sd.first (H : Rdr X w s h) : ∃ W,w.alloc (.cells #[.int .i64 0,.string ⟨#[]⟩,.int .i64 0,.slice none 0 0] 24) = W ∧ Sd X w W s h :=
  ⟨_,rfl,(But.refl _ _ _).alloc (Nat.le_refl _) _,H.alloc _,Box.new _ _ _ _ _,H.plt,H.tlt⟩
theorem Sd.lt (S : Sd X w W s h) : w.heap.size < W.heap.size:=S.box.lt
theorem Sd.call (S : Sd X w W s h) (hb : But X.P W.heap.size W W') (H : Rdr X W' s' g) : Sd X w W' s' g :=
  ⟨S.but.trans (hb.mono (Nat.le_of_lt S.lt)),H,S.box.later hb S.lt (by have:=S.plt; omega),S.plt,S.tlt⟩
theorem Sd.below (S : Sd X w W s h) (hb : Below W.heap.size W W') : Sd X w W' s h:=S.call (But.of_below hb) (S.rdr.below hb (Nat.le_refl _))
theorem Sd.alloc (S : Sd X w W s h) (o : Obj) : Sd X w (W.alloc o) s h:=S.call ((But.refl _ _ _).alloc (Nat.le_refl _) o) (S.rdr.alloc o)
theorem but_alloc (W : World) (P : Nat) (o : Obj) : But P W.heap.size W (W.alloc o):=(But.refl _ _ _).alloc (Nat.le_refl _) o
theorem but_set (W : World) (P B o : Nat) (u : Value) : But P B W (W.setCell ⟨P,o,none⟩ u):=(But.refl _ _ _).setCell (p:=⟨P,o,none⟩) (.inl rfl) u
theorem Sd.drew (S : Sd X w W s h) : Sd X w W.drew s h:=⟨S.but.drew,S.rdr.of_blocks rfl rfl (Nat.le_refl _),S.box.of_block rfl,S.plt,S.tlt⟩
theorem Tre.mv (T : Tre w W t sl) (S : Sd X w W s h) (hb : But X.P W.heap.size W W') : Tre w W' t sl :=
  KT.fr T (fun b hb' => hb.block b hb'.2 (by have:=S.plt; omega)) (fun b hb' => ⟨hb'.1,by have:=hb.size; omega⟩)
theorem Tre.newD (S : Sd X w W s h) (hk : KT W' (Rg W.heap.size W'.heap.size) t sl) : Tre w W' t sl:=hk.fr (Fr.refl _ _) (fun b hb => ⟨by have:=S.lt; omega,hb.2⟩)
theorem Own.mv (T : Own w W v ts) (S : Sd X w W s h) (hb : But X.P W.heap.size W W') : Own w W' v ts:=OwnL.but T hb (Nat.le_refl _) (by have:=S.plt; omega)
theorem Own.newD (S : Sd X w W s h) (hk : OwnL W' W.heap.size v ts) : Own w W' v ts:=OwnL.wide hk (by have:=S.lt; omega)
theorem Own.one1 (S : Sd X w W s h) {t1 : Tr} {s1 : Value} (T1 : Tre w W t1 s1) :
    Own w (W.alloc (.cells #[.int .i64 t1.kind,.string ⟨t1.text.toArray⟩,.int .i64 t1.num,s1] 24)) (.slice (some ⟨W.heap.size,0,none⟩) 1 1) [t1] :=
  OwnL.made (ts:=[t1]) (sls:=[s1]) S.lt (by simp only [KL]; exact ⟨s1,[],rfl,T1,rfl⟩) rfl (by simp)
theorem Own.one2 (S : Sd X w W s h) {t1 t2 : Tr} {s1 s2 : Value} (T1 : Tre w W t1 s1) (T2 : Tre w W t2 s2) :
    Own w (W.alloc (.cells #[.int .i64 t1.kind,.string ⟨t1.text.toArray⟩,.int .i64 t1.num,s1,.int .i64 t2.kind,.string ⟨t2.text.toArray⟩,.int .i64 t2.num,s2] 24)) (.slice (some ⟨W.heap.size,0,none⟩) 2 2) [t1,t2] :=
  OwnL.made (ts:=[t1,t2]) (sls:=[s1,s2]) S.lt (by simp only [KL]; exact ⟨s1,[s2],rfl,T1,s2,[],rfl,T2,rfl⟩) rfl (by simp)
theorem NBox.mv (T : NBox X w W m k x num V ts) (S : Sd X w W s h) (hb : But X.P W.heap.size W W') : NBox X w W' m k x num V ts :=
  T.later hb.size (fun b h1 h2 => hb.block b h2 (by have:=S.plt; omega))
theorem Sd.put (S : Sd X w W s h) {Wf : World} (hput : Put m W Wf) (hm : w.heap.size < m) : Sd X w Wf s h:=by
 have hp:=S.plt
 have ht:=S.tlt
 exact ⟨S.but.put hput (.inr (by omega)),S.rdr.put hput (by omega) (by omega),S.box.of_block (hput.block _ (by omega)),hp,ht⟩
theorem Sd.grown (S : Sd X w W s h) {row : Option Nat} (hg : W.grownBy W' row) (hr : ∀ q,row = some q → w.heap.size + 1 ≤ q) : Sd X w W' s h:=by
 have hp:=S.plt
 have ht:=S.tlt
 have hl:=S.lt
 refine ⟨S.but.grown hg (by omega) (fun q e => by have:=hr q e; omega),S.rdr.grown hg (fun e => by have:=hr _ e.symm; omega) (fun e => by have:=hr _ e.symm; omega),S.box.of_block (hg.block _ hl (fun e => by have:=hr _ e.symm; omega)),hp,ht⟩
theorem Sd.done (S : Sd X w W s h) (T : Tre w W t sl) {Wf : World} (hput : Put w.heap.size W Wf) : OutR X w h (t,s) (.returned (tv t sl)) Wf:=by
 have hp:=S.plt
 have ht:=S.tlt
 have hz:=hput.size
 exact ⟨S.but.put hput (.inr (Nat.le_refl _)),S.rdr.put hput (by omega) (by omega),sl,rfl,KT.fr T (fun b hb => hput.block b (by omega)) (fun b hb => ⟨by omega,by omega⟩)⟩
/-- The box is written: its number. -/
theorem NBox.setNum (T : NBox X w W m k x num V ts) (num' : Int) : NBox X w (W.setCell ⟨m,2,none⟩ (.int .i64 num')) m k x num' V ts :=
  ⟨(heap_setCell_same W m 2 _ T.blk).trans rfl,T.lt,by
    obtain ⟨sls,h1,h2,h3⟩:=T.own
    have hp:=(Put.refl m W).setCell 2 (.int .i64 num')
    refine ⟨sls,?_,h2.fr (fun b hb => hp.block b hb.2) (fun b hb => ⟨⟨⟨hb.1.1.1,by rw [hp.size]; exact hb.1.1.2⟩,hb.1.2⟩,hb.2⟩),h3⟩
    refine ⟨h1.1,?_⟩
    rcases h1.2 with hn | ⟨g,cap,cur,rfl,hb,hg,rest⟩
    · exact .inl hn
    · exact .inr ⟨g,cap,cur,rfl,hb,(hp.block g (h3 g rfl)).trans hg,rest⟩⟩
theorem OwnQ.putQ {w w' : World} {B m : Nat} {v : Value} {ts : List Tr} (h : OwnQ (fun b => b ≠ m) w B v ts) (hp : Put m w w') : OwnQ (fun b => b ≠ m) w' B v ts:=by
 obtain ⟨sls,h1,h2,h3⟩:=h
 refine ⟨sls,?_,h2.fr (fun b hb => hp.block b hb.2) (fun b hb => ⟨⟨⟨hb.1.1.1,by rw [hp.size]; exact hb.1.1.2⟩,hb.1.2⟩,hb.2⟩),h3⟩
 refine ⟨h1.1,?_⟩
 rcases h1.2 with hn | ⟨g,cap,cur,rfl,hb,hg,rest⟩
 · exact .inl hn
 · exact .inr ⟨g,cap,cur,rfl,hb,(hp.block g (h3 g rfl)).trans hg,rest⟩
/-- Its kids. -/
theorem NBox.setKids {V' : Value} {ts' : List Tr} (hblk : W.heap[m]? = some (.cells #[.int .i64 k,.string ⟨x.toArray⟩,.int .i64 num,V] 24 (0,0))) (hlt : w.heap.size < m) (hO : OwnQ (fun b => b ≠ m) W (w.heap.size + 1) V' ts') : NBox X w (W.setCell ⟨m,3,none⟩ V') m k x num V' ts' :=
  ⟨(heap_setCell_same W m 3 _ hblk).trans rfl,hlt,hO.putQ ((Put.refl m W).setCell 3 V')⟩
theorem NBox.setKind (T : NBox X w W m k x num V ts) (k' : Int) : NBox X w (W.setCell ⟨m,0,none⟩ (.int .i64 k')) m k' x num V ts :=
  ⟨(heap_setCell_same W m 0 _ T.blk).trans rfl,T.lt,T.own.putQ ((Put.refl m W).setCell 0 _)⟩
theorem NBox.setText (T : NBox X w W m k x num V ts) (x' : List UInt8) : NBox X w (W.setCell ⟨m,1,none⟩ (.string ⟨x'.toArray⟩)) m k x' num V ts :=
  ⟨(heap_setCell_same W m 1 _ T.blk).trans rfl,T.lt,T.own.putQ ((Put.refl m W).setCell 1 _)⟩
/-- A list that was made behind the box keeps clear of it. -/
theorem OwnQ.newD {C : Nat} (hk : OwnL W' C v ts) (hC : m < C) (hw : w.heap.size + 1 ≤ C) : OwnQ (fun b => b ≠ m) W' (w.heap.size + 1) v ts:=by
 have:=OwnQ.of (Q:=fun b => b ≠ m) hk (fun b hb _ => by omega)
 obtain ⟨sls,h1,h2,h3⟩:=this
 exact ⟨sls,h1.mono hw,h2.fr (Fr.refl _ _) (fun b hb => ⟨⟨⟨by omega,hb.1.1.2⟩,hb.1.2⟩,hb.2⟩),h3⟩
end
theorem nowX_any (X : Px) (w : World) (s : Sg) (h : Bool) (H : Rdr X w s h) (x : List UInt8) (hx : nowV X.l s = x) : Calls Tryz.prog 73 #[X.p] w fun e w' => e = .returned (.string ⟨x.toArray⟩) ∧ Below w.heap.size w w':=hx ▸ nowS_any X w s h H
theorem kindX_any (X : Px) (w : World) (s : Sg) (h : Bool) (H : Rdr X w s h) (k : Int) (hk : kindRd X s = k) : Calls Tryz.prog 74 #[X.p] w fun e w' => e = .returned (.int .i64 k) ∧ Below w.heap.size w w':=hk ▸ kindS_any X w s h H
theorem now_of {l : List Tk} {s : Sg} {m : List UInt8} (h : isV l s m = true) : nowV l s = m:=by simpa [isV] using h
theorem now_no {l : List Tk} {s : Sg} {m x : List UInt8} (hx : nowV l s = x) (h : isV l s m = false) : (x == m) = false:=by rw [← hx]; exact h
/-- What the parts that come to themselves again do, with n steps at hand. -/
structure GoodR (X : Px) (n : Nat) : Prop where
  typ : ∀ w s h,Rdr X w s h → mS X.toks.length s + 1 ≤ n → Calls Tryz.prog 43 #[X.p] w (OutR X w h ((vs X.l n).typ s))
  bin : ∀ w s h (least : Int),Rdr X w s h → 1 ≤ least → least ≤ 6 → mS X.toks.length s + 2 ≤ n → Calls Tryz.prog 163 #[X.p,.int .i64 least] w (OutR X w h ((vs X.l n).bin h least s))
  una : ∀ w s h,Rdr X w s h → mS X.toks.length s + 1 ≤ n → Calls Tryz.prog 176 #[X.p] w (OutR X w h ((vs X.l n).una h s))
  blk : ∀ w s h,Rdr X w s h → mS X.toks.length s + 1 ≤ n → Calls Tryz.prog 44 #[X.p] w (OutR X w h ((vs X.l n).blk s))
/-- What a statement does. -/
def StmR (X : Px) (n : Nat) : Prop:=∀ w s,Rdr X w s false → mS X.toks.length s + 2 ≤ n → Calls Tryz.prog 77 #[X.p] w (OutR X w false (stmV X.l (vs X.l n) s))
end Go.Proofs.YtnkphlkjhgngkaaGreatDoor

namespace Go.Proofs.YtnkphlkjhgngkaaGreatDoor
open Go.RowKit
/-- Where the reader stands. -/
def posR (X : Px) (w : World) : Nat:=match w.cell? ⟨X.P,1,none⟩ with
  | some (.int _ i) => i.toNat
  | _ => 0
theorem Rdr.pos {X : Px} {w : World} {s : Sg} {h : Bool} (H : Rdr X w s h) : posR X w = s.1:=by simp [posR,H.c1]
theorem commaV_stop {l : List Tk} {pr : Sg → Tr × Sg} {f : Nat} {acc : List Tr} {k : Sg} (hf : 0 < f) (hm : isV l k [44] = false) : commaV l pr f acc k = (acc,k):=by
 match f,hf with
 | f + 1,_ => simp [commaV,takeV,hm,bindV]
theorem commaV_step {l : List Tk} {pr : Sg → Tr × Sg} {f : Nat} {acc : List Tr} {k j : Sg} {t : Tr} (hf : 0 < f) (hm : isV l k [44] = true) (hp : pr (stepV k) = (t,j)) : commaV l pr f acc k = commaV l pr (f - 1) (acc ++ [t]) j:=by
 match f,hf with
 | f + 1,_ => simp [commaV,takeV,hm,bindV,hp]
set_option maxRecDepth 20000 in
set_option maxHeartbeats 800000 in
theorem rexpr_any (X : Px) (n : Nat) (A : GoodR X n) (w : World) (s : Sg) (h : Bool) (H : Rdr X w s h) (hn : mS X.toks.length s + 2 ≤ n) :
    Calls Tryz.prog 138 #[X.p] w (OutR X w h (exprV (vs X.l n) h s)):=by
  obtain ⟨W0,hW0,S0⟩:=Sd.first H
  have c:=A.bin W0 s h 1 S0.rdr (by decide) (by decide) hn
  rcases hp : (vs X.l n).bin h 1 s with ⟨t,s1⟩
  rw [hp] at c
  have HR : Hid (exprV (vs X.l n) h s = (t,s1)):=hp
  clear hp
  go_enter Tryz.func138,Tryz.ntmps138
  go_wp2_with fail
  refine c.mono ?_
  rintro e w1 ⟨hb1,H1,sl,rfl,hk⟩
  obtain ⟨ao,n1,c1,rfl⟩:=hk.slice
  have S1:=S0.call hb1 H1
  have T1:=Tre.newD S0 hk
  clear c hk
  obtain ⟨u0,u1,u2,u3,b0,b1,b2,b3,bf⟩:=S1.box.open
  have bf0:=bf 0
  have bf1:=bf 1
  have bf2:=bf 2
  have bf3:=bf 3
  clear bf
  go_wp2
  obtain ⟨Wf,hWf,hput,_,d0,d1,d2,d3⟩:=putN4 S1.box (.int .i64 t.kind) (.string ⟨t.text.toArray⟩) (.int .i64 t.num) (.slice ao n1 c1)
  rw [hWf]
  exact bodyPost_ret (v:=.agg #[.int .i64 t.kind,.string ⟨t.text.toArray⟩,.int .i64 t.num,.slice ao n1 c1]) (by simp [results,Tryz.results138,go_sem,d0,d1,d2,d3]) rfl (OutR.of HR (S1.done T1 hput))
set_option maxRecDepth 20000 in
set_option maxHeartbeats 1600000 in
theorem rtypes_any (X : Px) (n : Nat) (A : GoodR X n) (w : World) (s : Sg) (h : Bool) (H : Rdr X w s h) (hn : mS X.toks.length s + 1 ≤ n) :
    Calls Tryz.prog 76 #[X.p] w (OutRL X w s h (commasV X.l (vs X.l n).typ s)):=by
  have hpl:=H.plt
  have htl:=H.tlt
  have cI0 : ∀ w1 k,Up s k → Rdr X w1 k h → Calls Tryz.prog 43 #[X.p] w1 (OutR X w1 h ((vs X.l n).typ k)):=fun w1 k hk H1 => A.typ w1 k h H1 (by have:=hk.mS (n:=X.toks.length); omega)
  have HI:=Lib.hid cI0
  have HU : Hid (∀ s,Up s ((vs X.l n).typ s).2):=Lib.hid ((upV X.l n).typ)
  clear cI0
  generalize (vs X.l n).typ = pr at *
  have cT:=HI.out w s (Up.refl s) H
  rcases hp0 : pr s with ⟨t0,s0⟩
  rw [hp0] at cT
  have u0 : Up s s0:=by have:=HU.out s; rw [hp0] at this; exact this
  have ua0:=u0.at_
  have HS : Hid (commasV X.l pr s = commaV X.l pr (X.l.length + 1) [t0] s0):=Lib.hid (by simp [commasV,hp0,bindV])
  clear hp0
  go_enter Tryz.func76,Tryz.ntmps76
  go_wp2_with fail
  refine cT.mono ?_
  rintro e w0 ⟨hb0,H00,sl0,rfl,hk0⟩
  have hz0:=hb0.size
  clear cT
  obtain ⟨ao0,n0,cap0,rfl⟩:=hk0.slice
  have hO0 : OwnL (w0.alloc (.cells #[.int .i64 t0.kind,.string ⟨t0.text.toArray⟩,.int .i64 t0.num,.slice ao0 n0 cap0] 24)) w.heap.size (.slice (some ⟨w0.heap.size,0,none⟩) 1 1) [t0]:=OwnL.one hz0 hk0 (Nat.le_refl _) (Nat.le_refl _)
  have hB0 : But X.P w.heap.size w (w0.alloc (.cells #[.int .i64 t0.kind,.string ⟨t0.text.toArray⟩,.int .i64 t0.num,.slice ao0 n0 cap0] 24)):=hb0.alloc hz0 _
  have H0 : Rdr X (w0.alloc (.cells #[.int .i64 t0.kind,.string ⟨t0.text.toArray⟩,.int .i64 t0.num,.slice ao0 n0 cap0] 24)) s0 h:=H00.alloc _
  clear hk0
  go_wp2_with fail
  go_loopw [3] (fun v wr => ∃ (k : Sg) (fu : Nat) (acc : List Tr) (ao : Option Addr) (cv : Nat),v = .slice ao acc.length cv ∧ OwnL wr w.heap.size (.slice ao acc.length cv) acc ∧ But X.P w.heap.size w wr ∧ Rdr X wr k h ∧ (acc.length ≤ k.1 - s.1 + 1 ∧ Up s k) ∧ Hid (X.l.length - k.1 < fu ∧ commasV X.l pr s = commaV X.l pr fu acc k)) (fun _ wr => X.l.length - posR X wr)
  case atStart => exact ⟨s0,X.l.length + 1,[t0],some ⟨w0.heap.size,0,none⟩,1,rfl,hO0,hB0,H0,⟨by simp,u0⟩,by omega,HS.out⟩
  case round =>
   obtain ⟨k,fu,acc,ao,cv,rfl,hown,hbr,Hk,⟨hik,hUk⟩,HF⟩:=hrel
   clear HS hO0 hB0 H0 H00
   have hzr:=hbr.size
   cases hm : isV X.l k [44] with
   | false =>
    have cI:=rtake_no X wr k h Hk [44] hm
    have HX : Hid (commasV X.l pr s = (acc,k)):=HF.out.2.trans (commaV_stop (by have:=HF.out.1; omega) hm)
    clear hm
    go_wp2_with fail
    refine cI.mono ?_
    rintro e w1 ⟨rfl,hb1,H1⟩
    go_wp2
    go_ret
    exact OutRL.of HX ⟨hbr.trans (hb1.mono hzr),H1,hik,_,rfl,hown.but hb1 (Nat.le_refl _) (by omega)⟩
   | true =>
    have cI:=rtake_yes X wr k h Hk [44] (by decide) hm
    have hlt:=(isV_at (by decide) hm Hk.le).2
    have HM:=Lib.hid hm
    clear hm
    go_wp2_with fail
    refine cI.mono ?_
    rintro e w1 ⟨rfl,hb1,H1⟩
    have hz1:=hb1.size
    have hB1 : But X.P w.heap.size w w1:=hbr.trans (hb1.mono hzr)
    have hown1:=hown.but hb1 (Nat.le_refl _) (by omega)
    have hU1 : Up s (stepV k):=hUk.trans (su_step k).up
    have cT:=HI.out w1 (stepV k) hU1 H1
    rcases hp : pr (stepV k) with ⟨t,j⟩
    rw [hp] at cT
    have hUj : Up (stepV k) j:=by have:=HU.out (stepV k); rw [hp] at this; exact this
    have hxa : k.1 + 1 ≤ j.1:=hUj.at_
    have hxs : s.1 ≤ k.1:=hUk.at_
    clear cI
    go_wp2_with fail
    refine cT.mono ?_
    rintro e w2 ⟨hb2,H2,sl,rfl,hk⟩
    have hz2:=hb2.size
    have hB2 : But X.P w.heap.size w w2:=hB1.trans (hb2.mono (by omega))
    clear cT
    obtain ⟨ao2,n2,cap2,rfl⟩:=hk.slice
    have hlj:=H2.le
    have hXl:=X.length
    have HX : Hid (X.l.length - j.1 < fu - 1 ∧ commasV X.l pr s = commaV X.l pr (fu - 1) (acc ++ [t]) j):=⟨by have:=HF.out.1; omega,HF.out.2.trans (commaV_step (by have:=HF.out.1; omega) HM.out hp)⟩
    clear hp HF
    obtain ⟨sls,hown2,hkl⟩:=hown1
    have hl1:=hown2.lt
    have hown3 : (w2.alloc (.cells #[.int .i64 t.kind,.string ⟨t.text.toArray⟩,.int .i64 t.num,.slice ao2 n2 cap2] 24)).ownsRow w.heap.size 24 4 (.slice ao acc.length cv) acc.length (cellsOf acc sls) :=
      (ownsRow_fr (fun b hb1 hb2' => hb2.block b hb2' (by omega)) hown2).alloc _
    have hkl3 : KL (w2.alloc (.cells #[.int .i64 t.kind,.string ⟨t.text.toArray⟩,.int .i64 t.num,.slice ao2 n2 cap2] 24)) (fun b => (w.heap.size ≤ b ∧ b < w1.heap.size) ∧ some b ≠ (Value.slice ao acc.length cv).ownBlock) acc sls :=
      hkl.fr (((Fr.refl _ _).but hb2 (fun b hb => ⟨hb.1.2,by omega⟩)).alloc (fun b hb => by omega) _) (fun _ hb => hb)
    have hkt3 : KT (w2.alloc (.cells #[.int .i64 t.kind,.string ⟨t.text.toArray⟩,.int .i64 t.num,.slice ao2 n2 cap2] 24)) (Rg w1.heap.size w2.heap.size) t (.slice ao2 n2 cap2) :=
      hk.fr ((Fr.refl _ _).alloc (fun b hb => hb.2) _) (fun _ hb => hb)
    have H3 : Rdr X (w2.alloc (.cells #[.int .i64 t.kind,.string ⟨t.text.toArray⟩,.int .i64 t.num,.slice ao2 n2 cap2] 24)) j h:=H2.alloc _
    have hB3 : But X.P w.heap.size w (w2.alloc (.cells #[.int .i64 t.kind,.string ⟨t.text.toArray⟩,.int .i64 t.num,.slice ao2 n2 cap2] 24)):=hB2.alloc (by omega) _
    have hbd:=H2.bnd
    obtain ⟨i0,hi,hz0,hzz1,hzz2⟩:=info_parts Tryz.info24
    clear hown2 hkl hk hown hXl
    go_wp2_with (at_builtin; refine wpList_append_lies _ rfl _ _ 22 rfl w.heap.size 24 i0 _ 4 56 Tryz.underlying22 hi hz0 hzz1 hzz2 rfl (by decide) _ _ _ rfl hown3 ⟨w2.heap.size,0,none⟩ 1 1 [.int .i64 t.kind,.string ⟨t.text.toArray⟩,.int .i64 t.num,.slice ao2 n2 cap2] rfl rfl ?c1 ?c2 (by decide) ?c3 ?c4 ?c5 (w2.heap.size + 1) ?c6 ?_)
    case c1 =>
     intro j u hj
     match j,hj with
     | 0,hj => simp at hj; subst hj; simp [Addr.add]
     | 1,hj => simp at hj; subst hj; simp [Addr.add]
     | 2,hj => simp at hj; subst hj; simp [Addr.add]
     | 3,hj => simp at hj; subst hj; simp [Addr.add]
    case c2 => intro u hu; simp at hu; rcases hu with rfl | rfl | rfl | rfl <;> rfl
    case c3 => unfold maxLen; omega
    case c4 => omega
    case c5 => simp; omega
    case c6 => simp
    intro g cap w5 hown5 hgr5 hat5 hlt5
    have hz5:=hgr5.size
    rw [World.size_alloc] at hz5
    have hO : OwnL w5 w.heap.size (.slice (some ⟨g,0,none⟩) (acc.length + 1) cap) (acc ++ [t]) :=
      own_snoc (lo:=w1.heap.size) (hi:=w2.heap.size) hkl3 hkt3 (by omega) (by simp; omega) (fun k hk => (hl1 k hk).2) (by simp) hown5 hgr5 (by simpa using hat5) rfl
    have hB5 : But X.P w.heap.size w w5:=hB3.grown hgr5 (by simp; omega) (fun k hk => (hl1 k hk).1)
    have H5 : Rdr X w5 j h:=H3.grown hgr5 (fun e => by have:=(hl1 _ e.symm).1; omega) (fun e => by have:=(hl1 _ e.symm).1; omega)
    clear hown3 hkl3 hkt3 H3 hB3 hown5 hgr5 hat5 hi hz0 hzz1 hzz2 i0 hl1
    go_wp2
    go_roundw
    case rel => exact ⟨j,fu - 1,acc ++ [t],some ⟨g,0,none⟩,cap,by simp,by simpa using hO,hB5,H5,⟨by simp; omega,hU1.trans hUj⟩,HX⟩
    case measure => rw [H5.pos,Hk.pos,X.length]; omega
set_option maxRecDepth 20000 in
set_option maxHeartbeats 1600000 in
theorem rexprs_any (X : Px) (n : Nat) (A : GoodR X n) (w : World) (s : Sg) (h : Bool) (H : Rdr X w s h) (hn : mS X.toks.length s + 2 ≤ n) :
    Calls Tryz.prog 139 #[X.p] w (OutRL X w s h (commasV X.l (exprV (vs X.l n) h) s)):=by
  have hpl:=H.plt
  have htl:=H.tlt
  have cI0 : ∀ w1 k,Up s k → Rdr X w1 k h → Calls Tryz.prog 138 #[X.p] w1 (OutR X w1 h ((exprV (vs X.l n) h) k)):=fun w1 k hk H1 => rexpr_any X n A w1 k h H1 (by have:=hk.mS (n:=X.toks.length); omega)
  have HI:=Lib.hid cI0
  have HU : Hid (∀ s,Up s ((exprV (vs X.l n) h) s).2):=Lib.hid (fun s => (upV X.l n).bin h 1 s)
  clear cI0
  generalize (exprV (vs X.l n) h) = pr at *
  have cT:=HI.out w s (Up.refl s) H
  rcases hp0 : pr s with ⟨t0,s0⟩
  rw [hp0] at cT
  have u0 : Up s s0:=by have:=HU.out s; rw [hp0] at this; exact this
  have ua0:=u0.at_
  have HS : Hid (commasV X.l pr s = commaV X.l pr (X.l.length + 1) [t0] s0):=Lib.hid (by simp [commasV,hp0,bindV])
  clear hp0
  go_enter Tryz.func139,Tryz.ntmps139
  go_wp2_with fail
  refine cT.mono ?_
  rintro e w0 ⟨hb0,H00,sl0,rfl,hk0⟩
  have hz0:=hb0.size
  clear cT
  obtain ⟨ao0,n0,cap0,rfl⟩:=hk0.slice
  have hO0 : OwnL (w0.alloc (.cells #[.int .i64 t0.kind,.string ⟨t0.text.toArray⟩,.int .i64 t0.num,.slice ao0 n0 cap0] 24)) w.heap.size (.slice (some ⟨w0.heap.size,0,none⟩) 1 1) [t0]:=OwnL.one hz0 hk0 (Nat.le_refl _) (Nat.le_refl _)
  have hB0 : But X.P w.heap.size w (w0.alloc (.cells #[.int .i64 t0.kind,.string ⟨t0.text.toArray⟩,.int .i64 t0.num,.slice ao0 n0 cap0] 24)):=hb0.alloc hz0 _
  have H0 : Rdr X (w0.alloc (.cells #[.int .i64 t0.kind,.string ⟨t0.text.toArray⟩,.int .i64 t0.num,.slice ao0 n0 cap0] 24)) s0 h:=H00.alloc _
  clear hk0
  go_wp2_with fail
  go_loopw [3] (fun v wr => ∃ (k : Sg) (fu : Nat) (acc : List Tr) (ao : Option Addr) (cv : Nat),v = .slice ao acc.length cv ∧ OwnL wr w.heap.size (.slice ao acc.length cv) acc ∧ But X.P w.heap.size w wr ∧ Rdr X wr k h ∧ (acc.length ≤ k.1 - s.1 + 1 ∧ Up s k) ∧ Hid (X.l.length - k.1 < fu ∧ commasV X.l pr s = commaV X.l pr fu acc k)) (fun _ wr => X.l.length - posR X wr)
  case atStart => exact ⟨s0,X.l.length + 1,[t0],some ⟨w0.heap.size,0,none⟩,1,rfl,hO0,hB0,H0,⟨by simp,u0⟩,by omega,HS.out⟩
  case round =>
   obtain ⟨k,fu,acc,ao,cv,rfl,hown,hbr,Hk,⟨hik,hUk⟩,HF⟩:=hrel
   clear HS hO0 hB0 H0 H00
   have hzr:=hbr.size
   cases hm : isV X.l k [44] with
   | false =>
    have cI:=rtake_no X wr k h Hk [44] hm
    have HX : Hid (commasV X.l pr s = (acc,k)):=HF.out.2.trans (commaV_stop (by have:=HF.out.1; omega) hm)
    clear hm
    go_wp2_with fail
    refine cI.mono ?_
    rintro e w1 ⟨rfl,hb1,H1⟩
    go_wp2
    go_ret
    exact OutRL.of HX ⟨hbr.trans (hb1.mono hzr),H1,hik,_,rfl,hown.but hb1 (Nat.le_refl _) (by omega)⟩
   | true =>
    have cI:=rtake_yes X wr k h Hk [44] (by decide) hm
    have hlt:=(isV_at (by decide) hm Hk.le).2
    have HM:=Lib.hid hm
    clear hm
    go_wp2_with fail
    refine cI.mono ?_
    rintro e w1 ⟨rfl,hb1,H1⟩
    have hz1:=hb1.size
    have hB1 : But X.P w.heap.size w w1:=hbr.trans (hb1.mono hzr)
    have hown1:=hown.but hb1 (Nat.le_refl _) (by omega)
    have hU1 : Up s (stepV k):=hUk.trans (su_step k).up
    have cT:=HI.out w1 (stepV k) hU1 H1
    rcases hp : pr (stepV k) with ⟨t,j⟩
    rw [hp] at cT
    have hUj : Up (stepV k) j:=by have:=HU.out (stepV k); rw [hp] at this; exact this
    have hxa : k.1 + 1 ≤ j.1:=hUj.at_
    have hxs : s.1 ≤ k.1:=hUk.at_
    clear cI
    go_wp2_with fail
    refine cT.mono ?_
    rintro e w2 ⟨hb2,H2,sl,rfl,hk⟩
    have hz2:=hb2.size
    have hB2 : But X.P w.heap.size w w2:=hB1.trans (hb2.mono (by omega))
    clear cT
    obtain ⟨ao2,n2,cap2,rfl⟩:=hk.slice
    have hlj:=H2.le
    have hXl:=X.length
    have HX : Hid (X.l.length - j.1 < fu - 1 ∧ commasV X.l pr s = commaV X.l pr (fu - 1) (acc ++ [t]) j):=⟨by have:=HF.out.1; omega,HF.out.2.trans (commaV_step (by have:=HF.out.1; omega) HM.out hp)⟩
    clear hp HF
    obtain ⟨sls,hown2,hkl⟩:=hown1
    have hl1:=hown2.lt
    have hown3 : (w2.alloc (.cells #[.int .i64 t.kind,.string ⟨t.text.toArray⟩,.int .i64 t.num,.slice ao2 n2 cap2] 24)).ownsRow w.heap.size 24 4 (.slice ao acc.length cv) acc.length (cellsOf acc sls) :=
      (ownsRow_fr (fun b hb1 hb2' => hb2.block b hb2' (by omega)) hown2).alloc _
    have hkl3 : KL (w2.alloc (.cells #[.int .i64 t.kind,.string ⟨t.text.toArray⟩,.int .i64 t.num,.slice ao2 n2 cap2] 24)) (fun b => (w.heap.size ≤ b ∧ b < w1.heap.size) ∧ some b ≠ (Value.slice ao acc.length cv).ownBlock) acc sls :=
      hkl.fr (((Fr.refl _ _).but hb2 (fun b hb => ⟨hb.1.2,by omega⟩)).alloc (fun b hb => by omega) _) (fun _ hb => hb)
    have hkt3 : KT (w2.alloc (.cells #[.int .i64 t.kind,.string ⟨t.text.toArray⟩,.int .i64 t.num,.slice ao2 n2 cap2] 24)) (Rg w1.heap.size w2.heap.size) t (.slice ao2 n2 cap2) :=
      hk.fr ((Fr.refl _ _).alloc (fun b hb => hb.2) _) (fun _ hb => hb)
    have H3 : Rdr X (w2.alloc (.cells #[.int .i64 t.kind,.string ⟨t.text.toArray⟩,.int .i64 t.num,.slice ao2 n2 cap2] 24)) j h:=H2.alloc _
    have hB3 : But X.P w.heap.size w (w2.alloc (.cells #[.int .i64 t.kind,.string ⟨t.text.toArray⟩,.int .i64 t.num,.slice ao2 n2 cap2] 24)):=hB2.alloc (by omega) _
    have hbd:=H2.bnd
    obtain ⟨i0,hi,hz0,hzz1,hzz2⟩:=info_parts Tryz.info24
    clear hown2 hkl hk hown hXl
    go_wp2_with (at_builtin; refine wpList_append_lies _ rfl _ _ 22 rfl w.heap.size 24 i0 _ 4 56 Tryz.underlying22 hi hz0 hzz1 hzz2 rfl (by decide) _ _ _ rfl hown3 ⟨w2.heap.size,0,none⟩ 1 1 [.int .i64 t.kind,.string ⟨t.text.toArray⟩,.int .i64 t.num,.slice ao2 n2 cap2] rfl rfl ?c1 ?c2 (by decide) ?c3 ?c4 ?c5 (w2.heap.size + 1) ?c6 ?_)
    case c1 =>
     intro j u hj
     match j,hj with
     | 0,hj => simp at hj; subst hj; simp [Addr.add]
     | 1,hj => simp at hj; subst hj; simp [Addr.add]
     | 2,hj => simp at hj; subst hj; simp [Addr.add]
     | 3,hj => simp at hj; subst hj; simp [Addr.add]
    case c2 => intro u hu; simp at hu; rcases hu with rfl | rfl | rfl | rfl <;> rfl
    case c3 => unfold maxLen; omega
    case c4 => omega
    case c5 => simp; omega
    case c6 => simp
    intro g cap w5 hown5 hgr5 hat5 hlt5
    have hz5:=hgr5.size
    rw [World.size_alloc] at hz5
    have hO : OwnL w5 w.heap.size (.slice (some ⟨g,0,none⟩) (acc.length + 1) cap) (acc ++ [t]) :=
      own_snoc (lo:=w1.heap.size) (hi:=w2.heap.size) hkl3 hkt3 (by omega) (by simp; omega) (fun k hk => (hl1 k hk).2) (by simp) hown5 hgr5 (by simpa using hat5) rfl
    have hB5 : But X.P w.heap.size w w5:=hB3.grown hgr5 (by simp; omega) (fun k hk => (hl1 k hk).1)
    have H5 : Rdr X w5 j h:=H3.grown hgr5 (fun e => by have:=(hl1 _ e.symm).1; omega) (fun e => by have:=(hl1 _ e.symm).1; omega)
    clear hown3 hkl3 hkt3 H3 hB3 hown5 hgr5 hat5 hi hz0 hzz1 hzz2 i0 hl1
    go_wp2
    go_roundw
    case rel => exact ⟨j,fu - 1,acc ++ [t],some ⟨g,0,none⟩,cap,by simp,by simpa using hO,hB5,H5,⟨by simp; omega,hU1.trans hUj⟩,HX⟩
    case measure => rw [H5.pos,Hk.pos,X.length]; omega
set_option maxRecDepth 20000 in
set_option maxHeartbeats 800000 in
theorem runtil_any (X : Px) (n : Nat) (A : GoodR X n) (w : World) (s : Sg) (h : Bool) (H : Rdr X w s h) (m : List UInt8) (hm0 : m ≠ []) (hh : h = false) (hn : mS X.toks.length s + 2 ≤ n) :
    Calls Tryz.prog 181 #[X.p,.string ⟨m.toArray⟩] w (OutRL X w s h (untilV X.l (vs X.l n) m s)):=by
  subst hh
  cases hm : isV X.l s m with
  | true =>
   have HR : Hid (untilV X.l (vs X.l n) m s = ([],stepV s)):=Lib.hid (by simp [untilV,takeV,hm,bindV])
   have c:=rtake_yes X w s false H m hm0 hm
   clear hm
   go_enter Tryz.func181,Tryz.ntmps181
   go_wp2_with fail
   refine c.mono ?_
   rintro e w1 ⟨rfl,hb1,H1⟩
   go_wp2
   go_ret
   exact OutRL.of HR ⟨hb1,H1,by simp,_,rfl,OwnL.nil _ _⟩
  | false =>
   have c:=rtake_no X w s false H m hm
   rcases hp : exprsV X.l (vs X.l n) false s with ⟨ts,s1⟩
   have hu:=up_exprs (l:=X.l) (upV X.l n) false s
   rw [hp] at hu
   have HR : Hid (untilV X.l (vs X.l n) m s = (ts,needV X.l m s1)):=Lib.hid (by simp [untilV,takeV,hm,bindV,hp])
   have HP:=Lib.hid hp
   have hu2 : s1.1 ≤ (needV X.l m s1).1:=(su_need X.l m s1).up.at_
   clear hm hp
   go_enter Tryz.func181,Tryz.ntmps181
   go_wp2_with fail
   refine c.mono ?_
   rintro e w1 ⟨rfl,hb1,H1⟩
   have hz1:=hb1.size
   have c2:=rexprs_any X n A w1 s false H1 hn
   have HQ : Hid (commasV X.l (exprV (vs X.l n) false) s = (ts,s1)):=HP.out
   rw [HQ.out] at c2
   clear c HP HQ
   go_wp2_with fail
   refine c2.mono ?_
   rintro e w2 ⟨hb2,H2,hl2,v,rfl,hO⟩
   have hz2:=hb2.size
   obtain ⟨ao,cp,rfl⟩:=hO.slice
   have c3:=rneed_any X w2 s1 false H2 m hm0
   clear c2
   go_wp2_with fail
   refine c3.mono ?_
   rintro e w3 ⟨rfl,hb3,H3⟩
   have hpl:=H.plt
   go_wp2
   go_ret
   exact OutRL.of HR ⟨(hb1.trans (hb2.mono (by omega))).trans (hb3.mono (by omega)),H3,by omega,_,rfl,(hO.but hb3 (Nat.le_refl _) (by omega)).wide (by omega)⟩
end Go.Proofs.YtnkphlkjhgngkaaGreatDoor
