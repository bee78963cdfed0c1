/- The document's Parse. -/
import Derived.Test.YtnkphlkjhgngkaaGreatDoorRdVJt
import Derived.Test.YtnkphlkjhgngkaaGreatDoorRdWJt
import Derived.Test.YtnkphlkjhgngkaaGreatDoorRdPJt
import Derived.Test.YtnkphlkjhgngkaaGreatDoorRfAJt
import Derived.Test.YtnkphlkjhgngkaaGreatDoorRefKJt
import Derived.Test.YtnkphlkjhgngkaaGreatDoorParAAJt
namespace Go.Proofs.YtnkphlkjhgngkaaGreatDoor
open Go.RowKit
attribute [local go_sem ↓] Go.wp_at_zero Go.wp_at_succ
theorem rnode_eq (k : Int) (s : List UInt8) (ao : Option Addr) (n c : Nat) (w : World) :
    Calls Tryz.prog 23 #[.int .i64 k,.string ⟨s.toArray⟩,.slice ao n c] w fun e w' => e = .returned (.agg #[.int .i64 k,.string ⟨s.toArray⟩,.int .i64 0,.slice ao n c]) ∧ w' = w.alloc (.cells #[.int .i64 k,.string ⟨s.toArray⟩,.int .i64 0,.slice ao n c] 24):=by
  go_enter Tryz.func23,Tryz.ntmps23
  go_wp2
  exact bodyPost_ret (v:=.agg #[.int .i64 k,.string ⟨s.toArray⟩,.int .i64 0,.slice ao n c]) (by simp [results,Tryz.results23,go_sem]) rfl ⟨rfl,rfl⟩
theorem declsV_bad {l : List Tk} {p : Vs} {len f : Nat} {acc : List Tr} {k : Sg} (hf : 0 < f) (hb : k.2 = true) : declsV l p len f acc k = (acc,k):=by
 match f,hf with
 | f + 1,_ => simp [declsV,hb]
theorem declsV_stop {l : List Tk} {p : Vs} {len f : Nat} {acc : List Tr} {k : Sg} (hf : 0 < f) (hb : k.2 = false) (hm : ¬ k.1 < len) : declsV l p len f acc k = (acc,k):=by
 match f,hf with
 | f + 1,_ => simp [declsV,hb,hm]
theorem declsV_step {l : List Tk} {p : Vs} {len f : Nat} {acc : List Tr} {k j : Sg} {t : Tr} (hb : k.2 = false) (hm : k.1 < len) (hp : declV l p k = (t,j)) : declsV l p len (f + 1) acc k = declsV l p len f (acc ++ [t]) j:=by
 simp [declsV,hb,hm,bindV,hp]
theorem declsV_on {l : List Tk} {p : Vs} {len f : Nat} {acc : List Tr} {k j : Sg} {t : Tr} {R : List Tr × Sg} (hf : l.length - k.1 < f) (hb : k.2 = false) (hm : k.1 < len) (hp : declV l p k = (t,j)) (hs : Su k j) (hR : declsV l p len f acc k = R) (hj : j.1 < l.length) :
    ∃ f2,Hid (l.length - j.1 < f2 ∧ declsV l p len f2 (acc ++ [t]) j = R) ∧ (j.2 = false → k.1 < j.1):=by
  match f,hf with
  | f + 1,hf =>
   rw [declsV_step hb hm hp] at hR
   rcases hs.on with e | e
   · refine ⟨l.length + 1,⟨by omega,?_⟩,fun h => by rw [h] at e; cases e⟩
     rw [← hR,declsV_bad (by omega) e]
     cases f with
     | zero => exfalso; have:=hs.up.at_; omega
     | succ f => rw [declsV_bad (by omega) e]
   · exact ⟨f,⟨by omega,hR⟩,fun _ => e⟩
set_option maxRecDepth 20000 in
set_option maxHeartbeats 8000000 in
theorem rparse_any (s : ByteArray) (hs : s.size ≤ maxLen) (w0 : World) : Calls Tryz.prog 9 #[.string s] w0 (Parsed (parseP s.data.toList) w0):=by
 obtain ⟨W0,hW0⟩ : ∃ W,w0.alloc (.cells #[.int .i64 0,.string ⟨#[]⟩,.int .i64 0,.slice none 0 0] 24) = W:=⟨_,rfl⟩
 have hb0 : Below w0.heap.size w0 W0:=hW0 ▸ (Below.refl _ _).alloc (Nat.le_refl _) _
 have z01 : W0.heap.size ≤ w0.heap.size + 1:=by rw [← hW0]; simp
 have z02 : w0.heap.size + 1 ≤ W0.heap.size:=by rw [← hW0]; simp
 have bx0 : Box W0 w0.heap.size:=hW0 ▸ Box.new _ _ _ _ _
 have cS:=scanR_any s hs W0
 have hlen:=scanRes_len s.data.toList
 have HOK:=Lib.hid (scanRes_ok s.data.toList)
 have HL : Hid (s.data.toList.length = s.size):=Lib.hid (by simp)
 go_enter Tryz.func9,Tryz.ntmps9
 go_wp2_with fail
 refine cS.mono ?_
 rintro e w1 ⟨v,rfl,hO,hb1⟩
 have z1:=hb1.size
 have bx1:=bx0.below hb1 (by omega)
 have hB1 : Below w0.heap.size w0 w1:=hb0.trans (hb1.mono (by omega))
 clear cS
 obtain ⟨ao,c,rfl⟩:=owns_form hO
 by_cases he : (scanRes s.data.toList).2.2 = 0
 · have HP : Hid (parseP s.data.toList = match treeR ((scanRes s.data.toList).1 ++ [(4,[],0,s.data.toList.length)]) with
     | .bad j => (none,atA ((scanRes s.data.toList).1 ++ [(4,[],0,s.data.toList.length)]) j,3)
     | .ok t _ => if smallT t then (some t,0,0) else (none,0,4)):=Lib.hid (by simp [parseP,he]; rfl)
   have he' : ((scanRes s.data.toList).2.2 != 0) = false:=by simp [he]
   rw [HL.out] at HP
   generalize (scanRes s.data.toList).1 = toks at *
   generalize (scanRes s.data.toList).2.2 = er at *
   generalize (scanRes s.data.toList).2.1 = sat at *
   clear he
   rcases hO.2 with ⟨hv,e0⟩ | ⟨tb,cap,cur,hv,hgB,hgg,hcap,_,hsz,htk⟩
   · obtain rfl : toks = []:=List.eq_nil_of_length_eq_zero e0
     injection hv with hv1 hv2 hv3
     subst hv1 hv3
     have HR0 : Hid (readV ([] ++ [((4 : Int),([] : List UInt8),(0 : Int),s.size)]) ([] : List Tk).length = ([],(0,false))):=Lib.hid (by simp [readV,declsV])
     have HX : Hid (parseP s.data.toList = (some (.mk 1 [] 0 []),0,0)):=Lib.hid (HP.out.trans (by rw [tree_ok HOK.out HR0.out]; rfl))
     clear HP HR0 hO e0 hv2
     go_wp2_with fail
     refine (rnode_eq 1 [] none 0 0 _).mono ?_
     rintro e w2 ⟨rfl,rfl⟩
     have hB2 : Below w0.heap.size w0 ((w1.alloc (.cells #[.slice none 0 0,.int .i64 0,.bool false,.bool false] 50)).alloc (.cells #[.int .i64 1,.string ⟨([] : List UInt8).toArray⟩,.int .i64 0,.slice none 0 0] 24)):=(hB1.alloc hB1.size _).alloc (by simp; have:=hB1.size; omega) _
     have r0 : ((w1.alloc (.cells #[.slice none 0 0,.int .i64 0,.bool false,.bool false] 50)).alloc (.cells #[.int .i64 1,.string ⟨([] : List UInt8).toArray⟩,.int .i64 0,.slice none 0 0] 24)).heap[w1.heap.size]? = some (.cells #[.slice none 0 0,.int .i64 0,.bool false,.bool false] 50 (0,0)):=(Below.heap_alloc _ _ _ (by simp)).trans (heap_alloc_new w1 _)
     have bx2 : Box ((w1.alloc (.cells #[.slice none 0 0,.int .i64 0,.bool false,.bool false] 50)).alloc (.cells #[.int .i64 1,.string ⟨([] : List UInt8).toArray⟩,.int .i64 0,.slice none 0 0] 24)) w0.heap.size:=(bx1.of_block (Below.heap_alloc _ _ _ bx1.lt)).of_block (Below.heap_alloc _ _ _ (by simp; have:=bx1.lt; omega))
     have lP : w1.heap.size < ((w1.alloc (.cells #[.slice none 0 0,.int .i64 0,.bool false,.bool false] 50)).alloc (.cells #[.int .i64 1,.string ⟨([] : List UInt8).toArray⟩,.int .i64 0,.slice none 0 0] 24)).heap.size:=by simp; omega
     generalize ((w1.alloc (.cells #[.slice none 0 0,.int .i64 0,.bool false,.bool false] 50)).alloc (.cells #[.int .i64 1,.string ⟨([] : List UInt8).toArray⟩,.int .i64 0,.slice none 0 0] 24)) = w2 at *
     have rc : ∀ o,(w2.alloc (.cells #[.int .i64 1,.string ⟨([] : List UInt8).toArray⟩,.int .i64 0,.slice none 0 0] 24)).cell? ⟨w1.heap.size,o,none⟩ = w2.cell? ⟨w1.heap.size,o,none⟩:=fun o => World.cell?_of_block (w:=w2) (a:=⟨w1.heap.size,o,none⟩) (Below.heap_alloc _ _ _ lP)
     have r1 : (w2.alloc (.cells #[.int .i64 1,.string ⟨([] : List UInt8).toArray⟩,.int .i64 0,.slice none 0 0] 24)).cell? ⟨w1.heap.size,1,none⟩ = some (.int .i64 0):=(rc 1).trans (by simp [World.cell?,r0])
     have r2 : (w2.alloc (.cells #[.int .i64 1,.string ⟨([] : List UInt8).toArray⟩,.int .i64 0,.slice none 0 0] 24)).cell? ⟨w1.heap.size,2,none⟩ = some (.bool false):=(rc 2).trans (by simp [World.cell?,r0])
     obtain ⟨n0,n1,n2,n3,_⟩:=cells_of_blk (heap_alloc_new w2 (.cells #[.int .i64 1,.string ⟨([] : List UInt8).toArray⟩,.int .i64 0,.slice none 0 0] 24))
     have hB3:=hB2.alloc hB2.size (.cells #[.int .i64 1,.string ⟨([] : List UInt8).toArray⟩,.int .i64 0,.slice none 0 0] 24)
     have bx3 : Box (w2.alloc (.cells #[.int .i64 1,.string ⟨([] : List UInt8).toArray⟩,.int .i64 0,.slice none 0 0] 24)) w0.heap.size:=bx2.of_block (Below.heap_alloc _ _ _ bx2.lt)
     have lm3 : w2.heap.size < (w2.alloc (.cells #[.int .i64 1,.string ⟨([] : List UInt8).toArray⟩,.int .i64 0,.slice none 0 0] 24)).heap.size:=by simp
     clear rc r0
     go_wp2_with fail
     generalize (w2.alloc (.cells #[.int .i64 1,.string ⟨([] : List UInt8).toArray⟩,.int .i64 0,.slice none 0 0] 24)) = w3 at *
     generalize hm2 : w2.heap.size = m2 at *
     clear hm2
     go_loopw [27] (fun _ wr => wr = w3) (fun _ _ => 0)
     case atStart => rfl
     case round =>
      subst hrel
      have cZ:=size_any 10 1 [] 0 [] none 0 (fun _ => False) wr (by decide) (by decide) (fun _ h => h.elim) (by simp only [KT]; exact ⟨[],.inl ⟨rfl,none,0,rfl⟩,by simp [KL]⟩)
      go_wp2_with fail
      refine cZ.mono ?_
      rintro e w4 ⟨rfl,hb4⟩
      clear cZ
      have z4:=hb4.size
      have hB4:=hB3.trans (hb4.mono hB3.size)
      have bx4:=bx3.below hb4 bx3.lt
      have q0:=(hb4.cell (p:=⟨m2,0,none⟩) lm3).trans n0
      have q1:=(hb4.cell (p:=⟨m2,1,none⟩) lm3).trans n1
      have q2:=(hb4.cell (p:=⟨m2,2,none⟩) lm3).trans n2
      have q3:=(hb4.cell (p:=⟨m2,3,none⟩) lm3).trans n3
      have s1 : cntNL [] = 0:=by simp [cntNL]
      have s2 : depNL [] = 0:=by simp [depNL]
      clear n0 n1 n2 n3 r1 r2
      obtain ⟨y0,y1,y2,y3,b0,b1,b2,b3,bf⟩:=bx4.open
      have bf0:=bf 0
      have bf1:=bf 1
      have bf2:=bf 2
      have bf3:=bf 3
      clear bf
      go_wp2
      obtain ⟨Wf,hWf,hput,_,d0,d1,d2,d3⟩:=putN4 bx4 (.int .i64 1) (.string ⟨([] : List UInt8).toArray⟩) (.int .i64 0) (.slice none 0 0)
      rw [hWf]
      exact bodyPost_ret (v:=.tuple #[.agg #[.int .i64 1,.string ⟨([] : List UInt8).toArray⟩,.int .i64 0,.slice none 0 0],.int .i64 0,.int .i64 0]) (by simp [results,Tryz.results9,go_sem,d0,d1,d2,d3]) rfl (Parsed.of HX ⟨below_put hB4 hput (Nat.le_refl _),_,rfl,(leafKT 1 [] 0)⟩)
   · injection hv with hv1 hv2 hv3
     subst hv1 hv3
     clear hv2
     obtain ⟨X,hXP,hXt,hXc,hXk,hXn⟩ : ∃ X : Px,w1.heap.size = X.P ∧ tb = X.tb ∧ c = X.cp ∧ toks = X.toks ∧ s.size = X.len:=⟨⟨_,_,_,_,_⟩,rfl,rfl,rfl,rfl,rfl⟩
     subst hXt hXc hXk
     have HXn:=Lib.hid hXn
     have HXP:=Lib.hid hXP
     clear hXn
     have RB : 50 = 50:=rfl
     obtain ⟨w,hw⟩ : ∃ z,w1.alloc (.cells #[.slice (some ⟨X.tb,0,none⟩) X.toks.length X.cp,.int .i64 0,.bool false,.bool false] 50) = z:=⟨_,rfl⟩
     have ltb:=lt_of_block hgg
     have zw : w.heap.size = w1.heap.size + 1:=by rw [← hw]; simp
     have H : Rdr X w (0,false) false:=by
      refine ⟨?_,?_,by omega,Nat.zero_le _,by omega,by omega⟩
      · rw [← hw,← hXP]; exact heap_alloc_new w1 _
      · intro j t hj
        have hq:=tks_get (ts:=X.toks) hj
        have r : ∀ o u,(tksCells X.toks)[o]? = some u → w.cell? ⟨X.tb,o,none⟩ = some u:=fun o u ho => by
         rw [← hw,World.cell?_alloc_lt _ _ _ ltb]
         rw [← htk] at ho
         have ho' : cur[o]? = some u:=by
          rw [List.getElem?_take] at ho
          split at ho
          · simpa using ho
          · cases ho
         simp [World.cell?,hgg,ho']
        exact ⟨r _ _ hq.1,r _ _ hq.2.1,r _ _ hq.2.2.1,r _ _ hq.2.2.2⟩
     have hBw : Below w0.heap.size w0 w:=hw ▸ hB1.alloc hB1.size _
     have bxw : Box w w0.heap.size:=hw ▸ bx1.of_block (Below.heap_alloc _ _ _ bx1.lt)
     have zw1 : w0.heap.size < X.P:=by have:=bx1.lt; omega
     have plw:=H.plt
     have tlw:=H.tlt
     have HT : Hid (X.toks ++ [(4,[],0,s.size)] = X.l):=Lib.hid (by rw [HXn.out]; rfl)
     rw [HT.out] at HP
     clear hgg htk hsz hcap hO RB zw
     go_wp2_with fail
     clear hw hXP hB1 bx1
     refine (rnode_eq 1 [] none 0 0 w).mono ?_
     rintro e w2 ⟨rfl,rfl⟩
     have S2 : Sd X w (w.alloc (.cells #[.int .i64 1,.string ⟨([] : List UInt8).toArray⟩,.int .i64 0,.slice none 0 0] 24)) (0,false) false:=⟨but_alloc _ _ _,H.alloc _,Box.new _ _ _ _ _,plw,tlw⟩
     generalize (w.alloc (.cells #[.int .i64 1,.string ⟨([] : List UInt8).toArray⟩,.int .i64 0,.slice none 0 0] 24)) = w2 at *
     have N3:=NBox.new (X:=X) (k:=1) (s:=[]) (num:=0) (OwnL.nil w2 _) S2.lt
     have S3:=S2.alloc (.cells #[.int .i64 1,.string ⟨([] : List UInt8).toArray⟩,.int .i64 0,.slice none 0 0] 24)
     have HBT : Hid (∀ W,But X.P w.heap.size w W → Below w0.heap.size w0 W ∧ Box W w0.heap.size):=Lib.hid (fun W hb => ⟨⟨hb.os.trans hBw.os,hb.tape.trans hBw.tape,hb.output.trans hBw.output,Nat.le_trans hBw.size hb.size,fun k hk => (hb.block k (by omega) (by omega)).trans (hBw.block k hk)⟩,bxw.later hb bxw.lt (by omega)⟩)
     clear hBw bxw
     have GA:=(goodR X (3 * X.l.length + 3)).1
     obtain ⟨R,hR⟩ : ∃ z,readV X.l X.toks.length = z:=⟨_,rfl⟩
     have ER:=Lib.hid hR
     have HLp : Hid (declsV X.l (vs X.l (3 * X.l.length + 3)) X.toks.length (X.l.length + 1) [] (0,false) = R):=Lib.hid hR
     clear hR
     generalize hnn : 3 * X.l.length + 3 = n at *
     have hXL:=X.length
     have hn3 : 3 * X.toks.length + 3 ≤ n:=by omega
     clear hnn hXL
     go_wp2_with fail
     generalize hmm : w2.heap.size = m at *
     clear hmm
     go_loopw [27] (fun _ wr => ∃ (k : Sg) (fu : Nat) (acc : List Tr) (ao : Option Addr) (cv : Nat),NBox X w wr m 1 [] 0 (.slice ao acc.length cv) acc ∧ Sd X w wr k false ∧ (acc.length ≤ k.1 + 1 ∧ (k.2 = false → acc.length ≤ k.1)) ∧ Hid (X.l.length - k.1 < fu ∧ declsV X.l (vs X.l n) X.toks.length fu acc k = R)) (fun _ wr => 2 * (X.l.length - posR X wr) + okN X wr)
     case atStart => exact ⟨(0,false),X.l.length + 1,[],none,0,N3,S3,⟨by simp,by simp⟩,by simp only; omega,HLp.out⟩
     case round =>
      obtain ⟨k,fu,acc,ao,cv,NK,SK,⟨hik,him⟩,HF⟩:=hrel
      clear HLp N3 S3 S2
      have bk:=SK.rdr.bnd
      have lek:=SK.rdr.le
      have c1k:=SK.rdr.c1
      obtain ⟨hBr,bxr⟩:=HBT.out wr SK.but
      have qk : mS X.toks.length k ≤ 3 * X.toks.length:=by unfold mS; split <;> omega
      cases hbd : k.2 with
      | true =>
       have EL : Hid (R = (acc,(k.1,true))):=Lib.hid (HF.out.2.symm.trans ((declsV_bad (by have:=HF.out.1; omega) hbd).trans (by rw [← hbd])))
       have HX : Hid (parseP s.data.toList = (none,atA X.l k.1,3)):=Lib.hid (HP.out.trans (by rw [show treeR X.l = .bad k.1 from tree_bad (ts:=X.toks) (n:=X.len) HOK.out (ks:=acc) (j:=k.1) (ER.out.trans EL.out)]))
       have c2:=SK.rdr.c2
       rw [hbd] at c2
       clear hbd HF
       by_cases hlt : k.1 < X.toks.length
       · obtain ⟨t0,t1,t2,t3⟩:=SK.rdr.tok k.1 _ (tk_in hlt)
         have HA : Hid (atA X.l k.1 = (tkA X.l k.1).2.2.2):=rfl
         generalize tkA X.l k.1 = t at *
         have j1 : (0 : Int) ≤ (k.1 : Int):=by omega
         have j2 : (k.1 : Int) < (X.toks.length : Int):=by omega
         have hd : decide (k.1 < X.toks.length) = true:=decide_eq_true hlt
         have nP : X.P ≠ w0.heap.size:=by omega
         have nP2 : w0.heap.size ≠ X.P:=by omega
         have nT : X.tb ≠ w0.heap.size:=by omega
         have nT2 : w0.heap.size ≠ X.tb:=by omega
         obtain ⟨y0,y1,y2,y3,b0,b1,b2,b3,bf⟩:=bxr.open
         have bf0:=bf 0
         have bf1:=bf 1
         have bf2:=bf 2
         have bf3:=bf 3
         clear bf
         go_wp2_with fail
         go_region_held3 (fun w' => w'.cell? ⟨X.P,1,none⟩ = some (.int .i64 k.1) ∧ w'.cell? ⟨X.tb,k.1 * 4 + 3,none⟩ = some (.int .i64 t.2.2.2)) (go_keep) (fail)
         all_goals
          go_wp2
          obtain ⟨Wf,hWf,hput,_,d0,d1,d2,d3⟩:=putN4 bxr (.int .i64 0) (.string ⟨#[]⟩) (.int .i64 0) (.slice none 0 0)
          rw [hWf]
          exact bodyPost_ret (v:=.tuple #[.agg #[.int .i64 0,.string ⟨#[]⟩,.int .i64 0,.slice none 0 0],.int .i64 t.2.2.2,.int .i64 3]) (by simp [results,Tryz.results9,go_sem,d0,d1,d2,d3]) rfl (Parsed.of HX (HA.out ▸ ⟨(below_put hBr hput (Nat.le_refl _)).drew,rfl⟩))
       · have hk : k.1 = X.toks.length:=by omega
         have HX2 : Hid (parseP s.data.toList = (none,X.len,3)):=Lib.hid (HX.out.trans (by rw [hk,atA,tkA_last]))
         have hd : decide (k.1 < X.toks.length) = false:=decide_eq_false hlt
         clear HX hk
         have HN:=Lib.hid HXn.out
         obtain ⟨y0,y1,y2,y3,b0,b1,b2,b3,bf⟩:=bxr.open
         have bf0:=bf 0
         have bf1:=bf 1
         have bf2:=bf 2
         have bf3:=bf 3
         clear bf
         go_wp2
         obtain ⟨Wf,hWf,hput,_,d0,d1,d2,d3⟩:=putN4 bxr (.int .i64 0) (.string ⟨#[]⟩) (.int .i64 0) (.slice none 0 0)
         rw [hWf]
         exact bodyPost_ret (v:=.tuple #[.agg #[.int .i64 0,.string ⟨#[]⟩,.int .i64 0,.slice none 0 0],.int .i64 s.size,.int .i64 3]) (by simp [results,Tryz.results9,go_sem,d0,d1,d2,d3]) rfl (Parsed.of HX2 ⟨below_put hBr hput (Nat.le_refl _),by rw [HN.out]⟩)
      | false =>
       have him2:=him hbd
       have HB:=Lib.hid hbd
       have c2:=SK.rdr.c2
       rw [hbd] at c2
       clear hbd him
       by_cases hlt : k.1 < X.toks.length
       · have hd : decide (k.1 < X.toks.length) = true:=decide_eq_true hlt
         have cB:=rdecl_any X n GA wr.drew k false SK.drew.rdr (by omega)
         have v1:=su_decl (l:=X.l) (upV X.l n) k
         rcases hs1 : declV X.l (vs X.l n) k with ⟨t1,s1⟩
         rw [hs1] at cB v1
         have u1:=v1.up
         replace u1 : Up k s1:=u1
         have q1:=u1.mS (n:=X.toks.length)
         have a1:=u1.at_
         have E1:=Lib.hid hs1
         clear hs1
         have sb1:=SK.lt
         obtain ⟨zq10,zq11,zq12,zq13,zq1f⟩:=NK.cells
         have zq1g0:=zq1f 0
         have zq1g1:=zq1f 1
         have zq1g2:=zq1f 2
         have zq1g3:=zq1f 3
         clear zq1f
         go_wp2_with fail
         clear zq10 zq11 zq12 zq13 zq1g0 zq1g1 zq1g2 zq1g3
         generalize (Value.slice ao acc.length cv) = V1 at *
         have lo1:=OwnL.lt NK.own.own
         obtain ⟨zr10,zr11,zr12,zr13,zr1f⟩:=NK.cells
         have zr1g0:=zr1f 0
         have zr1g1:=zr1f 1
         have zr1g2:=zr1f 2
         have zr1g3:=zr1f 3
         clear zr1f
         have ln1 : acc.length ≤ 500000:=by omega
         go_region_law (first
           | (go_simp; go_at_call 24; refine cB.mono ?_; rintro e w1 ⟨hb1,H1,sl1,rfl,hk1⟩; obtain ⟨ao1,n1,p1,rfl⟩:=hk1.slice
              have S1a:=SK.drew.call hb1 H1
              have N1a:=NK.drew.mv SK.drew hb1
              have lz1:=hb1.size
              have ld1 : (wr).drew.heap.size = (wr).heap.size:=rfl
              have bd1:=H1.bnd
              have lm1:=NK.ltz
              have hO1:=OwnQ.of (Q:=fun b => b ≠ m) (OwnL.one (B:=(wr).heap.size) lz1 hk1 (Nat.le_refl _) (Nat.le_refl _)) (fun b hb _ => by omega)
              have N1b:=N1a.alloc (.cells #[.int .i64 t1.kind,.string ⟨t1.text.toArray⟩,.int .i64 t1.num,.slice ao1 n1 p1] 24)
              have S1b:=S1a.alloc (.cells #[.int .i64 t1.kind,.string ⟨t1.text.toArray⟩,.int .i64 t1.num,.slice ao1 n1 p1] 24)
              obtain ⟨y10,y11,y12,y13,y1f⟩:=N1a.cells
              have y1g:=y1f 3
              have ym1:=N1a.ltz
              have yn1 : m ≠ w1.heap.size:=Nat.ne_of_lt ym1
              have yo1 : w1.heap.size ≠ m:=fun e => yn1 e.symm
              clear y1f)
           | (refine step_join (by rfl) _ _ (by rfl) (by rfl) (by rfl) N1b.own hO1 ?_ ?_ ?_ ?_ ?_ ?_
              · first | omega | (simp <;> omega)
              · omega
              · first | omega | (simp <;> omega)
              · exact fun q hq => (lo1 q hq).2
              · first | omega | (simp <;> omega)
              intro ao1c c1c w1c hO1c hg1c
              generalize hL1 : (acc : List Tr).length + ([t1] : List Tr).length = L1 at *
              have S1c:=S1b.grown hg1c (fun q hq => (lo1 q hq).1)
              have B1c:=N1b.grown hg1c
              obtain ⟨x10,x11,x12,x13,x1f⟩:=cells_of_blk B1c
              have x1g:=x1f 3
              clear x1f))
         all_goals
          have S1d:=S1c.put ((Put.refl (m) w1c).setCell 3 (.slice ao1c L1 c1c)) NK.lt
          have N1d : NBox X w (w1c.setCell ⟨m,3,none⟩ (.slice ao1c L1 c1c)) (m) 1 [] 0 (.slice ao1c L1 c1c) ((acc ++ [t1])):=NBox.setKids (X:=X) B1c NK.lt hO1c
          clear x10 x11 x12 x13 x1g
          generalize w1c.setCell ⟨m,3,none⟩ (.slice ao1c L1 c1c) = w1d at *
          have hXl:=X.length
          have hlj:=S1d.rdr.le
          have hLn : (acc ++ [t1]).length = acc.length + 1:=by simp
          have hVL : L1 = (acc ++ [t1]).length:=by rw [hLn,← hL1]; rfl
          obtain ⟨fu2,HX,hb2⟩ : ∃ fu2,Hid (X.l.length - s1.1 < fu2 ∧ declsV X.l (vs X.l n) X.toks.length fu2 (acc ++ [t1]) s1 = R) ∧ (s1.2 = false → k.1 < s1.1):=declsV_on HF.out.1 HB.out hlt E1.out v1 HF.out.2 (by omega)
          clear HF hXl
          go_wp2
          go_roundw
          case rel => exact ⟨s1,fu2,acc ++ [t1],ao1c,c1c,hVL ▸ N1d,S1d,⟨by omega,fun e => by have:=hb2 e; omega⟩,HX⟩
          case measure => rw [S1d.rdr.pos,SK.rdr.pos,S1d.rdr.ok,SK.rdr.ok,X.length,HB.out]; rcases v1.on with e | e; (rw [e]; simp; omega); (split <;> simp <;> omega)
       · have hd : decide (k.1 < X.toks.length) = false:=decide_eq_false hlt
         have EL : Hid (R = (acc,(k.1,false))):=Lib.hid (HF.out.2.symm.trans ((declsV_stop (by have:=HF.out.1; omega) HB.out hlt).trans (by rw [← HB.out])))
         have HTR : Hid (treeR X.l = .ok (.mk 1 [] 0 acc) k.1):=Lib.hid (tree_ok (ts:=X.toks) (n:=X.len) HOK.out (ER.out.trans EL.out))
         have hcn : cntN (.mk 1 [] 0 acc) ≤ 70000:=by have h0:=treeR_cn X.l; rw [HTR.out] at h0; simp only [Cn] at h0; omega
         have HX : Hid (parseP s.data.toList = if smallT (.mk 1 [] 0 acc) then (some (.mk 1 [] 0 acc),0,0) else (none,0,4)):=Lib.hid (HP.out.trans (by rw [HTR.out]))
         clear HF HTR EL
         have TK:=NK.tre
         have cZ:=size_any 70000 1 [] 0 acc ao cv (Rg (w.heap.size + 1) wr.heap.size) wr hcn (by decide) (fun b hb => hb.2) TK
         obtain ⟨n0,n1,n2,n3,_⟩:=NK.cells
         have lm:=NK.ltz
         go_wp2_with fail
         refine cZ.mono ?_
         rintro e w4 ⟨rfl,hb4⟩
         clear cZ
         have z4:=hb4.size
         have hB4:=hBr.trans (hb4.mono hBr.size)
         have bx4:=bxr.below hb4 bxr.lt
         have q0:=(hb4.cell (p:=⟨m,0,none⟩) lm).trans n0
         have q1:=(hb4.cell (p:=⟨m,1,none⟩) lm).trans n1
         have q2:=(hb4.cell (p:=⟨m,2,none⟩) lm).trans n2
         have q3:=(hb4.cell (p:=⟨m,3,none⟩) lm).trans n3
         have T4 : KT w4 (Rg w0.heap.size w4.heap.size) (.mk 1 [] 0 acc) (.slice ao acc.length cv):=KT.fr TK (fun b hb => hb4.block b hb.2) (fun b hb => ⟨by omega,by have:=hb.2; omega⟩)
         have T5 : KT w4 (fun b => (w.heap.size + 1 ≤ b ∧ b < w4.heap.size)) (.mk 1 [] 0 acc) (.slice ao acc.length cv):=KT.fr TK (fun b hb => hb4.block b hb.2) (fun b hb => ⟨hb.1,by have:=hb.2; omega⟩)
         have hsm:=smallT_iff (.mk 1 [] 0 acc)
         have e1 : cntN (.mk 1 [] 0 acc) = 1 + cntNL acc:=by simp [cntN]
         have e2 : depN (.mk 1 [] 0 acc) = depNL acc + 1:=by simp [depN]
         rw [e1,e2] at hsm
         rw [e1] at hcn
         have hdl:=depNL_le acc
         clear e1 e2 n0 n1 n2 n3 TK
         generalize hcN : 1 + cntNL acc = cN at *
         generalize hdN : depNL acc + 1 = dN at *
         clear hcN hdN hdl
         obtain ⟨y0,y1,y2,y3,b0,b1,b2,b3,bf⟩:=bx4.open
         have bf0:=bf 0
         have bf1:=bf 1
         have bf2:=bf 2
         have bf3:=bf 3
         clear bf
         by_cases hc : cN ≤ 20000
         · have g1 : decide (20000 < (cN : Int)) = false:=decide_eq_false (by omega)
           have g1n : decide (20000 < cN) = false:=decide_eq_false (by omega)
           by_cases hq : dN ≤ 100
           · have g2 : decide (100 < (dN : Int)) = false:=decide_eq_false (by omega)
             have g2n : decide (100 < dN) = false:=decide_eq_false (by omega)
             have HY : Hid (parseP s.data.toList = (some (.mk 1 [] 0 acc),0,0)):=Lib.hid (HX.out.trans (by rw [hsm]; simp [hc,hq]))
             clear HX hsm
             go_wp2
             obtain ⟨Wf,hWf,hput,_,d0,d1,d2,d3⟩:=putN4 bx4 (.int .i64 1) (.string ⟨([] : List UInt8).toArray⟩) (.int .i64 0) (.slice ao acc.length cv)
             rw [hWf]
             have zf:=hput.size
             exact bodyPost_ret (v:=.tuple #[.agg #[.int .i64 1,.string ⟨([] : List UInt8).toArray⟩,.int .i64 0,.slice ao acc.length cv],.int .i64 0,.int .i64 0]) (by simp [results,Tryz.results9,go_sem,d0,d1,d2,d3]) rfl (Parsed.of HY ⟨below_put hB4 hput (Nat.le_refl _),_,rfl,T5.fr (fun b hb => hput.block b (by omega)) (fun b hb => ⟨by omega,by omega⟩)⟩)
           · have g2 : decide (100 < (dN : Int)) = true:=decide_eq_true (by omega)
             have g2n : decide (100 < dN) = true:=decide_eq_true (by omega)
             have HY : Hid (parseP s.data.toList = (none,0,4)):=Lib.hid (HX.out.trans (by rw [hsm]; simp [hc,hq]))
             clear HX hsm T4 T5
             go_wp2
             obtain ⟨Wf,hWf,hput,_,d0,d1,d2,d3⟩:=putN4 bx4 (.int .i64 0) (.string ⟨#[]⟩) (.int .i64 0) (.slice none 0 0)
             rw [hWf]
             exact bodyPost_ret (v:=.tuple #[.agg #[.int .i64 0,.string ⟨#[]⟩,.int .i64 0,.slice none 0 0],.int .i64 0,.int .i64 4]) (by simp [results,Tryz.results9,go_sem,d0,d1,d2,d3]) rfl (Parsed.of HY ⟨below_put hB4 hput (Nat.le_refl _),rfl⟩)
         · have g1 : decide (20000 < (cN : Int)) = true:=decide_eq_true (by omega)
           have g1n : decide (20000 < cN) = true:=decide_eq_true (by omega)
           have HY : Hid (parseP s.data.toList = (none,0,4)):=Lib.hid (HX.out.trans (by rw [hsm]; simp [hc]))
           clear HX hsm T4 T5
           go_wp2
           obtain ⟨Wf,hWf,hput,_,d0,d1,d2,d3⟩:=putN4 bx4 (.int .i64 0) (.string ⟨#[]⟩) (.int .i64 0) (.slice none 0 0)
           rw [hWf]
           exact bodyPost_ret (v:=.tuple #[.agg #[.int .i64 0,.string ⟨#[]⟩,.int .i64 0,.slice none 0 0],.int .i64 0,.int .i64 4]) (by simp [results,Tryz.results9,go_sem,d0,d1,d2,d3]) rfl (Parsed.of HY ⟨below_put hB4 hput (Nat.le_refl _),rfl⟩)
 · have HP : Hid (parseP s.data.toList = (none,(scanRes s.data.toList).2.1,(scanRes s.data.toList).2.2)):=Lib.hid (by simp [parseP,he])
   have he' : ((scanRes s.data.toList).2.2 != 0) = true:=by simpa using he
   generalize (scanRes s.data.toList).2.2 = er at *
   generalize (scanRes s.data.toList).2.1 = sat at *
   clear he
   obtain ⟨y0,y1,y2,y3,b0,b1,b2,b3,bf⟩:=bx1.open
   have bf0:=bf 0
   have bf1:=bf 1
   have bf2:=bf 2
   have bf3:=bf 3
   clear bf
   go_wp2
   obtain ⟨Wf,hWf,hput,_,d0,d1,d2,d3⟩:=putN4 bx1 (.int .i64 0) (.string ⟨#[]⟩) (.int .i64 0) (.slice none 0 0)
   rw [hWf]
   exact bodyPost_ret (v:=.tuple #[.agg #[.int .i64 0,.string ⟨#[]⟩,.int .i64 0,.slice none 0 0],.int .i64 sat,.int .i64 er]) (by simp [results,Tryz.results9,go_sem,d0,d1,d2,d3]) rfl (Parsed.of HP ⟨below_put hB1 hput (Nat.le_refl _),rfl⟩)
end Go.Proofs.YtnkphlkjhgngkaaGreatDoor
