/- Scan. -/
import Derived.Test.YtnkphlkjhgngkaaGreatDoorHexJt
import Derived.Deep.Onto
namespace Go.Proofs.YtnkphlkjhgngkaaGreatDoor
open Go.RowKit
set_option maxRecDepth 20000 in
theorem Tryz.info46 : (Tryz.prog.info? 46).map (fun i => (i.zero,i.size,i.bytes)) = some (some (.agg #[.int .i64 0,.string ⟨#[]⟩,.int .i64 0,.int .i64 0]),4,40):=by kernel_rfl
/-- What a call of Scan leaves: the tokens, the place and the error. -/
def Scanned (r : List TkA × Nat × Int) (w : World) (e : Ending) (w' : World) : Prop :=
  ∃ v,e = .returned (.tuple #[v,.int .i64 r.2.1,.int .i64 r.2.2]) ∧ w'.ownsRow w.heap.size 46 4 v r.1.length (tksCells r.1) ∧ Below w.heap.size w w'
set_option maxRecDepth 20000 in
theorem owns_form {w : World} {base : Nat} {e : TypeId} {size : Nat} {v : Value} {n : Nat} {xs : List Value} (h : w.ownsRow base e size v n xs) : ∃ ao cap,v = .slice ao n cap:=by
 rcases h.2 with ⟨rfl,rfl⟩ | ⟨g,cap,cur,rfl,_⟩
 · exact ⟨none,0,rfl⟩
 · exact ⟨_,cap,rfl⟩
/-- The reader lies in block n. -/
structure RdIn (a : AB) (s : ByteArray) (n : Nat) (W : World) : Prop where
  c0 : W.cell? ⟨n,0,none⟩ = some (.func (.func a.g0) #[] a.l0)
  c1 : W.cell? ⟨n,1,none⟩ = some (.func (.func a.g1) #[] a.l1)
  c2 : W.cell? ⟨n,2,none⟩ = some (.func (.func a.g2) #[] a.l2)
  c3 : W.cell? ⟨n,3,none⟩ = some (.func (.func a.g3) #[] a.l3)
  c4 : W.cell? ⟨n,4,none⟩ = some (.func (.func a.g4) #[] a.l4)
  c5 : W.cell? ⟨n,5,none⟩ = some (.func (.func a.g5) #[] a.l5)
  c6 : W.cell? ⟨n,6,none⟩ = some (.func (.func a.g6) #[] a.l6)
  c7 : W.cell? ⟨n,7,none⟩ = some (.func (.func a.g7) #[] a.l7)
  c8 : W.cell? ⟨n,8,none⟩ = some (.string s)
set_option maxRecDepth 20000 in
theorem RdIn.later {a : AB} {s : ByteArray} {n B : Nat} {W w' : World} (h : RdIn a s n W) (hb : Below B W w') (hn : n < B) : RdIn a s n w' :=
  have r : ∀ j,w'.cell? ⟨n,j,none⟩ = W.cell? ⟨n,j,none⟩:=fun j => hb.cell (p:=⟨n,j,none⟩) hn
  ⟨(r 0).trans h.c0,(r 1).trans h.c1,(r 2).trans h.c2,(r 3).trans h.c3,(r 4).trans h.c4,(r 5).trans h.c5,(r 6).trans h.c6,(r 7).trans h.c7,(r 8).trans h.c8⟩
set_option maxRecDepth 20000 in
set_option maxHeartbeats 4000000 in
theorem scan_any (s : ByteArray) (hs : s.size ≤ maxLen) (w : World) (hG : Gl w) : Calls Tryz.prog 14 #[.string s] w (Scanned (scanRes s.data.toList) w):=by
 have hll : s.data.toList.length = s.size:=by simp
 by_cases hlong : 65536 < s.size
 · have HR : Hid (scanRes s.data.toList = ([],0,13)):=by unfold scanRes; rw [hll]; exact if_pos hlong
   unfold maxLen at hs
   clear hll
   go_enter Tryz.func14,Tryz.ntmps14
   go_wp2
   go_ret3
   exact ⟨_,by rw [HR.out]; rfl,by rw [HR.out]; exact World.ownsRow_nil _ _ _ _,Below.refl _ _⟩
 · have HR : Hid (scanRes s.data.toList = scanF s.data.toList (s.data.toList.length + 1) (skipTo s.data.toList 0) []):=by unfold scanRes; rw [hll]; exact if_neg hlong
   have HL : Hid (s.data.toList.length = s.size):=hll
   clear hll
   have hs':=hs
   unfold maxLen at hs'
   have hle : s.size ≤ 65536:=by omega
   have hd : decide (65536 < (s.size : Int)) = false:=by simp; omega
   clear hlong
   go_enter Tryz.func14,Tryz.ntmps14
   go_wp2_with fail
   refine (newReader_any _ _).mono ?_
   rintro e w1 ⟨a,rfl,hA1,b1⟩
   go_wp2_with fail
   obtain ⟨W,hWq,hA,hbW,hz,c0,c1,c2,c3,c4,c5,c6,c7,c8⟩:=boxRd a s w.heap.size w1 hA1
   rw [hWq]
   clear hWq hA1
   have hRd : RdIn a s w1.heap.size W:=⟨c0,c1,c2,c3,c4,c5,c6,c7,c8⟩
   have hb0 : Below w.heap.size w W:=b1.trans (hbW.mono b1.size)
   have hG0 : Gl W:=hG.later hb0
   have hzW : w.heap.size ≤ W.heap.size:=hb0.size
   have cK : Calls Tryz.prog 30 #[a.rd s,.int .i64 0] W _:=skip_any a w.heap.size W hA s hs 0 (Nat.zero_le _)
   refine cK.mono ?_
   rintro e w2 ⟨rfl,hb2⟩
   clear cK c0 c1 c2 c3 c4 c5 c6 c7 c8
   have hk0:=skipTo_le s.data.toList 0 (Nat.zero_le _)
   rw [HL.out] at hk0
   have HS : Hid (scanRes s.data.toList = scanF s.data.toList (s.size + 1) (skipTo s.data.toList 0) []):=by rw [HR.out,HL.out]; rfl
   clear HR
   generalize skipTo s.data.toList 0 = k0 at *
   go_wp2_with fail
   go_loopw [2,3] (fun v i wr => ∃ (k f : Nat) (acc : List TkA) (ao : Option Addr) (cv : Nat),k ≤ s.size ∧ i = .int .i64 k ∧ v = .slice ao acc.length cv ∧ wr.ownsRow W.heap.size 46 4 (.slice ao acc.length cv) acc.length (tksCells acc) ∧ Below W.heap.size W wr ∧ acc.length ≤ 20000 ∧ Hid (s.size - k < f ∧ scanRes s.data.toList = scanF s.data.toList f k acc)) (fun _ i _ => s.size - (intOf i).toNat)
   case atStart => exact ⟨k0,s.size + 1,[],none,0,hk0,rfl,rfl,World.ownsRow_nil _ _ _ _,hb2,Nat.zero_le _,by omega,HS.out⟩
   case round =>
    obtain ⟨k,f,acc,ao,cv,hk,rfl,rfl,hown,hbr,hacc,HF⟩:=hrel
    clear HS hk0 hb2
    have hzr:=hbr.size
    obtain ⟨r0,r1,r2,r3,r4,r5,r6,r7,r8⟩:=hRd.later hbr (by rw [hz]; exact Nat.lt_succ_self _)
    have hA' : Alpha a w.heap.size wr:=hA.later (Same.of_below hbr)
    have hG' : Gl wr:=hG0.later hbr
    have hbw : Below w.heap.size w wr:=hb0.trans (hbr.mono hzW)
    by_cases hlt : k < s.size
    · by_cases h20 : acc.length = 20000
      · have h20' : ((acc.length : Int) == 20000) = true:=by rw [h20]; rfl
        have HX : Hid (scanRes s.data.toList = ([],k,4)):=HF.out.2.trans (scanF_large (by have:=HF.out.1; omega) (by rw [HL.out]; exact hlt) h20)
        clear h20
        go_wp2
        go_ret3
        exact ⟨_,by rw [HX.out]; rfl,by rw [HX.out]; exact World.ownsRow_nil _ _ _ _,hbw⟩
      · have h20' : ((acc.length : Int) == 20000) = false:=by rw [beq_eq_false_iff_ne]; omega
        have cT:=token_all a w.heap.size wr hA' hG' s hle k hlt
        cases ht : tokL s.data.toList k with
        | none =>
         rw [ht] at cT
         have HX : Hid (scanRes s.data.toList = ([],k,3)):=HF.out.2.trans (scanF_fault (by have:=HF.out.1; omega) (by rw [HL.out]; exact hlt) h20 ht)
         change Calls Tryz.prog 31 _ _ (fun e w' => e = .returned noTok ∧ _) at cT
         clear ht h20
         go_wp2_with fail
         refine cT.mono ?_
         rintro e w3 ⟨rfl,hb3⟩
         go_wp2
         go_ret3
         exact ⟨_,by rw [HX.out]; rfl,by rw [HX.out]; exact World.ownsRow_nil _ _ _ _,(hbw.trans (hb3.mono (by omega))).alloc (by have:=hb3.size; omega) _⟩
        | some x =>
         obtain ⟨kd,tx,nu,en⟩:=x
         rw [ht] at cT
         have hen:=tokL_end (by rw [HL.out]; exact hlt) ht
         rw [HL.out] at hen
         obtain ⟨hen1,hen2⟩:=hen
         have HX : Hid (∃ g,f = g + 1 ∧ scanRes s.data.toList = scanF s.data.toList g (skipTo s.data.toList en) (acc ++ [(kd,tx,nu,k)])):=by
          obtain ⟨h1,h2⟩:=HF.out
          match f,h1,h2 with
          | g + 1,_,h2 => exact ⟨g,rfl,h2.trans (scanF_step (by rw [HL.out]; exact hlt) h20 ht)⟩
         change Calls Tryz.prog 31 _ _ (fun e w' => e = .returned (.tuple #[tokV kd ⟨tx.toArray⟩ nu k,.int .i64 en,.bool true]) ∧ _) at cT
         clear ht
         go_wp2_with fail
         refine cT.mono ?_
         rintro e w3 ⟨rfl,hb3⟩
         have hown2 : ((w3.alloc (.cells #[.int .i64 kd,.string ⟨tx.toArray⟩,.int .i64 nu,.int .i64 k] 46)).alloc (.cells #[.int .i64 kd,.string ⟨tx.toArray⟩,.int .i64 nu,.int .i64 k] 46)).ownsRow W.heap.size 46 4 (.slice ao acc.length cv) acc.length (tksCells acc):=((ownsRow_later hb3 hown).alloc _).alloc _
         have hb4 : Below W.heap.size W ((w3.alloc (.cells #[.int .i64 kd,.string ⟨tx.toArray⟩,.int .i64 nu,.int .i64 k] 46)).alloc (.cells #[.int .i64 kd,.string ⟨tx.toArray⟩,.int .i64 nu,.int .i64 k] 46)):=((hbr.trans (hb3.mono hzr)).alloc (by have:=hb3.size; omega) _).alloc (by have:=hb3.size; simp; omega) _
         have hlw:=hown2.lt
         have hz3:=hb3.size
         clear hown cT
         obtain ⟨i0,hi,hz0,hz1,hz2⟩:=info_parts Tryz.info46
         go_wp2_with (at_builtin; refine wpList_append_own _ rfl _ _ 32 rfl W.heap.size 46 i0 _ 4 40 Tryz.underlying32 hi hz0 hz1 hz2 rfl (by decide) _ _ _ rfl hown2 ⟨w3.heap.size + 1,0,none⟩ 1 1 [.int .i64 kd,.string ⟨tx.toArray⟩,.int .i64 nu,.int .i64 k] rfl rfl ?c1 ?c2 ?c3 ?c4 ?c5 ?_)
         case c1 =>
          intro j u hj
          match j,hj with
          | 0,hj => simp at hj; subst hj; simp [Addr.add]
          | 1,hj => simp at hj; subst hj; simp [Addr.add]
          | 2,hj => simp at hj; subst hj; simp [Addr.add]
          | 3,hj => simp at hj; subst hj; simp [Addr.add]
         case c2 => intro u hu; simp at hu; rcases hu with rfl | rfl | rfl | rfl <;> rfl
         case c3 => unfold maxLen; omega
         case c4 => omega
         case c5 => simp; omega
         intro v5 w5 hown5 hgr5 _
         have hb5 : Below W.heap.size W w5:=hb4.grown hgr5 (by simp; omega) (fun k hk => (hlw k hk).1)
         clear hown2 hb4 hgr5 hlw hi hz0 hz1 hz2 i0
         obtain ⟨ao5,cv5,hv5⟩:=owns_form hown5
         rw [hv5]
         rw [hv5] at hown5
         clear hv5
         have hcells : tksCells acc ++ [.int .i64 kd,.string ⟨tx.toArray⟩,.int .i64 nu,.int .i64 k] = tksCells (acc ++ [(kd,tx,nu,k)]):=by simp [tksCells,tkCells]
         rw [hcells] at hown5
         clear hcells r0 r1 r2 r3 r4 r5 r6 r7 r8
         have hz5:=hb5.size
         rw [← hz] at hown5
         obtain ⟨r0,r1,r2,r3,r4,r5,r6,r7,r8⟩:=hRd.later hb5 (by rw [hz]; exact Nat.lt_succ_self _)
         have cK:=skip_any a w.heap.size w5 (hA.later (Same.of_below hb5)) s hs en hen2
         have hk5:=skipTo_le s.data.toList en (by rw [HL.out]; exact hen2)
         rw [HL.out] at hk5
         have hk6:=skipTo_ge s.data.toList en
         have HN : Hid (∃ g,s.size - skipTo s.data.toList en < g ∧ scanRes s.data.toList = scanF s.data.toList g (skipTo s.data.toList en) (acc ++ [(kd,tx,nu,k)])):=by
          obtain ⟨g,h1,h2⟩:=HX.out
          exact ⟨g,by have:=HF.out.1; omega,h2⟩
         clear HX
         generalize skipTo s.data.toList en = k5 at *
         go_wp2_with fail
         refine cK.mono ?_
         rintro e w6 ⟨rfl,hb6⟩
         have hown6:=ownsRow_later hb6 hown5
         have hb7 : Below W.heap.size W w6:=hb5.trans (hb6.mono hz5)
         clear hown5 cK hb6
         obtain ⟨g,hg1,hg2⟩:=HN.out
         have HG : Hid (s.size - k5 < g ∧ scanRes s.data.toList = scanF s.data.toList g k5 (acc ++ [(kd,tx,nu,k)])):=⟨hg1,hg2⟩
         clear hg1 hg2 HN
         go_wp2
         go_roundw
         case rel => exact ⟨k5,g,acc ++ [(kd,tx,nu,k)],ao5,cv5,hk5,rfl,by simp,by simpa using hown6,hb7,by simp; omega,HG⟩
         case measure => simp [intOf]; omega
    · have HX : Hid (scanRes s.data.toList = (acc,0,0)):=HF.out.2.trans (scanF_end (by have:=HF.out.1; omega) (by rw [HL.out]; exact hlt))
      go_wp2
      go_ret3
      exact ⟨_,by rw [HX.out]; rfl,by rw [HX.out]; exact hown.mono hzW,hbw⟩
end Go.Proofs.YtnkphlkjhgngkaaGreatDoor

namespace Go.Proofs.YtnkphlkjhgngkaaGreatDoor
open Go.RowKit
def nameP (l : List UInt8) : Bool :=
  if l.length = 0 ∨ 64 < l.length then false else match tokL l 0 with
    | some (kd,_,_,e) => e == l.length && kd == 1
    | none => false
set_option maxRecDepth 20000 in
set_option maxHeartbeats 2000000 in
theorem isName_any (s : ByteArray) (_hs : s.size ≤ maxLen) (w : World) (hG : Gl w) : Calls Tryz.prog 114 #[.string s] w fun e w' => e = .returned (.bool (nameP s.data.toList)) ∧ Below w.heap.size w w':=by
 have hll : s.data.toList.length = s.size:=by simp
 unfold maxLen at _hs
 by_cases h0 : s.size = 0
 · have HP : Hid (nameP s.data.toList = false):=by unfold nameP; rw [hll]; exact if_pos (Or.inl h0)
   have hemp : s.toList.isEmpty = true:=by rw [Lib.toList_data,List.isEmpty_iff_length_eq_zero,hll]; exact h0
   clear hll h0
   go_enter Tryz.func114,Tryz.ntmps114
   go_wp2
   go_ret
   exact ⟨by rw [HP.out]; rfl,Below.refl _ _⟩
 have hemp : s.toList.isEmpty = false:=by
  cases hh : s.toList.isEmpty
  · rfl
  · rw [Lib.toList_data,List.isEmpty_iff_length_eq_zero,hll] at hh; exact absurd hh h0
 by_cases h64 : 64 < s.size
 · have HP : Hid (nameP s.data.toList = false):=by unfold nameP; rw [hll]; exact if_pos (Or.inr h64)
   clear hll h0
   go_enter Tryz.func114,Tryz.ntmps114
   go_wp2
   go_ret
   exact ⟨by rw [HP.out]; rfl,Below.refl _ _⟩
 have hP : nameP s.data.toList = match tokL s.data.toList 0 with
     | some (kd,_,_,e) => e == s.size && kd == 1
     | none => false:=by unfold nameP; rw [hll]; exact if_neg (by omega)
 have hlt : 0 < s.size:=by omega
 have hle : s.size ≤ 65536:=by omega
 have h64' : decide (64 < (s.size : Int)) = false:=by simp; omega
 cases ht : tokL s.data.toList 0 with
 | none =>
  rw [ht] at hP
  have HP:=Lib.hid hP
  have cT : ∀ a W,Alpha a w.heap.size W → Gl W → Calls Tryz.prog 31 #[a.rd s,.int .i64 0] W fun e w' => e = .returned noTok ∧ Below W.heap.size W w':=fun a W hA hG => by
   have:=token_all a w.heap.size W hA hG s hle 0 hlt
   rw [ht] at this
   exact this
  clear hP ht hll h0 h64
  have HT:=Lib.hid cT
  clear cT
  go_enter Tryz.func114,Tryz.ntmps114
  go_wp2_with fail
  refine (newReader_any _ _).mono ?_
  rintro e w1 ⟨a,rfl,hA,b1⟩
  go_wp2_with fail
  refine (HT.out a w1 hA (hG.later b1)).mono ?_
  rintro e w2 ⟨rfl,b2⟩
  go_wp2
  go_ret
  exact ⟨by rw [HP.out]; rfl,(b1.trans (b2.mono b1.size)).alloc (by have:=b1.size; have:=b2.size; omega) _⟩
 | some x =>
  obtain ⟨kd,tx,nu,en⟩:=x
  rw [ht] at hP
  have hP' : nameP s.data.toList = (en == s.size && kd == 1):=hP
  have HP:=Lib.hid hP'
  have cT : ∀ a W,Alpha a w.heap.size W → Gl W → Calls Tryz.prog 31 #[a.rd s,.int .i64 0] W fun e w' => e = .returned (.tuple #[tokV kd ⟨tx.toArray⟩ nu 0,.int .i64 en,.bool true]) ∧ Below W.heap.size W w':=fun a W hA hG => by
   have:=token_all a w.heap.size W hA hG s hle 0 hlt
   rw [ht] at this
   exact this
  clear hP hP' ht hll h0 h64
  have HT:=Lib.hid cT
  clear cT
  by_cases he : en = s.size
  · have he' : ((en : Int) == (s.size : Int)) = true:=by rw [he]; simp
    have HE : Hid ((en == s.size) = true):=by show (en == s.size) = true; rw [he]; simp
    clear he
    by_cases hk : kd = 1
    · have hk' : (kd == 1) = true:=by rw [hk]; rfl
      have HK:=Lib.hid hk'
      clear hk
      go_enter Tryz.func114,Tryz.ntmps114
      go_wp2_with fail
      refine (newReader_any _ _).mono ?_
      rintro e w1 ⟨a,rfl,hA,b1⟩
      go_wp2_with fail
      refine (HT.out a w1 hA (hG.later b1)).mono ?_
      rintro e w2 ⟨rfl,b2⟩
      go_wp2
      go_ret
      exact ⟨by rw [HP.out,HE.out,HK.out]; rfl,(b1.trans (b2.mono b1.size)).alloc (by have:=b1.size; have:=b2.size; omega) _⟩
    · have hk' : (kd == 1) = false:=by simpa using hk
      have HK:=Lib.hid hk'
      clear hk
      go_enter Tryz.func114,Tryz.ntmps114
      go_wp2_with fail
      refine (newReader_any _ _).mono ?_
      rintro e w1 ⟨a,rfl,hA,b1⟩
      go_wp2_with fail
      refine (HT.out a w1 hA (hG.later b1)).mono ?_
      rintro e w2 ⟨rfl,b2⟩
      go_wp2
      go_ret
      exact ⟨by rw [HP.out,HE.out,HK.out]; rfl,(b1.trans (b2.mono b1.size)).alloc (by have:=b1.size; have:=b2.size; omega) _⟩
  · have he' : ((en : Int) == (s.size : Int)) = false:=by rw [beq_eq_false_iff_ne]; omega
    have HE : Hid ((en == s.size) = false):=by show (en == s.size) = false; simpa using he
    clear he
    go_enter Tryz.func114,Tryz.ntmps114
    go_wp2_with fail
    refine (newReader_any _ _).mono ?_
    rintro e w1 ⟨a,rfl,hA,b1⟩
    go_wp2_with fail
    refine (HT.out a w1 hA (hG.later b1)).mono ?_
    rintro e w2 ⟨rfl,b2⟩
    go_wp2
    go_ret
    exact ⟨by rw [HP.out,HE.out]; rfl,(b1.trans (b2.mono b1.size)).alloc (by have:=b1.size; have:=b2.size; omega) _⟩
end Go.Proofs.YtnkphlkjhgngkaaGreatDoor
