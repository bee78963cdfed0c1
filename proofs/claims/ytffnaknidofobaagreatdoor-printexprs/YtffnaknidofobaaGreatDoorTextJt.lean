/- The reader's strings. -/
import Derived.Test.YtffnaknidofobaaGreatDoorHexJt
namespace Go.Proofs.YtffnaknidofobaaGreatDoor
open Go.RowKit
def textRes (l : List UInt8) (k : Nat) : Option (List UInt8 × Nat):=match strL (l.drop (k + 1)) with
  | some (t,n) => if t.length ≤ 1024 then some (t,k + 1 + n) else none
  | none => none
def textV (k : Nat) : Option (List UInt8 × Nat) → Value
  | some (t,e) => .tuple #[tokV 3 ⟨t.toArray⟩ 0 k,.int .i64 e,.bool true]
  | none => noTok
set_option maxRecDepth 20000 in
theorem textRes_long {l out : List UInt8} {k m j : Nat} (h : strL (l.drop (k + 1)) = shiftS out m (strL (l.drop j))) (hl : 1024 < out.length) : textRes l k = none:=by
 unfold textRes
 rw [h]
 cases strL (l.drop j) with
 | none => rfl
 | some x => simp [shiftS]; omega
set_option maxRecDepth 20000 in
theorem textRes_quote {l out : List UInt8} {k j : Nat} (h : strL (l.drop (k + 1)) = shiftS out (j - (k + 1)) (strL (l.drop j))) (hj : k + 1 ≤ j) (hq : atP quoteP l j = true) (hl : ¬ 1024 < out.length) : textRes l k = some (out,j + 1):=by
 unfold textRes
 rw [h]
 unfold atP at hq
 cases hk : l[j]? with
 | none => rw [hk] at hq; cases hq
 | some c =>
  rw [hk] at hq
  obtain ⟨hjl,rfl⟩:=List.getElem?_eq_some_iff.1 hk
  rw [List.drop_eq_getElem_cons hjl,strL_quote _ _ hq]
  simp [shiftS]
  exact ⟨by omega,by omega⟩
set_option maxRecDepth 20000 in
theorem textRes_none {l out : List UInt8} {k m j : Nat} (h : strL (l.drop (k + 1)) = shiftS out m (strL (l.drop j))) (hn : strL (l.drop j) = none) : textRes l k = none:=by
 unfold textRes
 rw [h,hn]; rfl
set_option maxRecDepth 20000 in
theorem atP_drop (p : UInt8 → Bool) (l : List UInt8) (j : Nat) : atP p (l.drop j) 0 = atP p l j:=by
 simp [atP,List.getElem?_drop]
set_option maxRecDepth 20000 in
theorem strL_seg (l : List UInt8) (k j : Nat) (out : List UInt8) (hj : k + 1 ≤ j) (h : strL (l.drop (k + 1)) = shiftS out (j - (k + 1)) (strL (l.drop j))) :
    strL (l.drop (k + 1)) = shiftS (out ++ (l.drop j).takeWhile plainP) (endOf plainP l j - (k + 1)) (strL (l.drop (endOf plainP l j))):=by
  rw [h,strL_plain (l.drop j),shiftS_shiftS,drop_endOf]
  congr 1
  unfold endOf; omega
set_option maxRecDepth 20000 in
theorem extract_seg (s : ByteArray) (j : Nat) : (s.extract j (endOf plainP s.data.toList j)).data.toList = (s.data.toList.drop j).takeWhile plainP:=by
 rw [Lib.extract_data]
 unfold endOf
 rw [Nat.add_sub_cancel_left]
 have h : ∀ m : List UInt8,m.take (m.takeWhile plainP).length = m.takeWhile plainP:=by
  intro m
  induction m with
  | nil => rfl
  | cons c r ih => by_cases hc : plainP c <;> simp [hc,ih]
 exact h _
set_option maxRecDepth 20000 in
theorem byteCells_append (a b : List UInt8) : Lib.byteCells a ++ Lib.byteCells b = Lib.byteCells (a ++ b):=by simp [Lib.byteCells]
set_option maxRecDepth 20000 in
theorem ownsRow_later {w w' : World} {base : Nat} {e : TypeId} {size : Nat} {v : Value} {n : Nat} {xs : List Value} (hb : Below w.heap.size w w') (h : w.ownsRow base e size v n xs) : w'.ownsRow base e size v n xs:=by
 obtain ⟨h1,h2⟩:=h
 refine ⟨h1,?_⟩
 rcases h2 with h2 | ⟨g,cap,cur,rfl,hg,hh,r⟩
 · exact Or.inl h2
 · have hl : g < w.heap.size:=by
    rcases Nat.lt_or_ge g w.heap.size with hl | hl
    · exact hl
    · rw [Array.getElem?_eq_none hl] at hh; cases hh
   exact Or.inr ⟨g,cap,cur,rfl,hg,(hb.block g hl).trans hh,r⟩
set_option maxRecDepth 20000 in
theorem builderAt_later {T e : TypeId} {B b : Nat} {p : Value} {bs : List Value} {w w' : World} (hb : Below w.heap.size w w') (h : Lib.BuilderAt T e B b p bs w) : Lib.BuilderAt T e B b p bs w':=by
 obtain ⟨h0,v,h1,h2,h3⟩:=h
 have hl : b < w.heap.size:=by
  rcases Nat.lt_or_ge b w.heap.size with hl | hl
  · exact hl
  · rw [Array.getElem?_eq_none hl] at h1; cases h1
 exact ⟨h0,v,(hb.block b hl).trans h1,ownsRow_later hb h2,h3⟩
set_option maxRecDepth 20000 in
theorem isBuilder_later {T e : TypeId} {B b : Nat} {bs : List Value} {w w' : World} (hb : Below w.heap.size w w') (h : Lib.IsBuilder T e B b bs w) : Lib.IsBuilder T e B b bs w':=by
 rcases h with h | h
 · exact Or.inl (builderAt_later hb h)
 · exact Or.inr (builderAt_later hb h)
/-- The facts on the boxes of a string's call carry over to a later world. -/
theorem laterT {a : AB} {n : Nat} {s : ByteArray} {W w' : World} (hz : W.heap.size = n + 2) (hb : Below W.heap.size W w') (c5 : W.cell? ⟨n,5,none⟩ = some (.func (.func a.g5) #[] a.l5)) (c6 : W.cell? ⟨n,6,none⟩ = some (.func (.func a.g6) #[] a.l6)) (c8 : W.cell? ⟨n,8,none⟩ = some (.string s)) :
    w'.cell? ⟨n,5,none⟩ = some (.func (.func a.g5) #[] a.l5) ∧ w'.cell? ⟨n,6,none⟩ = some (.func (.func a.g6) #[] a.l6) ∧ w'.cell? ⟨n,8,none⟩ = some (.string s):=by
  have a1 : n < W.heap.size:=by omega
  exact ⟨(hb.cell (p:=⟨n,5,none⟩) a1).trans c5,(hb.cell (p:=⟨n,6,none⟩) a1).trans c6,(hb.cell (p:=⟨n,8,none⟩) a1).trans c8⟩
set_option maxRecDepth 20000 in
set_option maxHeartbeats 4000000 in
theorem text_any (a : AB) (B : Nat) (w : World) (hA : Alpha a B w) (hG : Gl w) (s : ByteArray) (hs : s.size ≤ 65536) (k : Nat) (hk : k < s.size) :
    Calls Tryz.prog 93 #[a.rd s,.int .i64 k] w fun e w' => e = .returned (textV k (textRes s.data.toList k)) ∧ Below w.heap.size w w':=by
  have hll : s.data.toList.length = s.size:=by simp
  have HL : Hid (s.data.toList.length = s.size):=hll
  clear hll
  go_enter Tryz.func93,Tryz.ntmps93
  go_wp2
  obtain ⟨W,hWq,hA',hb,hz,⟨_,_,_,_,_,c5,c6,_,c8⟩,⟨t0,t1,t2,t3⟩,tf⟩:=boxRd2 a s B w hA
  have hG' : Gl W:=hG.later hb
  rw [hWq]
  clear hWq hA hG
  have hnew : Lib.IsBuilder 39 5 (w.heap.size + 2) (w.heap.size + 2) [] (W.alloc (.cells #[.pointer none,.slice none 0 0] 39)):=by
   have:=Lib.fresh_isBuilder 39 5 W
   rw [hz] at this
   exact this
  have hnb : Below W.heap.size W (W.alloc (.cells #[.pointer none,.slice none 0 0] 39)):=(Below.refl _ _).alloc (Nat.le_refl _) _
  generalize W.alloc (.cells #[.pointer none,.slice none 0 0] 39) = W0 at *
  go_loopw [8] (fun p wr => ∃ (j : Nat) (out : List UInt8),k + 1 ≤ j ∧ j ≤ s.size ∧ p = .int .i64 j ∧ Lib.IsBuilder 39 5 (w.heap.size + 2) (w.heap.size + 2) (Lib.byteCells out) wr ∧ Below W.heap.size W wr ∧ Hid (out.length ≤ j ∧ strL (s.data.toList.drop (k + 1)) = shiftS out (j - (k + 1)) (strL (s.data.toList.drop j)))) (fun p _ => s.size - (intOf p).toNat)
  case atStart => exact ⟨k + 1,[],Nat.le_refl _,hk,by go_num,hnew,hnb,Nat.zero_le _,by rw [Nat.sub_self,shiftS_nil]⟩
  case round =>
   obtain ⟨j,out,hj1,hj2,rfl,hB,hbr,HE⟩:=hrel
   clear hnew hnb
   have hzr : w.heap.size + 2 ≤ wr.heap.size:=by have:=hbr.size; omega
   obtain ⟨r5,r6,r8⟩:=laterT hz hbr c5 c6 c8
   have cE:=end_any a.g6 a.l6 plainP B W wr hA'.e6 hA'.plain (Same.of_below hbr) s (by unfold maxLen; omega) j hj2
   have h1:=endOf_ge plainP s.data.toList j
   have h2:=endOf_le plainP s.data.toList j (by have:=HL.out; omega)
   rw [HL.out] at h2
   have H3 : Hid (strL (s.data.toList.drop (k + 1)) = shiftS (out ++ (s.data.toList.drop j).takeWhile plainP) (endOf plainP s.data.toList j - (k + 1)) (strL (s.data.toList.drop (endOf plainP s.data.toList j)))):=strL_seg _ _ _ _ hj1 HE.out.2
   have H4 : Hid (atP plainP s.data.toList (endOf plainP s.data.toList j) = false):=at_endOf _ _ _
   have H5 : Hid (Lib.byteCells out ++ Lib.strCells (s.extract j (endOf plainP s.data.toList j)) = Lib.byteCells (out ++ (s.data.toList.drop j).takeWhile plainP)):=by
    show Lib.byteCells out ++ Lib.byteCells (s.extract j (endOf plainP s.data.toList j)).data.toList = _
    rw [extract_seg,byteCells_append]
   have H6 : Hid ((out ++ (s.data.toList.drop j).takeWhile plainP).length ≤ endOf plainP s.data.toList j):=by
    have:=HE.out.1
    show _ ≤ _
    unfold endOf
    simp; omega
   generalize endOf plainP s.data.toList j = e1 at *
   generalize out ++ (s.data.toList.drop j).takeWhile plainP = out2 at *
   go_wp2_with fail
   refine cE.mono ?_
   rintro e w' ⟨rfl,q,rfl⟩
   go_wp2_with fail
   have hlen : (Lib.byteCells out).length + (s.extract j e1).size ≤ 140737488355328:=by
    have:=HE.out.1
    rw [Lib.byteCells_length]; simp; omega
   refine (Tryz.Builder_WriteString (w.heap.size + 2) (w.heap.size + 2) (Lib.byteCells out) (s.extract j e1) (wr.drewN q) hB hlen hzr).mono ?_
   rintro e w3 ⟨rfl,hB3',hb3'⟩
   have hB3 : Lib.IsBuilder 39 5 (w.heap.size + 2) (w.heap.size + 2) (Lib.byteCells out2) w3:=Or.inr (by rw [← H5.out]; exact hB3')
   have hb3 : Below W.heap.size W w3:=hbr.trans (by rw [hz]; exact ⟨hb3'.os,hb3'.tape,hb3'.output,hb3'.size,hb3'.block⟩)
   clear hB3' hb3' hlen cE H5 r5 r6 r8 hB hbr
   obtain ⟨r5,r6,r8⟩:=laterT hz hb3 c5 c6 c8
   have hz3 : w.heap.size + 2 ≤ w3.heap.size:=by have:=hb3.size; omega
   have cLen:=Tryz.Builder_Len (w.heap.size + 2) (w.heap.size + 2) (Lib.byteCells out2) w3 hB3
   rw [Lib.byteCells_length] at cLen
   go_wp2_with fail
   refine cLen.mono ?_
   rintro e w' ⟨rfl,hw'⟩
   subst hw'
   by_cases hlong : 1024 < out2.length
   · have HT : Hid (textRes s.data.toList k = none):=textRes_long H3.out hlong
     obtain ⟨_,s0,s1,s2,s3,sf⟩:=later4 hz hb3 c8 t0 t1 t2 t3 tf
     go_wp2
     generalize hWf : (((((w').setCell ⟨w.heap.size + 1,0,none⟩ (.int .i64 0)).setCell ⟨w.heap.size + 1,1,none⟩ (.string ⟨#[]⟩)).setCell ⟨w.heap.size + 1,2,none⟩ (.int .i64 0)).setCell ⟨w.heap.size + 1,3,none⟩ (.int .i64 0)) = Wf
     obtain ⟨_,hw4,d0,d1,d2,d3⟩:=put4 (w.heap.size + 1) (w') _ _ _ _ Wf s0 s1 s2 s3 hWf
     clear hWf
     exact bodyPost_ret (v:=.tuple #[.agg #[.int .i64 0,.string ⟨#[]⟩,.int .i64 0,.int .i64 0],.int .i64 0,.bool false]) (by simp [results,Tryz.results93,go_sem,d0,d1,d2,d3]) rfl ⟨by rw [HT.out]; rfl,hw4 _ _ (Nat.le_succ _) (hb.trans (hb3.mono (by omega)))⟩
   · have cQ:=at_any a.g5 a.l5 quoteP B W w' hA'.e5 hA'.quote (Same.of_below hb3) s (by unfold maxLen; omega) e1 h2
     cases hq : atP quoteP s.data.toList e1 <;> rw [hq] at cQ
     · have hG3 : Gl w':=hG'.later hb3
       have hesc:=strL_esc (s.data.toList.drop e1) (by rw [atP_drop]; exact H4.out) (by rw [atP_drop]; exact hq)
       clear hq
       cases hx : escL (s.data.toList.drop e1) with
       | none =>
        have HT : Hid (textRes s.data.toList k = none):=textRes_none H3.out (hesc.1 hx)
        go_wp2_with fail
        refine cQ.mono ?_
        rintro e w2 ⟨rfl,q2,rfl⟩
        go_wp2_with fail
        have cX:=escape_any (s.extract e1 s.size) (by simp; omega) (w'.drewN q2) ⟨hG3.syn,hG3.rng,hG3.size⟩
        rw [Lib.extract_to_end,hx] at cX
        change Calls Tryz.prog 136 _ _ (fun e w' => e = .returned (.tuple #[.int .u8 0,.int .i64 0]) ∧ _) at cX
        clear hx hesc
        refine cX.mono ?_
        rintro e w5 ⟨rfl,hb5'⟩
        have hb5 : Below W.heap.size W w5:=hb3.trans (Below.mono (B:=w'.heap.size) ⟨hb5'.os,hb5'.tape,hb5'.output,hb5'.size,hb5'.block⟩ (by omega))
        obtain ⟨_,s0,s1,s2,s3,sf⟩:=later4 hz hb5 c8 t0 t1 t2 t3 tf
        clear cX hb5' cQ cLen
        go_wp2
        generalize hWf : (((((w5).setCell ⟨w.heap.size + 1,0,none⟩ (.int .i64 0)).setCell ⟨w.heap.size + 1,1,none⟩ (.string ⟨#[]⟩)).setCell ⟨w.heap.size + 1,2,none⟩ (.int .i64 0)).setCell ⟨w.heap.size + 1,3,none⟩ (.int .i64 0)) = Wf
        obtain ⟨_,hw4,d0,d1,d2,d3⟩:=put4 (w.heap.size + 1) (w5) _ _ _ _ Wf s0 s1 s2 s3 hWf
        clear hWf
        exact bodyPost_ret (v:=.tuple #[.agg #[.int .i64 0,.string ⟨#[]⟩,.int .i64 0,.int .i64 0],.int .i64 0,.bool false]) (by simp [results,Tryz.results93,go_sem,d0,d1,d2,d3]) rfl ⟨by rw [HT.out]; rfl,hw4 _ _ (Nat.le_succ _) (hb.trans (hb5.mono (by omega)))⟩
       | some bn =>
        obtain ⟨b,n⟩:=bn
        obtain ⟨hsp,hn1,hn2⟩:=hesc.2 b n hx
        have hn3 : e1 + n ≤ s.size:=by
         have:=HL.out
         rw [List.length_drop] at hn1
         omega
        have HN : Hid ((out2 ++ [b]).length ≤ e1 + n ∧ strL (s.data.toList.drop (k + 1)) = shiftS (out2 ++ [b]) (e1 + n - (k + 1)) (strL (s.data.toList.drop (e1 + n)))):=by
         refine ⟨by have:=H6.out; simp; omega,?_⟩
         rw [H3.out,hsp,shiftS_shiftS,List.drop_drop]
         congr 1
         omega
        have hno : ((n : Int) == 0) = false:=by rw [beq_eq_false_iff_ne]; omega
        go_wp2_with fail
        refine cQ.mono ?_
        rintro e w2 ⟨rfl,q2,rfl⟩
        go_wp2_with fail
        have cX:=escape_any (s.extract e1 s.size) (by simp; omega) (w'.drewN q2) ⟨hG3.syn,hG3.rng,hG3.size⟩
        rw [Lib.extract_to_end,hx] at cX
        change Calls Tryz.prog 136 _ _ (fun e w' => e = .returned (.tuple #[.int .u8 b.toNat,.int .i64 n]) ∧ _) at cX
        clear hx hesc hsp
        refine cX.mono ?_
        rintro e w5 ⟨rfl,hb5'⟩
        have hb5w : Below w'.heap.size w' w5:=⟨hb5'.os,hb5'.tape,hb5'.output,hb5'.size,hb5'.block⟩
        have hb5 : Below W.heap.size W w5:=hb3.trans (hb5w.mono (by omega))
        have hB5:=isBuilder_later hb5w hB3
        clear cX hb5' cQ cLen
        have hz5 : w.heap.size + 2 ≤ w5.heap.size:=by have:=hb5.size; omega
        have hlen5 : (Lib.byteCells out2).length + 1 ≤ 140737488355328:=by rw [Lib.byteCells_length]; omega
        go_wp2_with fail
        refine (Tryz.Builder_WriteByte (w.heap.size + 2) (w.heap.size + 2) (Lib.byteCells out2) b.toNat w5 hB5 hlen5 hz5).mono ?_
        rintro e w6 ⟨rfl,hB6',hb6'⟩
        have hB6 : Lib.IsBuilder 39 5 (w.heap.size + 2) (w.heap.size + 2) (Lib.byteCells (out2 ++ [b])) w6:=Or.inr (by rw [← byteCells_append]; exact hB6')
        have hb6 : Below W.heap.size W w6:=hb5.trans (by rw [hz]; exact hb6')
        clear hB6' hb6' hlen5
        go_wp2
        go_roundw
        case rel => exact ⟨e1 + n,out2 ++ [b],by omega,hn3,by go_num,hB6,hb6,HN⟩
        case measure => simp [intOf]; omega
     · have HT : Hid (textRes s.data.toList k = some (out2,e1 + 1)):=textRes_quote H3.out (by omega) hq hlong
       clear hq
       have cS:=Tryz.Builder_String_any (w.heap.size + 2) (w.heap.size + 2) out2
       go_wp2_with fail
       refine cQ.mono ?_
       rintro e w2 ⟨rfl,q2,rfl⟩
       go_wp2_with fail
       refine (cS (w'.drewN q2) hB3 hz3).mono ?_
       rintro e w4 ⟨rfl,hb4'⟩
       have hb4 : Below W.heap.size W w4:=hb3.trans (by rw [hz]; exact ⟨hb4'.os,hb4'.tape,hb4'.output,hb4'.size,hb4'.block⟩)
       obtain ⟨_,s0,s1,s2,s3,sf⟩:=later4 hz hb4 c8 t0 t1 t2 t3 tf
       clear hb4' cQ cLen cS
       go_wp2
       generalize hWf : (((((w4).setCell ⟨w.heap.size + 1,0,none⟩ (.int .i64 3)).setCell ⟨w.heap.size + 1,1,none⟩ (.string ⟨out2.toArray⟩)).setCell ⟨w.heap.size + 1,2,none⟩ (.int .i64 0)).setCell ⟨w.heap.size + 1,3,none⟩ (.int .i64 k)) = Wf
       obtain ⟨_,hw4,d0,d1,d2,d3⟩:=put4 (w.heap.size + 1) (w4) _ _ _ _ Wf s0 s1 s2 s3 hWf
       clear hWf
       exact bodyPost_ret (v:=.tuple #[.agg #[.int .i64 3,.string ⟨out2.toArray⟩,.int .i64 0,.int .i64 k],.int .i64 (e1 + 1),.bool true]) (by simp [results,Tryz.results93,go_sem,d0,d1,d2,d3]) rfl ⟨by rw [HT.out]; rfl,hw4 _ _ (Nat.le_succ _) (hb.trans (hb4.mono (by omega)))⟩
end Go.Proofs.YtffnaknidofobaaGreatDoor

namespace Go.Proofs.YtffnaknidofobaaGreatDoor
open Go.RowKit
/-- Kind, text, number, and where the token ends. -/
abbrev Tok:=Int × List UInt8 × Int × Nat
def seg (l : List UInt8) (k e : Nat) : List UInt8:=(l.drop k).take (e - k)
def nameL (l : List UInt8) (k : Nat) : Option Tok :=
  if 64 < endOf innerP l k - k then none else some (kindOf (seg l k (endOf innerP l k)),seg l k (endOf innerP l k),0,endOf innerP l k)
def numL (l : List UInt8) (k : Nat) : Option Tok :=
  if l[k]? = some 48 ∧ k + 1 < endOf digitP l k then none
  else if atP firstP l (endOf digitP l k) = true then none
  else if 9223372036854775808 ≤ numOf (seg l k (endOf digitP l k)) then none
  else some (2,[],numOf (seg l k (endOf digitP l k)),endOf digitP l k)
def textL (l : List UInt8) (k : Nat) : Option Tok:=match textRes l k with
  | some (t,e) => some (3,t,0,e)
  | none => none
def markL (l : List UInt8) (k : Nat) : Option Tok :=
  if k + 2 ≤ l.length ∧ pairP (seg l k (k + 2)) = true then some (4,seg l k (k + 2),0,k + 2)
  else if atP singleP l k = true then some (4,seg l k (k + 1),0,k + 1)
  else none
def tokL (l : List UInt8) (k : Nat) : Option Tok :=
  if atP firstP l k = true then nameL l k
  else if atP digitP l k = true then numL l k
  else if atP quoteP l k = true then textL l k
  else markL l k
def tokVal (k : Nat) : Option Tok → Value
  | some (kd,t,n,e) => .tuple #[tokV kd ⟨t.toArray⟩ n k,.int .i64 e,.bool true]
  | none => noTok
set_option maxRecDepth 20000 in
theorem extract_eq (s : ByteArray) (k e : Nat) : s.extract k e = ⟨(seg s.data.toList k e).toArray⟩:=by
 have h:=Lib.extract_data s k e
 unfold seg
 rw [← h]
set_option maxRecDepth 20000 in
theorem extract_toList (s : ByteArray) (k e : Nat) : (s.extract k e).toList = seg s.data.toList k e:=by
 rw [Lib.toList_data,Lib.extract_data]; rfl
set_option maxRecDepth 20000 in
theorem name_all (a : AB) (B : Nat) (w : World) (hA : Alpha a B w) (s : ByteArray) (hs : s.size ≤ 65536) (k : Nat) (hk : k < s.size) :
    Calls Tryz.prog 91 #[a.rd s,.int .i64 k] w fun e w' => e = .returned (tokVal k (nameL s.data.toList k)) ∧ Below w.heap.size w w':=by
  unfold nameL
  by_cases h : 64 < endOf innerP s.data.toList k - k
  · rw [if_pos h]; exact name_long a B w hA s hs k hk h
  · rw [if_neg h]
    have:=name_ok a B w hA s hs k hk _ rfl h
    rw [extract_toList,extract_eq] at this
    exact this
set_option maxRecDepth 20000 in
theorem getElem_list (s : ByteArray) (k : Nat) (hk : k < s.size) : s.data.toList[k]? = some s[k]:=by
 rw [List.getElem?_eq_getElem (by simpa using hk)]; rfl
set_option maxRecDepth 20000 in
theorem mark_all (a : AB) (B : Nat) (w : World) (hA : Alpha a B w) (s : ByteArray) (hs : s.size ≤ 65536) (k : Nat) (hk : k < s.size) :
    Calls Tryz.prog 94 #[a.rd s,.int .i64 k] w fun e w' => e = .returned (tokVal k (markL s.data.toList k)) ∧ Below w.heap.size w w':=by
  unfold markL
  have hll : s.data.toList.length = s.size:=by simp
  rw [hll,atP_lt hk]
  by_cases h2 : k + 2 ≤ s.size
  · cases hp : pairP (seg s.data.toList k (k + 2))
    · rw [if_neg (by simp)]
      cases hg : singleP s[k]
      · rw [if_neg (by simp)]
        exact mark_s0_no a B w hA s hs k hk hg h2 (by rw [extract_toList]; exact hp)
      · rw [if_pos rfl]
        have:=mark_s1_no a B w hA s hs k hk hg h2 (by rw [extract_toList]; exact hp)
        rw [extract_eq] at this
        exact this
    · rw [if_pos ⟨h2,rfl⟩]
      cases hg : singleP s[k]
      · have:=mark_s0_yes a B w hA s hs k hk hg h2 (by rw [extract_toList]; exact hp)
        rw [extract_eq] at this
        exact this
      · have:=mark_s1_yes a B w hA s hs k hk hg h2 (by rw [extract_toList]; exact hp)
        rw [extract_eq] at this
        exact this
  · rw [if_neg (by omega)]
    cases hg : singleP s[k]
    · rw [if_neg (by simp)]
      exact mark_s0_end a B w hA s hs k hk hg h2
    · rw [if_pos rfl]
      have:=mark_s1_end a B w hA s hs k hk hg h2
      rw [extract_eq] at this
      exact this
set_option maxRecDepth 20000 in
theorem seg_takeWhile (p : UInt8 → Bool) (l : List UInt8) (k : Nat) : seg l k (endOf p l k) = (l.drop k).takeWhile p:=by
 unfold seg endOf
 rw [Nat.add_sub_cancel_left]
 have h : ∀ m : List UInt8,m.take (m.takeWhile p).length = m.takeWhile p:=by
  intro m
  induction m with
  | nil => rfl
  | cons c r ih => by_cases hc : p c <;> simp [hc,ih]
 exact h _
set_option maxRecDepth 20000 in
theorem all_takeWhile (p : UInt8 → Bool) (m : List UInt8) : (m.takeWhile p).all p = true:=by
 induction m with
 | nil => rfl
 | cons c r ih => by_cases hc : p c <;> simp [hc]
set_option maxRecDepth 20000 in
theorem number_all (a : AB) (B : Nat) (w : World) (hA : Alpha a B w) (hG : Gl w) (s : ByteArray) (hs : s.size ≤ 65536) (k : Nat) (hk : k < s.size) (hd : digitP s[k] = true) :
    Calls Tryz.prog 92 #[a.rd s,.int .i64 k] w fun e w' => e = .returned (tokVal k (numL s.data.toList k)) ∧ Below w.heap.size w w':=by
  unfold numL
  rw [getElem_list s k hk]
  have hseg:=seg_takeWhile digitP s.data.toList k
  have hall : (seg s.data.toList k (endOf digitP s.data.toList k)).all digitP = true:=by rw [hseg]; exact all_takeWhile _ _
  have hne : seg s.data.toList k (endOf digitP s.data.toList k) ≠ []:=by
   rw [hseg,List.drop_eq_getElem_cons (by simpa using hk),List.takeWhile_cons_of_pos (by exact hd)]
   simp
  have hpi:=parseInt_digits _ hall hne
  have hex : (s.extract k (endOf digitP s.data.toList k)).data.toList = seg s.data.toList k (endOf digitP s.data.toList k):=by rw [Lib.extract_data]; rfl
  by_cases h48 : s[k] = 48
  · have e48 : ((s[k].toNat : Int) == 48) = true:=by rw [h48]; rfl
    by_cases hlt : k + 1 < endOf digitP s.data.toList k
    · rw [if_pos ⟨by rw [h48],hlt⟩]
      exact number_nought a B w hA s hs k hk _ rfl e48 hlt
    · rw [if_neg (by omega)]
      by_cases hf : atP firstP s.data.toList (endOf digitP s.data.toList k) = true
      · rw [if_pos hf]; exact number_letter_b a B w hA s hs k hk _ rfl e48 hlt hf
      · rw [if_neg hf]
        by_cases hr : 9223372036854775808 ≤ numOf (seg s.data.toList k (endOf digitP s.data.toList k))
        · rw [if_pos hr]; exact number_range_b a B w hA s hs k hk _ rfl e48 hlt (by simpa using hf) hG (by rw [hex]; exact hpi.1 hr)
        · rw [if_neg hr]; exact number_ok_b a B w hA s hs k hk _ rfl e48 hlt (by simpa using hf) _ (by rw [hex]; exact hpi.2 hr)
  · have e48 : ((s[k].toNat : Int) == 48) = false:=beqF (d:=48) rfl h48
    rw [if_neg (by intro h; exact h48 (Option.some.inj h.1))]
    by_cases hf : atP firstP s.data.toList (endOf digitP s.data.toList k) = true
    · rw [if_pos hf]; exact number_letter_a a B w hA s hs k hk _ rfl e48 hf
    · rw [if_neg hf]
      by_cases hr : 9223372036854775808 ≤ numOf (seg s.data.toList k (endOf digitP s.data.toList k))
      · rw [if_pos hr]; exact number_range_a a B w hA s hs k hk _ rfl e48 (by simpa using hf) hG (by rw [hex]; exact hpi.1 hr)
      · rw [if_neg hr]; exact number_ok_a a B w hA s hs k hk _ rfl e48 (by simpa using hf) _ (by rw [hex]; exact hpi.2 hr)
set_option maxRecDepth 20000 in
theorem text_all (a : AB) (B : Nat) (w : World) (hA : Alpha a B w) (hG : Gl w) (s : ByteArray) (hs : s.size ≤ 65536) (k : Nat) (hk : k < s.size) :
    Calls Tryz.prog 93 #[a.rd s,.int .i64 k] w fun e w' => e = .returned (tokVal k (textL s.data.toList k)) ∧ Below w.heap.size w w':=by
  have h:=text_any a B w hA hG s hs k hk
  unfold textL
  cases hr : textRes s.data.toList k with
  | none => rw [hr] at h; exact h
  | some x => obtain ⟨t,e⟩:=x; rw [hr] at h; exact h
end Go.Proofs.YtffnaknidofobaaGreatDoor
