/- The parser is made of a text's tokens. -/
import Derived.Test.YtffnaknidofobaaGreatDoorParAJt
import Derived.Test.YtffnaknidofobaaGreatDoorTokenJt
import Derived.Test.YtffnaknidofobaaGreatDoorParWJt
import Derived.Test.YtffnaknidofobaaGreatDoorParLJt
namespace Go.Proofs.YtffnaknidofobaaGreatDoor
open Go.RowKit
theorem tks_get : ∀ {ts : List Tk} {k : Nat} {t : Tk},ts[k]? = some t →
    (tksCells ts)[k * 4]? = some (.int .i64 t.1) ∧ (tksCells ts)[k * 4 + 1]? = some (.string ⟨t.2.1.toArray⟩) ∧ (tksCells ts)[k * 4 + 2]? = some (.int .i64 t.2.2.1) ∧ (tksCells ts)[k * 4 + 3]? = some (.int .i64 t.2.2.2)
  | t :: ts,0,_,h1 => by simp at h1; subst h1; simp [tksCells,tkCells]
  | t :: ts,k + 1,_,h1 => by
   simp at h1
   have:=tks_get (ts:=ts) h1
   have e : tksCells (t :: ts) = Value.int .i64 t.1 :: .string ⟨t.2.1.toArray⟩ :: .int .i64 t.2.2.1 :: .int .i64 t.2.2.2 :: tksCells ts:=by simp [tksCells,tkCells]
   rw [e,show (k + 1) * 4 = k * 4 + 1 + 1 + 1 + 1 by omega]
   simpa [Nat.add_assoc] using this
  | [],_,_,h1 => by simp at h1
set_option maxRecDepth 20000 in
set_option maxHeartbeats 1600000 in
theorem newParser_any (w : World) (B : Nat) (toks : List Tk) (len : Nat) (v : Value) (hcap : toks.length ≤ 20000) (hB : B ≤ w.heap.size) (hO : w.ownsRow B 56 4 v toks.length (tksCells toks)) :
    Calls Tryz.prog 27 #[v,.int .i64 len] w fun e w' => ∃ X : Px,X.toks = toks ∧ X.len = len ∧ e = .returned X.p ∧ Par X w' 0 false ∧ Below B w w' ∧ B ≤ X.P ∧ B ≤ X.tb:=by
  obtain ⟨ao,c,rfl⟩:=owns_form hO
  have hl:=hO.lt
  have hO1 : (w.alloc (.cells #[.int .i64 4,.string ⟨#[]⟩,.int .i64 0,.int .i64 len] 56)).ownsRow B 56 4 (.slice ao toks.length c) toks.length (tksCells toks):=hO.alloc _
  have hb1 : Below B w (w.alloc (.cells #[.int .i64 4,.string ⟨#[]⟩,.int .i64 0,.int .i64 len] 56)):=(Below.refl _ _).alloc hB _
  obtain ⟨i0,hi,hz0,hzz1,hzz2⟩:=info_parts Tryz.info56
  go_enter Tryz.func27,Tryz.ntmps27
  go_wp2_with (at_builtin; refine wpList_append_lies _ rfl _ _ 48 rfl B 56 i0 _ 4 40 Tryz.underlying48 hi hz0 hzz1 hzz2 rfl (by decide) _ _ _ rfl hO1 ⟨w.heap.size,0,none⟩ 1 1 [.int .i64 4,.string ⟨#[]⟩,.int .i64 0,.int .i64 len] rfl rfl ?c1 ?c2 (by decide) ?c3 ?c4 ?c5 (w.heap.size + 1) ?c6 ?_)
  case c1 =>
   intro j u hj
   match j,hj with
   | 0,hj => simp at hj; subst hj; simp [Addr.add]
   | 1,hj => simp at hj; subst hj; simp [Addr.add]
   | 2,hj => simp at hj; subst hj; simp [Addr.add]
   | 3,hj => simp at hj; subst hj; simp [Addr.add]
  case c2 => intro u hu; simp at hu; rcases hu with rfl | rfl | rfl | rfl <;> rfl
  case c3 => unfold maxLen; omega
  case c4 => omega
  case c5 => simp; omega
  case c6 => simp
  intro g cap w5 hO5 hg5 hat5 hlt5
  have hb5 : Below B w w5:=hb1.grown hg5 (by simp; omega) (fun k hk => (hl k hk).1)
  have z5:=hg5.size
  rw [World.size_alloc] at z5
  have hgB : B ≤ g:=by
   rcases hat5 with e | e
   · exact (hl g e).1
   · omega
  clear hi hz0 hzz1 hzz2 i0
  go_wp2
  go_ret
  have hcells : tksCells toks ++ [.int .i64 4,.string ⟨#[]⟩,.int .i64 0,.int .i64 len] = tksCells (toks ++ [((4 : Int),([] : List UInt8),(0 : Int),len)]):=by simp [tksCells,tkCells]
  rw [hcells] at hO5
  refine ⟨⟨w5.heap.size,g,cap,toks,len⟩,rfl,rfl,rfl,⟨?_,?_,?_,?_,hcap⟩,hb5.alloc (by omega) _,by simp only; omega,hgB⟩
  · have:=heap_alloc_new w5 (.cells #[.slice (some ⟨g,0,none⟩) (toks.length + 1) cap,.int .i64 0,.bool false] 85)
    rw [this]; simp [Px.l]
  · intro j t hj
    have hq:=tks_get (ts:=toks ++ [((4 : Int),([] : List UInt8),(0 : Int),len)]) hj
    have r : ∀ o u,(tksCells (toks ++ [((4 : Int),([] : List UInt8),(0 : Int),len)]))[o]? = some u → (w5.alloc (.cells #[.slice (some ⟨g,0,none⟩) (toks.length + 1) cap,.int .i64 0,.bool false] 85)).cell? ⟨g,o,none⟩ = some u:=fun o u ho => by
     rw [World.cell?_alloc_lt _ _ _ (by exact hlt5)]
     rcases hO5.2 with ⟨e,_⟩ | ⟨g',cap',cur,hv,_,hg,_,_,_,htk⟩
     · cases e
     · cases hv
       rw [← htk] at ho
       have ho' : cur[o]? = some u:=by
        rw [List.getElem?_take] at ho
        split at ho
        · simpa using ho
        · cases ho
       simp [World.cell?,hg,ho']
    exact ⟨r _ _ hq.1,r _ _ hq.2.1,r _ _ hq.2.2.1,r _ _ hq.2.2.2⟩
  · simp only; omega
  · simp [Px.l]
end Go.Proofs.YtffnaknidofobaaGreatDoor

namespace Go.Proofs.YtffnaknidofobaaGreatDoor
open Go.RowKit
theorem scanF_len {l : List UInt8} : ∀ (f a : Nat) (acc : List TkA),acc.length ≤ 20000 → (scanF l f a acc).1.length ≤ 20000
  | 0,a,acc,h => h
  | f + 1,a,acc,h => by
   simp only [scanF]
   split
   · split
     · exact Nat.zero_le _
     · rename_i hne
       split
       · exact Nat.zero_le _
       · exact scanF_len f _ _ (by simp; omega)
   · exact h
theorem scanRes_len (l : List UInt8) : (scanRes l).1.length ≤ 20000:=by
 unfold scanRes
 split
 · exact Nat.zero_le _
 · exact scanF_len _ _ _ (Nat.zero_le _)
/-- The tree of a text, or the place of its fault and the error. -/
def parseP (l : List UInt8) : Option Tr × Nat × Int :=
  if (scanRes l).2.2 ≠ 0 then (none,(scanRes l).2.1,(scanRes l).2.2)
  else match treeR ((scanRes l).1 ++ [(4,[],0,l.length)]) with
    | .bad j => (none,atA ((scanRes l).1 ++ [(4,[],0,l.length)]) j,3)
    | .ok t _ => if smallT t then (some t,0,0) else (none,0,4)
/-- What Parse leaves. -/
def Parsed (r : Option Tr × Nat × Int) (w : World) (e : Ending) (w' : World) : Prop :=
  Below w.heap.size w w' ∧ match r with
  | (some t,a,er) => ∃ sl,e = .returned (.tuple #[tv t sl,.int .i64 a,.int .i64 er]) ∧ KT w' (Rg w.heap.size w'.heap.size) t sl
  | (none,a,er) => e = .returned (.tuple #[zeroT,.int .i64 a,.int .i64 er])
theorem Parsed.of {r r' : Option Tr × Nat × Int} {w : World} {e : Ending} {w' : World} (hr : Hid (r = r')) (o : Parsed r' w e w') : Parsed r w e w':=by
 have:=hr.out; subst this; exact o
theorem below_put {B n : Nat} {a w w' : World} (h : Below B a w) (hp : Put n w w') (hn : B ≤ n) : Below B a w' :=
  ⟨hp.os.trans h.os,hp.tape.trans h.tape,hp.output.trans h.output,by rw [hp.size]; exact h.size,fun k hk => (hp.block k (by omega)).trans (h.block k hk)⟩
set_option maxRecDepth 20000 in
set_option maxHeartbeats 4000000 in
theorem parse_any (s : ByteArray) (hs : s.size ≤ maxLen) (w : World) (hG : Gl w) : Calls Tryz.prog 13 #[.string s] w (Parsed (parseP s.data.toList) w):=by
 obtain ⟨W0,hW0⟩ : ∃ W,w.alloc (.cells #[.int .i64 0,.string ⟨#[]⟩,.int .i64 0,.slice none 0 0] 24) = W:=⟨_,rfl⟩
 have hb0 : Below w.heap.size w W0:=hW0 ▸ (Below.refl _ _).alloc (Nat.le_refl _) _
 have z01 : W0.heap.size ≤ w.heap.size + 1:=by rw [← hW0]; simp
 have z02 : w.heap.size + 1 ≤ W0.heap.size:=by rw [← hW0]; simp
 have bx0 : Box W0 w.heap.size:=hW0 ▸ Box.new _ _ _ _ _
 have hG0 : Gl W0:=hG.later hb0
 have cS:=scan_any s hs W0 hG0
 have hlen:=scanRes_len s.data.toList
 have HL : Hid (s.data.toList.length = s.size):=by simp [Hid]
 go_enter Tryz.func13,Tryz.ntmps13
 go_wp2_with fail
 refine cS.mono ?_
 rintro e w1 ⟨v,rfl,hO,hb1⟩
 have z1:=hb1.size
 have bx1:=bx0.below hb1 (by omega)
 have hB1 : Below w.heap.size w w1:=hb0.trans (hb1.mono (by omega))
 clear cS
 obtain ⟨ao,c,rfl⟩:=owns_form hO
 by_cases he : (scanRes s.data.toList).2.2 = 0
 · have HP : Hid (parseP s.data.toList = match treeR ((scanRes s.data.toList).1 ++ [(4,[],0,s.data.toList.length)]) with
     | .bad j => (none,atA ((scanRes s.data.toList).1 ++ [(4,[],0,s.data.toList.length)]) j,3)
     | .ok t _ => if smallT t then (some t,0,0) else (none,0,4)):=by simp [Hid,parseP,he]
   have he' : ((scanRes s.data.toList).2.2 != 0) = false:=by simp [he]
   rw [HL.out] at HP
   generalize (scanRes s.data.toList).1 = toks at *
   generalize (scanRes s.data.toList).2.2 = er at *
   generalize (scanRes s.data.toList).2.1 = sat at *
   have cN:=newParser_any w1 W0.heap.size toks s.size (.slice ao toks.length c) hlen z1 hO
   clear he
   go_wp2_with fail
   refine cN.mono ?_
   rintro e w2 ⟨X,hX1,hX2,rfl,H2,hb2,hP,hT⟩
   have z2:=hb2.size
   have bx2:=bx1.below hb2 (by omega)
   have hB2 : Below w.heap.size w w2:=hB1.trans (hb2.mono (by omega))
   clear cN
   have HT : Hid (X.l = toks ++ [(4,[],0,s.size)]):=by simp [Hid,Px.l,hX1,hX2]
   rw [← HT.out] at HP
   have cP:=program_any X w2 H2
   clear hX1 hX2
   go_wp2_with fail
   refine cP.mono ?_
   rintro e w3 ⟨hb3,hr3⟩
   have z3:=hb3.size
   clear cP
   have pl2:=H2.plt
   have hB3 : Below w.heap.size w w3:=⟨hb3.os.trans hB2.os,hb3.tape.trans hB2.tape,hb3.output.trans hB2.output,Nat.le_trans hB2.size hb3.size,fun k hk => (hb3.block k (by omega) (by omega)).trans (hB2.block k hk)⟩
   have bx3:=bx2.later hb3 (by omega) (by omega)
   have hfd:=field_tok3
   have tl2:=H2.tlt
   cases hp : treeR X.l with
   | bad j =>
    rw [hp] at hr3
    obtain ⟨⟨h3,H3⟩,rfl⟩:=hr3
    have HX : Hid (parseP s.data.toList = (none,atA X.l j,3)):=HP.out.trans (by rw [hp])
    clear hp
    obtain ⟨W4,hW4,hput4,bx4,d0,d1,d2,d3⟩:=putN4 bx3 (.int .i64 0) (.string ⟨#[]⟩) (.int .i64 0) (.slice none 0 0)
    obtain ⟨u0,u1,u2,u3,b0,b1,b2,b3,bf⟩:=bx3.open
    have bf0:=bf 0
    have bf1:=bf 1
    have bf2:=bf 2
    have bf3:=bf 3
    clear bf
    go_wp2_with fail
    have z4:=hput4.size
    refine (tokenA_any X W4 j h3 (H3.put hput4 (by omega) (by omega))).mono ?_
    rintro e w5 ⟨rfl,hb5⟩
    have z5:=hb5.size
    have bx5:=bx4.below hb5 bx4.lt
    have hB5 : Below w.heap.size w w5:=(below_put hB3 hput4 (Nat.le_refl _)).trans (hb5.mono (by omega))
    clear b0 b1 b2 b3 bf0 bf1 bf2 bf3 d0 d1 d2 d3
    obtain ⟨u0,u1,u2,u3,b0,b1,b2,b3,bf⟩:=bx5.open
    have bf0:=bf 0
    have bf1:=bf 1
    have bf2:=bf 2
    have bf3:=bf 3
    clear bf
    go_wp2
    obtain ⟨Wf,hWf,hput,_,d0,d1,d2,d3⟩:=putN4 bx5 (.int .i64 0) (.string ⟨#[]⟩) (.int .i64 0) (.slice none 0 0)
    rw [hWf]
    exact bodyPost_ret (v:=.tuple #[.agg #[.int .i64 0,.string ⟨#[]⟩,.int .i64 0,.slice none 0 0],.int .i64 (atA X.l j : Nat),.int .i64 3]) (by simp [results,Tryz.results13,go_sem,d0,d1,d2,d3]) rfl (Parsed.of HX ⟨below_put hB5 hput (Nat.le_refl _),rfl⟩)
   | ok t j =>
    rw [hp] at hr3
    obtain ⟨⟨h3,H3⟩,sl,rfl,hk⟩:=hr3
    obtain ⟨ao3,n3,c3,rfl⟩:=hk.slice
    have HX : Hid (parseP s.data.toList = if smallT t then (some t,0,0) else (none,0,4)):=HP.out.trans (by rw [hp])
    clear hp
    obtain ⟨W4,hW4,hput4,bx4,d0,d1,d2,d3⟩:=putN4 bx3 (.int .i64 t.kind) (.string ⟨t.text.toArray⟩) (.int .i64 t.num) (.slice ao3 n3 c3)
    obtain ⟨u0,u1,u2,u3,b0,b1,b2,b3,bf⟩:=bx3.open
    have bf0:=bf 0
    have bf1:=bf 1
    have bf2:=bf 2
    have bf3:=bf 3
    clear bf
    go_wp2_with fail
    have z4:=hput4.size
    have hk4 : KT W4 (Rg w2.heap.size w3.heap.size) t (.slice ao3 n3 c3):=hk.fr (fun b hb => hput4.block b (by omega)) (fun _ h => h)
    refine (small_any t (.slice ao3 n3 c3) _ W4 (fun b hb => by omega) hk4).mono ?_
    rintro e w5 ⟨rfl,hb5⟩
    have z5:=hb5.size
    have bx5:=bx4.below hb5 bx4.lt
    have hB5 : Below w.heap.size w w5:=(below_put hB3 hput4 (Nat.le_refl _)).trans (hb5.mono (by omega))
    have g0:=(hb5.cell (p:=⟨w.heap.size,0,none⟩) (by simp only; omega)).trans d0
    have g1:=(hb5.cell (p:=⟨w.heap.size,1,none⟩) (by simp only; omega)).trans d1
    have g2:=(hb5.cell (p:=⟨w.heap.size,2,none⟩) (by simp only; omega)).trans d2
    have g3:=(hb5.cell (p:=⟨w.heap.size,3,none⟩) (by simp only; omega)).trans d3
    have hk5 : KT w5 (Rg w2.heap.size w3.heap.size) t (.slice ao3 n3 c3):=hk4.fr (fun b hb => hb5.block b (by omega)) (fun _ h => h)
    obtain ⟨_,_,_,_,e5⟩:=id bx5
    have gf : ∀ o,w5.frozen? ⟨w.heap.size,o,none⟩ = false:=fun o => by simp [World.frozen?,e5]
    have bf0':=gf 0
    have bf1':=gf 1
    have bf2':=gf 2
    have bf3':=gf 3
    clear b0 b1 b2 b3 bf0 bf1 bf2 bf3 d0 d1 d2 d3 gf e5
    cases hm : smallT t with
    | false =>
     have HY : Hid (parseP s.data.toList = (none,0,4)):=HX.out.trans (by rw [hm]; rfl)
     clear hm
     go_wp2
     obtain ⟨Wf,hWf,hput,_,d0,d1,d2,d3⟩:=putN4 bx5 (.int .i64 0) (.string ⟨#[]⟩) (.int .i64 0) (.slice none 0 0)
     rw [hWf]
     exact bodyPost_ret (v:=.tuple #[.agg #[.int .i64 0,.string ⟨#[]⟩,.int .i64 0,.slice none 0 0],.int .i64 0,.int .i64 4]) (by simp [results,Tryz.results13,go_sem,d0,d1,d2,d3]) rfl (Parsed.of HY ⟨below_put hB5 hput (Nat.le_refl _),rfl⟩)
    | true =>
     have HY : Hid (parseP s.data.toList = (some t,0,0)):=HX.out.trans (by rw [hm]; rfl)
     clear hm
     go_wp2
     obtain ⟨Wf,hWf,hput,_,d0,d1,d2,d3⟩:=putN4 bx5 (.int .i64 t.kind) (.string ⟨t.text.toArray⟩) (.int .i64 t.num) (.slice ao3 n3 c3)
     rw [hWf]
     exact bodyPost_ret (v:=.tuple #[.agg #[.int .i64 t.kind,.string ⟨t.text.toArray⟩,.int .i64 t.num,.slice ao3 n3 c3],.int .i64 0,.int .i64 0]) (by simp [results,Tryz.results13,go_sem,d0,d1,d2,d3]) rfl (Parsed.of HY ⟨below_put hB5 hput (Nat.le_refl _),_,rfl,hk5.fr (fun b hb => hput.block b (by omega)) (fun b hb => ⟨by omega,by rw [hput.size]; omega⟩)⟩)
 · have HP : Hid (parseP s.data.toList = (none,(scanRes s.data.toList).2.1,(scanRes s.data.toList).2.2)):=by simp [Hid,parseP,he]
   have he' : ((scanRes s.data.toList).2.2 != 0) = true:=by simpa using he
   generalize (scanRes s.data.toList).2.2 = er at *
   generalize (scanRes s.data.toList).2.1 = sat at *
   clear he
   obtain ⟨u0,u1,u2,u3,b0,b1,b2,b3,bf⟩:=bx1.open
   have bf0:=bf 0
   have bf1:=bf 1
   have bf2:=bf 2
   have bf3:=bf 3
   clear bf
   go_wp2
   obtain ⟨Wf,hWf,hput,_,d0,d1,d2,d3⟩:=putN4 bx1 (.int .i64 0) (.string ⟨#[]⟩) (.int .i64 0) (.slice none 0 0)
   rw [hWf]
   exact bodyPost_ret (v:=.tuple #[.agg #[.int .i64 0,.string ⟨#[]⟩,.int .i64 0,.slice none 0 0],.int .i64 (sat : Nat),.int .i64 er]) (by simp [results,Tryz.results13,go_sem,d0,d1,d2,d3]) rfl (Parsed.of HP ⟨below_put hB1 hput (Nat.le_refl _),rfl⟩)
end Go.Proofs.YtffnaknidofobaaGreatDoor
