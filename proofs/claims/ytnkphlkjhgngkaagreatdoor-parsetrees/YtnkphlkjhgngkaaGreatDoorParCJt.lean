/- The parser's parts that answer lists: within, between, upTo, commas, listed, members. -/
import Derived.Test.YtnkphlkjhgngkaaGreatDoorParBJt
import Derived.Deep.Onto
import Derived.Laws.Closers25b
namespace Go.Proofs.YtnkphlkjhgngkaaGreatDoor
open Go.RowKit
theorem ownsRow_fr {w w' : World} {base : Nat} {e : TypeId} {size : Nat} {v : Value} {n : Nat} {xs : List Value} (hw : ∀ b,base ≤ b → b < w.heap.size → w'.heap[b]? = w.heap[b]?) (h : w.ownsRow base e size v n xs) : w'.ownsRow base e size v n xs:=by
 refine ⟨h.1,?_⟩
 rcases h.2 with hn | ⟨g,cap,cur,rfl,hb,hg,rest⟩
 · exact .inl hn
 · exact .inr ⟨g,cap,cur,rfl,hb,(hw g hb (lt_of_block hg)).trans hg,rest⟩
theorem OwnL.later {w w' : World} {B : Nat} {v : Value} {ts : List Tr} (h : OwnL w B v ts) (hz : w.heap.size ≤ w'.heap.size) (hw : ∀ b,B ≤ b → b < w.heap.size → w'.heap[b]? = w.heap[b]?) : OwnL w' B v ts:=by
 obtain ⟨sls,h1,h2⟩:=h
 exact ⟨sls,ownsRow_fr hw h1,h2.fr (fun b hb => hw b hb.1.1 hb.1.2) (fun b hb => ⟨⟨hb.1.1,by omega⟩,hb.2⟩)⟩
theorem OwnL.wide {w : World} {B C : Nat} {v : Value} {ts : List Tr} (h : OwnL w B v ts) (hC : C ≤ B) : OwnL w C v ts:=by
 obtain ⟨sls,h1,h2⟩:=h
 exact ⟨sls,h1.mono hC,h2.fr (Fr.refl _ _) (fun b hb => ⟨⟨by omega,hb.1.2⟩,hb.2⟩)⟩
theorem OwnL.but {w w' : World} {B P D : Nat} {v : Value} {ts : List Tr} (h : OwnL w B v ts) (hb : But P D w w') (h1 : w.heap.size ≤ D) (h2 : P < B) : OwnL w' B v ts :=
  h.later hb.size (fun b hb1 hb2 => hb.block b (by omega) (by omega))
theorem OwnL.below {w w' : World} {B D : Nat} {v : Value} {ts : List Tr} (h : OwnL w B v ts) (hb : Below D w w') (h1 : w.heap.size ≤ D) : OwnL w' B v ts :=
  h.later hb.size (fun b _ hb2 => hb.block b (by omega))
theorem OwnL.slice {w : World} {B : Nat} {v : Value} {ts : List Tr} (h : OwnL w B v ts) : ∃ ao cap,v = .slice ao ts.length cap:=by
 obtain ⟨sls,h1,_⟩:=h
 rcases h1.2 with ⟨rfl,e⟩ | ⟨g,cap,cur,rfl,_⟩
 · exact ⟨none,0,by rw [e]⟩
 · exact ⟨_,cap,rfl⟩
theorem OwnL.nil (w : World) (B : Nat) : OwnL w B (.slice none 0 0) []:=⟨[],World.ownsRow_nil _ _ _ _,by simp [KL]⟩
/-- A slice that is built of trees. -/
theorem OwnL.made {w : World} {B : Nat} {ts : List Tr} {sls : List Value} {c : Array Value} (hB : B ≤ w.heap.size) (hk : KL w (Rg B w.heap.size) ts sls) (hc : c = (cellsOf ts sls).toArray) (hn : ts.length ≤ 1000000) :
    OwnL (w.alloc (.cells c 24)) B (.slice (some ⟨w.heap.size,0,none⟩) ts.length ts.length) ts:=by
  subst hc
  have hl:=cellsOf_length hk.length
  refine ⟨sls,⟨hl,.inr ⟨w.heap.size,ts.length,_,rfl,hB,heap_alloc_new w _,Nat.le_refl _,by unfold maxLen; omega,by simpa using hl,?_⟩⟩,?_⟩
  · rw [List.take_of_length_le (by simp [hl])]
  · exact hk.fr (fun b hb => Below.heap_alloc w _ b hb.2) (fun b hb => ⟨⟨hb.1,by simp; omega⟩,by simp [Value.ownBlock]; omega⟩)
theorem OwnL.one {w : World} {B lo hi : Nat} {t : Tr} {sl : Value} (hB : B ≤ w.heap.size) (hk : KT w (Rg lo hi) t sl) (h1 : B ≤ lo) (h2 : hi ≤ w.heap.size) :
    OwnL (w.alloc (.cells #[.int .i64 t.kind,.string ⟨t.text.toArray⟩,.int .i64 t.num,sl] 24)) B (.slice (some ⟨w.heap.size,0,none⟩) 1 1) [t] :=
  OwnL.made (ts:=[t]) (sls:=[sl]) hB (by simp only [KL]; exact ⟨sl,[],rfl,hk.fr (Fr.refl _ _) (fun b hb => by omega),rfl⟩) rfl (by simp)
/-- A tree's kids out of an own list. -/
theorem OwnL.kt {w : World} {B : Nat} {v : Value} {ts : List Tr} (h : OwnL w B v ts) (k : Int) (s : List UInt8) (n : Int) : KT w (Rg B w.heap.size) (.mk k s n ts) v:=by
 obtain ⟨sls,h1,h2⟩:=h
 simp only [KT]
 refine ⟨sls,?_,h2.fr (Fr.refl _ _) (fun b hb => hb.1)⟩
 rcases h1.2 with ⟨rfl,e⟩ | ⟨g,cap,cur,rfl,hb,hg,hcap,_,hsz,htk⟩
 · exact .inl ⟨e,none,0,rfl⟩
 · refine .inr ⟨g,0,cap,rfl,hcap,⟨hb,lt_of_block hg⟩,fun j u hj => ?_⟩
   rw [← htk] at hj
   have hj' : cur[j]? = some u:=by
    rw [List.getElem?_take] at hj
    split at hj
    · simpa using hj
    · cases hj
   simp [World.cell?,hg,hj']
/-- One tree more. -/
theorem own_snoc {W w3 : World} {B lo hi : Nat} {v v' : Value} {acc : List Tr} {sls : List Value} {t : Tr} {sl : Value} {g : Nat} (hk : KL W (fun b => (B ≤ b ∧ b < lo) ∧ some b ≠ v.ownBlock) acc sls) (ht : KT W (Rg lo hi) t sl)
    (hB : B ≤ lo) (hlo : lo ≤ W.heap.size) (hv : ∀ k,v.ownBlock = some k → k < lo) (hhi : hi ≤ W.heap.size) (hown : w3.ownsRow B 24 4 v' (acc.length + 1) (cellsOf acc sls ++ [.int .i64 t.kind,.string ⟨t.text.toArray⟩,.int .i64 t.num,sl]))
    (hg : W.grownBy w3 v.ownBlock) (hat : v.ownBlock = some g ∨ g = W.heap.size) (hv' : v'.ownBlock = some g) : OwnL w3 B v' (acc ++ [t]):=by
  have hz:=hg.size
  refine ⟨sls ++ [sl],?_,?_⟩
  · rw [cellsOf_append hk.length]
    simpa [cellsOf] using hown
  · refine KL.append (hk.fr (fun b hb => hg.block b (by omega) hb.2) (fun b hb => ⟨⟨hb.1.1,by omega⟩,?_⟩)) ?_
    · rw [hv']
      rcases hat with e | e
      · rw [← e]; exact hb.2
      · intro e2; cases e2; omega
    · simp only [KL]
      refine ⟨sl,[],rfl,ht.fr (fun b hb => hg.block b (by omega) (fun e => by have:=hv b e.symm; omega)) (fun b hb => ⟨⟨by omega,by omega⟩,?_⟩),rfl⟩
      rw [hv']
      rcases hat with e | e
      · intro e2; cases e2; have:=hv g e; omega
      · intro e2; cases e2; omega
theorem Tryz.info24 : (Tryz.prog.info? 24).map (fun i => (i.zero,i.size,i.bytes)) = some (some (.agg #[.int .i64 0,.string ⟨#[]⟩,.int .i64 0,.slice none 0 0]),4,56):=by kernel_rfl
set_option maxRecDepth 20000 in
set_option maxHeartbeats 800000 in
theorem withinL_any (X : Px) (w : World) (i : Nat) (h g : Bool) (r : Res (List Tr)) (f : Nat) (bs ls : Array Value) (he : Enters Tryz.prog f) (H : Par X w i h)
    (hI : ∀ w1,But X.P w.heap.size w w1 → w1.heap.size = w.heap.size → Par X w1 i g → Calls Tryz.prog f (bs ++ ls) w1 (OutL X w1 i g r)) :
    Calls Tryz.prog 154 #[X.p,.bool g,.func (.func f) bs ls] w (OutL X w i h r):=by
  have eg : ∀ args w,(callFunc f args).run Tryz.prog w = .ok (.enter f args) w:=he
  have c2:=H.c2
  have f2:=H.fz 2
  have hpl:=H.plt
  have hb1 : But X.P w.heap.size w (w.setCell ⟨X.P,2,none⟩ (.bool g)):=(But.refl _ _ _).setCell (p:=⟨X.P,2,none⟩) (.inl rfl) _
  have H1 : Par X (w.setCell ⟨X.P,2,none⟩ (.bool g)) i g:=H.head g
  have hz1 : (w.setCell ⟨X.P,2,none⟩ (.bool g)).heap.size = w.heap.size:=by simp
  go_enter Tryz.func154,Tryz.ntmps154
  go_wp2_with fail
  clear c2 f2
  generalize (w.setCell ⟨X.P,2,none⟩ (.bool g)) = W1 at *
  refine (hI W1 hb1 hz1 H1).mono ?_
  rintro e w2 ⟨hb2,hr⟩
  cases r with
  | bad j =>
   obtain ⟨rfl,h',H2⟩:=hr
   exact ⟨rfl,hb1.trans (hb2.mono (by omega)),rfl,h',H2⟩
  | ok ts j =>
   obtain ⟨hij,H2,v,rfl,hk⟩:=hr
   obtain ⟨ao,cap,rfl⟩:=hk.slice
   have f2:=H2.fz 2
   have c2:=H2.c2
   go_wp2
   go_ret
   exact ⟨(hb1.trans (hb2.mono (by omega))).setCell (p:=⟨X.P,2,none⟩) (.inl rfl) _,hij,H2.head h,_,rfl,(hk.later (by simp) (fun b hb _ => Below.heap_setCell _ _ _ _ (by simp only; omega))).wide (by omega)⟩
set_option maxRecDepth 20000 in
set_option maxHeartbeats 800000 in
theorem betweenL_any (X : Px) (w : World) (i : Nat) (h : Bool) (pr : Nat → Res (List Tr)) (f : Nat) (bs ls : Array Value) (he : Enters Tryz.prog f) (H : Par X w i h) (o s : List UInt8) (ho : o ≠ []) (hs : s ≠ [])
    (hI : isM X.l i o = true → ∀ w1,But X.P w.heap.size w w1 → Par X w1 (i + 1) false → Calls Tryz.prog f (bs ++ ls) w1 (OutL X w1 (i + 1) false (pr (i + 1)))) :
    Calls Tryz.prog 130 #[X.p,.string ⟨o.toArray⟩,.string ⟨s.toArray⟩,.func (.func f) bs ls] w (fun e w' => OutL X w i h (betweenR X.l o s pr i) e w' ∧ ∀ ts j,betweenR X.l o s pr i = .ok ts j → i < j):=by
  have hpl:=H.plt
  have htl:=H.tlt
  cases hm : isM X.l i o with
  | false =>
   have HR : Hid (betweenR X.l o s pr i = .bad i):=by simp [Hid,betweenR,needR,hm,Res.bind]
   have cN:=need_no X w i h H o hm
   clear hm hI
   go_enter Tryz.func130,Tryz.ntmps130
   go_wp2_with fail
   refine cN.mono ?_
   rintro e w1 ⟨rfl,hb1,H1⟩
   exact ⟨rfl,OutL.of HR ⟨hb1,rfl,h,H1⟩,fun ts j e => by rw [HR.out] at e; cases e⟩
  | true =>
   have cN:=need_yes X w i h H o ho hm
   have HI:=hI hm
   have HR : Hid (betweenR X.l o s pr i = (pr (i + 1)).bind fun a i => (needR X.l s i).bind fun _ i => .ok a i):=by simp [Hid,betweenR,needR,hm,Res.bind]
   clear hm hI
   go_enter Tryz.func130,Tryz.ntmps130
   go_wp2_with fail
   refine cN.mono ?_
   rintro e w1 ⟨rfl,hb1,H1⟩
   have hz1:=hb1.size
   clear cN
   go_wp2_with fail
   refine (withinL_any X w1 (i + 1) h false (pr (i + 1)) f bs ls he H1 (fun w2 hb2 _ H2 => HI w2 (hb1.trans (hb2.mono (by omega))) H2)).mono ?_
   rintro e w2 ⟨hb2,hr⟩
   have hz2:=hb2.size
   have hB2 : But X.P w.heap.size w w2:=hb1.trans (hb2.mono (by omega))
   clear HI
   generalize pr (i + 1) = r at *
   cases r with
   | bad j =>
    obtain ⟨rfl,h',H2⟩:=hr
    exact ⟨rfl,OutL.of HR ⟨hB2,rfl,h',H2⟩,fun ts j e => by rw [HR.out] at e; cases e⟩
   | ok ts j =>
    obtain ⟨hij,H2,v,rfl,hk⟩:=hr
    obtain ⟨ao,cap,rfl⟩:=hk.slice
    cases hm : isM X.l j s with
    | false =>
     have HR2 : Hid (betweenR X.l o s pr i = .bad j):=HR.out.trans (by simp [Res.bind,needR,hm])
     have cN:=need_no X _ j h H2 s hm
     clear hm HR
     go_wp2_with fail
     refine cN.mono ?_
     rintro e w3 ⟨rfl,hb3,H4⟩
     exact ⟨rfl,OutL.of HR2 ⟨hB2.trans (hb3.mono (by omega)),rfl,h,H4⟩,fun ts j e => by rw [HR2.out] at e; cases e⟩
    | true =>
     have HR2 : Hid (betweenR X.l o s pr i = .ok ts (j + 1)):=HR.out.trans (by simp [Res.bind,needR,hm])
     have cN:=need_yes X _ j h H2 s hs hm
     clear hm HR
     go_wp2_with fail
     refine cN.mono ?_
     rintro e w3 ⟨rfl,hb3,H4⟩
     go_wp2
     go_ret
     exact ⟨OutL.of HR2 ⟨hB2.trans (hb3.mono (by omega)),by omega,H4,_,rfl,(hk.but hb3 (Nat.le_refl _) (by omega)).wide (by omega)⟩,fun ts' j' e => by rw [HR2.out] at e; cases e; omega⟩
end Go.Proofs.YtnkphlkjhgngkaaGreatDoor
