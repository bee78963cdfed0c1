/- The parser is made of a text's tokens. -/
import Derived.Test.YtnkphlkjhgngkaaGreatDoorParCJt
import Derived.Test.YtnkphlkjhgngkaaGreatDoorScanJt
namespace Go.Proofs.YtnkphlkjhgngkaaGreatDoor
open Go.RowKit
theorem tks_get : ∀ {ts : List Tk} {k : Nat} {t : Tk},ts[k]? = some t →
    (tksCells ts)[k * 4]? = some (.int .i64 t.1) ∧ (tksCells ts)[k * 4 + 1]? = some (.string ⟨t.2.1.toArray⟩) ∧ (tksCells ts)[k * 4 + 2]? = some (.int .i64 t.2.2.1) ∧ (tksCells ts)[k * 4 + 3]? = some (.int .i64 t.2.2.2)
  | t :: ts,0,_,h1 => by simp at h1; subst h1; simp [tksCells,tkCells]
  | t :: ts,k + 1,_,h1 => by
   simp at h1
   have:=tks_get (ts:=ts) h1
   have e : tksCells (t :: ts) = Value.int .i64 t.1 :: .string ⟨t.2.1.toArray⟩ :: .int .i64 t.2.2.1 :: .int .i64 t.2.2.2 :: tksCells ts:=by simp [tksCells,tkCells]
   rw [e,show (k + 1) * 4 = k * 4 + 1 + 1 + 1 + 1 by omega]
   simpa [Nat.add_assoc] using this
  | [],_,_,h1 => by simp at h1
set_option maxRecDepth 20000 in
set_option maxHeartbeats 1600000 in
theorem newParser_any (w : World) (B : Nat) (toks : List Tk) (len : Nat) (v : Value) (hcap : toks.length ≤ 20000) (hB : B ≤ w.heap.size) (hO : w.ownsRow B 46 4 v toks.length (tksCells toks)) :
    Calls Tryz.prog 18 #[v,.int .i64 len] w fun e w' => ∃ X : Px,X.toks = toks ∧ X.len = len ∧ e = .returned X.p ∧ Par X w' 0 false ∧ Below B w w' ∧ B ≤ X.P ∧ B ≤ X.tb:=by
  obtain ⟨ao,c,rfl⟩:=owns_form hO
  have hl:=hO.lt
  have hO1 : (w.alloc (.cells #[.int .i64 4,.string ⟨#[]⟩,.int .i64 0,.int .i64 len] 46)).ownsRow B 46 4 (.slice ao toks.length c) toks.length (tksCells toks):=hO.alloc _
  have hb1 : Below B w (w.alloc (.cells #[.int .i64 4,.string ⟨#[]⟩,.int .i64 0,.int .i64 len] 46)):=(Below.refl _ _).alloc hB _
  obtain ⟨i0,hi,hz0,hzz1,hzz2⟩:=info_parts Tryz.info46
  go_enter Tryz.func18,Tryz.ntmps18
  go_wp2_with (at_builtin; refine wpList_append_lies _ rfl _ _ 32 rfl B 46 i0 _ 4 40 Tryz.underlying32 hi hz0 hzz1 hzz2 rfl (by decide) _ _ _ rfl hO1 ⟨w.heap.size,0,none⟩ 1 1 [.int .i64 4,.string ⟨#[]⟩,.int .i64 0,.int .i64 len] rfl rfl ?c1 ?c2 (by decide) ?c3 ?c4 ?c5 (w.heap.size + 1) ?c6 ?_)
  case c1 =>
   intro j u hj
   match j,hj with
   | 0,hj => simp at hj; subst hj; simp [Addr.add]
   | 1,hj => simp at hj; subst hj; simp [Addr.add]
   | 2,hj => simp at hj; subst hj; simp [Addr.add]
   | 3,hj => simp at hj; subst hj; simp [Addr.add]
  case c2 => intro u hu; simp at hu; rcases hu with rfl | rfl | rfl | rfl <;> rfl
  case c3 => unfold maxLen; omega
  case c4 => omega
  case c5 => simp; omega
  case c6 => simp
  intro g cap w5 hO5 hg5 hat5 hlt5
  have hb5 : Below B w w5:=hb1.grown hg5 (by simp; omega) (fun k hk => (hl k hk).1)
  have z5:=hg5.size
  rw [World.size_alloc] at z5
  have hgB : B ≤ g:=by
   rcases hat5 with e | e
   · exact (hl g e).1
   · omega
  clear hi hz0 hzz1 hzz2 i0
  go_wp2
  go_ret
  have hcells : tksCells toks ++ [.int .i64 4,.string ⟨#[]⟩,.int .i64 0,.int .i64 len] = tksCells (toks ++ [((4 : Int),([] : List UInt8),(0 : Int),len)]):=by simp [tksCells,tkCells]
  rw [hcells] at hO5
  refine ⟨⟨w5.heap.size,g,cap,toks,len⟩,rfl,rfl,rfl,⟨?_,?_,?_,?_,hcap⟩,hb5.alloc (by omega) _,by simp only; omega,hgB⟩
  · have:=heap_alloc_new w5 (.cells #[.slice (some ⟨g,0,none⟩) (toks.length + 1) cap,.int .i64 0,.bool false] 69)
    rw [this]; simp [Px.l]
  · intro j t hj
    have hq:=tks_get (ts:=toks ++ [((4 : Int),([] : List UInt8),(0 : Int),len)]) hj
    have r : ∀ o u,(tksCells (toks ++ [((4 : Int),([] : List UInt8),(0 : Int),len)]))[o]? = some u → (w5.alloc (.cells #[.slice (some ⟨g,0,none⟩) (toks.length + 1) cap,.int .i64 0,.bool false] 69)).cell? ⟨g,o,none⟩ = some u:=fun o u ho => by
     rw [World.cell?_alloc_lt _ _ _ (by exact hlt5)]
     rcases hO5.2 with ⟨e,_⟩ | ⟨g',cap',cur,hv,_,hg,_,_,_,htk⟩
     · cases e
     · cases hv
       rw [← htk] at ho
       have ho' : cur[o]? = some u:=by
        rw [List.getElem?_take] at ho
        split at ho
        · simpa using ho
        · cases ho
       simp [World.cell?,hg,ho']
    exact ⟨r _ _ hq.1,r _ _ hq.2.1,r _ _ hq.2.2.1,r _ _ hq.2.2.2⟩
  · simp only; omega
  · simp [Px.l]
end Go.Proofs.YtnkphlkjhgngkaaGreatDoor
