/- Sorting by exchanging neighbours: plain. -/
import Derived.Test.YtimpmgbahgganaaRhMJp
import Derived.Test.YtimpmgbahgganaaHpJ
import Derived.Test.YtimpmgbahgganaaRhOJp
import Derived.Test.YtimpmgbahgganaaRhSJp
import Derived.Test.YtimpmgbahgganaaRhCJp
namespace Go.Proofs.Ytimpmgbahgganaa
/-- Two neighbours exchanged. -/
def swp (l : List Nat) (k x y : Nat) : List Nat := (l.set k y).set (k - 1) x
/-- While the k-th goes down. -/
structure Srt (l0 l : List Nat) (i k : Nat) : Prop where
  len : l.length = l0.length
  mem : ∀ x, x ∈ l ↔ x ∈ l0
  inj : ∀ (a b x : Nat), l[a]? = some x → l[b]? = some x → a = b
  srt : ∀ (a b x y : Nat), a < b → b ≤ i → b ≠ k → l[a]? = some x → l[b]? = some y → x ≤ y
/-- Those ahead of i are in order. -/
structure Srd (l0 l : List Nat) (i : Nat) : Prop where
  len : l.length = l0.length
  mem : ∀ x, x ∈ l ↔ x ∈ l0
  inj : ∀ (a b x : Nat), l[a]? = some x → l[b]? = some x → a = b
  srt : ∀ (a b x y : Nat), a < b → b < i → l[a]? = some x → l[b]? = some y → x ≤ y
section
variable {l0 l : List Nat} {i k x y : Nat}
theorem swp_get (h1 : 0 < k) (h2 : k < l.length) (j : Nat) : (swp l k x y)[j]? = if j = k - 1 then some x else if j = k then some y else l[j]? := by
  unfold swp
  rw [List.getElem?_set, List.length_set]
  by_cases e1 : j = k - 1
  · rw [if_pos e1, if_pos e1.symm, if_pos (by omega)]
  · rw [if_neg e1, if_neg (fun e => e1 e.symm), List.getElem?_set]
    by_cases e2 : j = k
    · rw [if_pos e2, if_pos e2.symm, if_pos h2]
    · rw [if_neg e2, if_neg (fun e => e2 e.symm)]
theorem Srd.begin' (S : Srd l0 l i) : Srt l0 l i i := ⟨S.len, S.mem, S.inj, fun a b x y h1 h2 h3 => S.srt a b x y h1 (by omega)⟩
theorem Srt.swap (S : Srt l0 l i k) (h0 : 0 < k) (hk : k ≤ i) (hx : l[k]? = some x) (hy : l[k - 1]? = some y) (hlt : x < y) : Srt l0 (swp l k x y) i (k - 1) := by
  have hl := get_lt hx
  have g := swp_get (l := l) (x := x) (y := y) h0 hl
  refine ⟨by simp [swp, S.len], fun z => ?_, fun a b z ha hb => ?_, fun a b u v h1 h2 h3 ha hb => ?_⟩
  · rw [← S.mem z]
    constructor
    · intro hz
      obtain ⟨j, hj⟩ := List.getElem?_of_mem hz
      rw [g] at hj
      split at hj
      · cases hj; exact List.mem_of_getElem? hx
      · split at hj
        · cases hj; exact List.mem_of_getElem? hy
        · exact List.mem_of_getElem? hj
    · intro hz
      obtain ⟨j, hj⟩ := List.getElem?_of_mem hz
      by_cases e1 : j = k
      · subst e1
        rw [hx] at hj; cases hj
        exact List.mem_of_getElem? (i := j - 1) (by rw [g, if_pos rfl])
      · by_cases e2 : j = k - 1
        · subst e2
          rw [hy] at hj; cases hj
          exact List.mem_of_getElem? (i := k) (by rw [g, if_neg (by omega), if_pos rfl])
        · exact List.mem_of_getElem? (i := j) (by rw [g, if_neg e2, if_neg e1]; exact hj)
  · rw [g] at ha hb
    have key : ∀ c, (if c = k - 1 then some x else if c = k then some y else l[c]?) = some z → ∃ d, l[d]? = some z ∧ ((c = k - 1 ∧ d = k) ∨ (c = k ∧ d = k - 1) ∨ (c = d ∧ c ≠ k ∧ c ≠ k - 1)) := fun c hc => by
      split at hc
      · cases hc; exact ⟨k, hx, .inl ⟨by assumption, rfl⟩⟩
      · split at hc
        · cases hc; exact ⟨k - 1, hy, .inr (.inl ⟨by assumption, rfl⟩)⟩
        · exact ⟨c, hc, .inr (.inr ⟨rfl, by assumption, by assumption⟩)⟩
    obtain ⟨d, hd, cd⟩ := key a ha
    obtain ⟨e, he, ce⟩ := key b hb
    have := S.inj d e z hd he
    omega
  · rw [g] at ha hb
    rw [if_neg h3] at hb
    by_cases eb : b = k
    · subst eb
      rw [if_pos rfl] at hb; cases hb
      by_cases ea : a = b - 1
      · rw [if_pos ea] at ha; cases ha; omega
      · rw [if_neg ea, if_neg (by omega)] at ha
        exact S.srt a (b - 1) u y (by omega) (by omega) (by omega) ha hy
    · rw [if_neg eb] at hb
      by_cases ea : a = k - 1
      · rw [if_pos ea] at ha; cases ha
        exact S.srt k b x v (by omega) h2 eb hx hb
      · rw [if_neg ea] at ha
        by_cases ea2 : a = k
        · rw [if_pos ea2] at ha; cases ha
          exact S.srt (k - 1) b y v (by omega) h2 eb hy hb
        · rw [if_neg ea2] at ha
          exact S.srt a b u v h1 h2 eb ha hb
theorem Srt.stop0 (S : Srt l0 l i 0) : Srd l0 l (i + 1) := ⟨S.len, S.mem, S.inj, fun a b x y h1 h2 => S.srt a b x y h1 (by omega) (by omega)⟩
theorem Srt.stop (S : Srt l0 l i k) (h0 : 0 < k) (hk : k ≤ i) (hx : l[k]? = some x) (hy : l[k - 1]? = some y) (hge : y ≤ x) : Srd l0 l (i + 1) := ⟨S.len, S.mem, S.inj, fun a b u v h1 h2 ha hb => by
  by_cases e : b = k
  · subst e
    rw [hx] at hb; cases hb
    by_cases e2 : a = b - 1
    · subst e2
      rw [hy] at ha; cases ha; exact hge
    · exact Nat.le_trans (S.srt a (b - 1) u y (by omega) (by omega) (by omega) ha hy) hge
  · exact S.srt a b u v h1 (by omega) e ha hb⟩
/-- Two rising lists of the same numbers are the same. -/
theorem rise_eq : ∀ {l m : List Nat}, l.Pairwise (· < ·) → m.Pairwise (· < ·) → (∀ x, x ∈ l ↔ x ∈ m) → l = m
  | [], [], _, _, _ => rfl
  | [], b :: m, _, _, h => by have := (h b).2 (by simp); cases this
  | a :: l, [], _, _, h => by have := (h a).1 (by simp); cases this
  | a :: l, b :: m, hl, hm, h => by
    rw [List.pairwise_cons] at hl hm
    have hab : a = b := by
      have h1 := (h a).1 (by simp)
      have h2 := (h b).2 (by simp)
      simp only [List.mem_cons] at h1 h2
      rcases h1 with h1 | h1
      · exact h1
      · rcases h2 with h2 | h2
        · exact h2.symm
        · have := hm.1 a h1; have := hl.1 b h2; omega
    subst hab
    congr 1
    refine rise_eq hl.2 hm.2 fun x => ?_
    have hx := h x
    simp only [List.mem_cons] at hx
    constructor
    · intro h1
      rcases hx.1 (.inr h1) with e | e
      · have := hl.1 x h1; omega
      · exact e
    · intro h1
      rcases hx.2 (.inr h1) with e | e
      · have := hm.1 x h1; omega
      · exact e
theorem Srd.done (S : Srd l0 l l.length) {m : List Nat} (hm : m.Pairwise (· < ·)) (h : ∀ x, x ∈ l0 ↔ x ∈ m) : l = m := by
  refine rise_eq ?_ hm fun x => (S.mem x).trans (h x)
  rw [List.pairwise_iff_getElem]
  intro a b ha hb hab
  have h1 := S.srt a b l[a] l[b] hab hb (by simp) (by simp)
  have h2 : l[a] ≠ l[b] := fun e => by
    have := S.inj a b l[a] (by simp) (by rw [e]; simp)
    omega
  omega
theorem srd_new {l : List Nat} (hi : ∀ (a b x : Nat), l[a]? = some x → l[b]? = some x → a = b) : Srd l l 0 := ⟨rfl, fun _ => Iff.rfl, hi, fun a b x y _ h => by omega⟩
end
end Go.Proofs.Ytimpmgbahgganaa

namespace Go.Proofs.Ytimpmgbahgganaa
open Go.RowKit Go.Maps
/-- Of the first j objects: those that stay, and the first words of the others. -/
def keptN (q : Rh) (F : Nat → Bool) (j : Nat) : List Ro := (q.ob.take j).filter fun o => F o.a
def leftN (q : Rh) (F : Nat → Bool) (j : Nat) : List Nat := ((q.ob.take j).filter fun o => !F o.a).map (·.a)
section
variable {q : Rh} {h : Hs} {F : Nat → Bool} {j : Nat} {o : Ro}
theorem take_one {α : Type} {l : List α} {x : α} (hj : l[j]? = some x) : l.take (j + 1) = l.take j ++ [x] := by rw [List.take_add_one, hj]; rfl
theorem kept_yes (hj : q.ob[j]? = some o) (hf : F o.a = true) : keptN q F (j + 1) = keptN q F j ++ [o] ∧ leftN q F (j + 1) = leftN q F j := by
  unfold keptN leftN
  rw [take_one hj, List.filter_append, List.filter_append]
  simp [hf]
theorem kept_no (hj : q.ob[j]? = some o) (hf : F o.a = false) : keptN q F (j + 1) = keptN q F j ∧ leftN q F (j + 1) = leftN q F j ++ [o.a] := by
  unfold keptN leftN
  rw [take_one hj, List.filter_append, List.filter_append]
  simp [hf]
theorem kept_len (j : Nat) : (keptN q F j).length + (leftN q F j).length = (q.ob.take j).length := by
  unfold keptN leftN
  rw [List.length_map]
  generalize q.ob.take j = l
  induction l with
  | nil => rfl
  | cons a r ih =>
    cases hf : F a.a <;> simp [hf] <;> omega
/-- All of them. -/
def kept (q : Rh) (F : Nat → Bool) : List Ro := q.ob.filter fun o => F o.a
def left (q : Rh) (F : Nat → Bool) : List Nat := (q.ob.filter fun o => !F o.a).map (·.a)
theorem kept_all : keptN q F q.ob.length = kept q F ∧ leftN q F q.ob.length = left q F := by unfold keptN leftN kept left; rw [List.take_length]; exact ⟨rfl, rfl⟩
theorem left_mem (S : SimH h q) (I : HInv h) (x : Nat) : x ∈ left q F ↔ x ∈ gone h F := by
  unfold left gone
  rw [List.mem_filter, live_iff I, List.mem_map]
  constructor
  · rintro ⟨o, ho, rfl⟩
    rw [List.mem_filter] at ho
    obtain ⟨i, hi⟩ := List.getElem?_of_mem ho.1
    exact ⟨⟨_, (S.ob o.a o.t o.n).2 ⟨i, hi⟩⟩, ho.2⟩
  · rintro ⟨⟨⟨t, n⟩, hx⟩, hf⟩
    obtain ⟨i, hi⟩ := (S.ob x t n).1 hx
    exact ⟨⟨x, t, n⟩, List.mem_filter.2 ⟨List.mem_of_getElem? hi, hf⟩, rfl⟩
theorem left_nd (S : SimH h q) : (left q F).Nodup := by
  unfold left
  exact S.nd.sublist (List.filter_sublist.map _)
theorem gone_rise (I : HInv h) : (gone h F).Pairwise (· < ·) := (live_row I.inv.row).1.filter _
theorem gone_ob (I : HInv h) {a : Nat} (ha : a ∈ gone h F) : ∃ o, h.ob a = some o := (live_iff I a).1 (List.mem_filter.1 ha).1
/-- What lies behind j frees. -/
structure Frd (h : Hs) (q : Rh) (F : Nat → Bool) (j : Nat) (r : Rs) : Prop where
  sim : Sim (freeAll h ((gone h F).take j)).s r
  fd : r.fd = q.r.fd + j
theorem frd_new (S : SimH h q) : Frd h q F 0 q.r := ⟨by simpa [freeAll] using S.sim, rfl⟩
theorem pre_inv (I : HInv h) (j : Nat) : HInv (freeAll h ((gone h F).take j)) ∧ ∀ b, (freeAll h ((gone h F).take j)).ob b = if b ∈ (gone h F).take j then none else h.ob b := by
  have nd : (gone h F).Nodup := (gone_rise I).imp (fun {_ _} h => Nat.ne_of_lt h)
  obtain ⟨h1, h2, _⟩ := freeAll_inv I ((gone h F).take j) (nd.sublist (List.take_sublist _ _)) (fun a ha => gone_ob I (List.mem_of_mem_take ha))
  exact ⟨h1, h2⟩
theorem Frd.next (I : HInv h) {r : Rs} (D : Frd h q F j r) {a i : Nat} {p : Rp} (ha : (gone h F)[j]? = some a) (hat : AtR r.ps a (some i)) (hp : r.ps[i]? = some p) : Frd h q F (j + 1) (rFree r i p) := by
  obtain ⟨I1, hob⟩ := pre_inv (F := F) I j
  obtain ⟨⟨t, n⟩, ho⟩ := gone_ob I (List.mem_of_getElem? ha)
  have nd : (gone h F).Nodup := (gone_rise I).imp (fun {_ _} h => Nat.ne_of_lt h)
  have hn : a ∉ (gone h F).take j := fun hm => by
    obtain ⟨k, hk⟩ := List.getElem?_of_mem hm
    rw [List.getElem?_take] at hk
    split at hk
    · have := nd_inj nd hk ha; omega
    · cases hk
  have ho1 : (freeAll h ((gone h F).take j)).ob a = some (t, n) := by rw [hob a, if_neg hn]; exact ho
  obtain ⟨f, i', p', O, hb, hpn, hfr⟩ := I1.beg ho1
  have hbs := at_sim I1.inv D.sim hat
  rw [hb] at hbs
  cases hbs
  refine ⟨?_, by show r.fd + 1 = _; rw [D.fd]; omega⟩
  rw [take_one ha, freeAll_snoc, hfr]
  exact sim_free I1.inv D.sim O.ps hp hpn
theorem Frd.at_ (I : HInv h) {r : Rs} (D : Frd h q F j r) {a : Nat} (ha : (gone h F)[j]? = some a) : ¬ AtR r.ps a none := by
  intro hn
  obtain ⟨I1, hob⟩ := pre_inv (F := F) I j
  obtain ⟨⟨t, n⟩, ho⟩ := gone_ob I (List.mem_of_getElem? ha)
  have nd : (gone h F).Nodup := (gone_rise I).imp (fun {_ _} h => Nat.ne_of_lt h)
  have hn' : a ∉ (gone h F).take j := fun hm => by
    obtain ⟨k, hk⟩ := List.getElem?_of_mem hm
    rw [List.getElem?_take] at hk
    split at hk
    · have := nd_inj nd hk ha; omega
    · cases hk
  have ho1 : (freeAll h ((gone h F).take j)).ob a = some (t, n) := by rw [hob a, if_neg hn']; exact ho
  obtain ⟨f, i', p', O, hb, hpn, hfr⟩ := I1.beg ho1
  have hbs := at_sim I1.inv D.sim hn
  rw [hb] at hbs
  cases hbs
/-- The two heaps behind it. -/
theorem Frd.simH (S : SimH h q) (I : HInv h) {r : Rs} (D : Frd h q F (gone h F).length r) : SimH (freeAll h (gone h F)) { q with r := r, ob := kept q F } := by
  obtain ⟨_, hob, hty, _⟩ := gone_inv I F
  have hs := D.sim
  rw [List.take_length] at hs
  refine ⟨hty.trans S.ty, hs, fun a t n => ?_, S.nd.sublist (List.filter_sublist.map _)⟩
  rw [hob a]
  constructor
  · intro hh
    split at hh
    · rename_i hf
      obtain ⟨i, hi⟩ := (S.ob a t n).1 hh
      have hm : (⟨a, t, n⟩ : Ro) ∈ kept q F := List.mem_filter.2 ⟨List.mem_of_getElem? hi, hf⟩
      exact List.getElem?_of_mem hm
    · cases hh
  · rintro ⟨i, hi⟩
    have hm := List.mem_filter.1 (List.mem_of_getElem? hi)
    obtain ⟨k, hk⟩ := List.getElem?_of_mem hm.1
    rw [if_pos hm.2]
    exact (S.ob a t n).2 ⟨k, hk⟩
end
end Go.Proofs.Ytimpmgbahgganaa

namespace Go.Proofs.Ytimpmgbahgganaa
open Go.RowKit Go.Maps

section
variable {h : Hs} {q : Rh}
theorem SimH.type (S : SimH h q) {t : Nat} (ht : t < q.ty.length) : ∃ f, h.ty[t]? = some f ∧ ∀ a n, ow q ⟨a, t, n⟩ = owords f n := by
  refine ⟨ptrs q.ty[t], by rw [S.ty]; simp [ht], fun a n => ?_⟩
  unfold ow owords
  simp [ptrs, ht]
theorem make_fresh (I : HInv h) {n x : Nat} {s' : As} {f : List Bool} (hw : owords f n ≤ 65536) (ha : allocS h.s (owords f n) = some (x, s')) : h.ob x = none := by
  cases ho : h.ob x with
  | none => rfl
  | some o =>
    obtain ⟨t', n'⟩ := o
    have G := alloc_given I.inv (owords_pos f n) hw ha
    obtain ⟨i, hp, hold, hoth⟩ := G.piece
    obtain ⟨j, p, f', h1, h2, h3⟩ := I.dom x t' n' ho
    have hpos := owords_pos f' n'
    have hj : j ≠ i := fun e2 => by
      subst e2
      rcases hold with h4 | ⟨h4, _⟩
      · rw [h1] at h4; cases h4; have := h3.2.2; simp at this; omega
      · have := get_lt h1; omega
    have h5 := h1
    rw [← hoth j hj] at h5
    exact (hj (G.inv.row.inj h5 hp (by simpa using h2))).elim
theorem SimH.make (S : SimH h q) (I : HInv h) {t n x : Nat} {s' : As} {r' : Rs} {f : List Bool} (hw : owords f n ≤ 65536) (ha : allocS h.s (owords f n) = some (x, s')) (hs : Sim s' r') : SimH (makeH h t n x s') { q with r := r', ob := q.ob ++ [⟨x, t, n⟩] } := by
  have hfr := make_fresh I hw ha
  have hno : ∀ (j : Nat) (o : Ro), q.ob[j]? = some o → o.a ≠ x := fun j o ho e => by
    have := (S.ob o.a o.t o.n).2 ⟨j, ho⟩
    rw [e, hfr] at this; cases this
  refine ⟨S.ty, hs, fun a t' n' => ?_, ?_⟩
  · show upd h.ob x (some (t, n)) a = some (t', n') ↔ ∃ j : Nat, (q.ob ++ [(⟨x, t, n⟩ : Ro)])[j]? = some ⟨a, t', n'⟩
    by_cases e : a = x
    · subst e
      rw [upd_same]
      constructor
      · intro h1; cases h1
        exact ⟨q.ob.length, by simp⟩
      · rintro ⟨j, hj⟩
        rw [List.getElem?_append] at hj
        split at hj
        · exact (hno j _ hj rfl).elim
        · have h3 := List.mem_of_getElem? hj
          simp at h3; rw [h3.1, h3.2]
    · rw [upd_other _ _ e, S.ob]
      constructor
      · rintro ⟨j, hj⟩
        exact ⟨j, by rw [List.getElem?_append_left (get_lt hj)]; exact hj⟩
      · rintro ⟨j, hj⟩
        rw [List.getElem?_append] at hj
        split at hj
        · exact ⟨j, hj⟩
        · have h3 := List.mem_of_getElem? hj
          simp at h3; exact (e h3.1).elim
  · show ((q.ob ++ [(⟨x, t, n⟩ : Ro)]).map (·.a)).Nodup
    rw [List.map_append, List.nodup_append]
    refine ⟨S.nd, by simp, fun a h1 b h2 => ?_⟩
    simp at h2
    obtain ⟨o, ho, rfl⟩ := List.mem_map.1 h1
    obtain ⟨j, hj⟩ := List.getElem?_of_mem ho
    rw [h2]
    exact hno j o hj
end
end Go.Proofs.Ytimpmgbahgganaa

namespace Go.Proofs.Ytimpmgbahgganaa
open Go.RowKit Go.Maps

theorem nodup_len : ∀ (m : Nat) {l : List Nat}, l.Nodup → (∀ a ∈ l, 1 ≤ a ∧ a ≤ m) → l.length ≤ m
  | 0, l, _, h => by
    cases l with
    | nil => simp
    | cons a r => have := h a (by simp); omega
  | m + 1, l, hd, h => by
    by_cases hm : m + 1 ∈ l
    · have h1 := List.length_erase_of_mem hm
      have h2 := nodup_len m (hd.erase (m + 1)) (fun a ha => by
        have h3 := (List.Nodup.mem_erase_iff hd).1 ha
        have := h a h3.2; omega)
      omega
    · have := nodup_len m hd (fun a ha => by
        have h1 := h a ha
        have : a ≠ m + 1 := fun e => hm (e ▸ ha)
        omega)
      omega
section
variable {B : Nat} {w w' : World} {q : Rh} {vt vp vs vo : Value} {h : Hs}
theorem make_room (S : SimH h q) (I : HInv h) {n x : Nat} {s' : As} {f : List Bool} (hw : owords f n ≤ 65536) (ha : allocS h.s (owords f n) = some (x, s')) : q.ob.length < 65536 ∧ x ≤ 65537 := by
  have hfr := make_fresh I hw ha
  have G := alloc_given I.inv (owords_pos f n) hw ha
  have h1 := G.within
  have h2 := G.inv.fits
  have h3 := G.inv.small
  have h4 := cls_le (owords_pos f n) hw
  have h5 := owords_pos f n
  have i2 := I.inv.fits
  have i3 := I.inv.small
  have hl := nodup_len 65536 (l := x :: q.ob.map (·.a)) (by
    rw [List.nodup_cons]
    refine ⟨fun hm => ?_, S.nd⟩
    obtain ⟨o, ho, e⟩ := List.mem_map.1 hm
    obtain ⟨j, hj⟩ := List.getElem?_of_mem ho
    have := (S.ob o.a o.t o.n).2 ⟨j, hj⟩
    rw [e, hfr] at this; cases this) (fun a hm => by
    rcases List.mem_cons.1 hm with rfl | hm
    · omega
    · obtain ⟨o, ho, rfl⟩ := List.mem_map.1 hm
      obtain ⟨j, hj⟩ := List.getElem?_of_mem ho
      obtain ⟨i, p, f', k1, k2, _⟩ := I.dom _ _ _ ((S.ob o.a o.t o.n).2 ⟨j, hj⟩)
      have := I.inv.row.at k1
      show 1 ≤ o.a ∧ o.a ≤ 65536
      omega)
  simp at hl
  omega
theorem MkR.make (S : SimH h q) (I : HInv h) {t n : Nat} (ht : t < q.ty.length) (hn : n ≤ 1024) {x c : Int} {q' : Rh} (M : MkR h q t n x c q') : ∃ h', MakeP h t n x c h' ∧ SimH h' q' := by
  obtain ⟨f, hf, how⟩ := S.type ht
  have e := how 0 n
  have hp := owords_pos f n
  cases M with
  | arg h1 =>
    rw [e] at h1
    refine ⟨h, .large t n f rfl hf rfl hn ?_, S⟩
    by_cases hw : owords f n ≤ 65536
    · have := cls_le hp hw; omega
    · omega
  | full h1 h2 =>
    rw [e] at h1 h2
    exact ⟨h, .full t n f rfl hf rfl hn (cls_pos h1).2 h2, S⟩
  | made x s' r' h1 h2 h3 h4 =>
    rw [e] at h1 h2
    exact ⟨_, .made t n x f s' rfl hf rfl hn (cls_pos h1).2 h2, S.make I (cls_pos h1).2 h2 h3⟩
theorem MkR.fd {t n : Nat} {x c : Int} {q' : Rh} (M : MkR h q t n x c q') : q'.r.fd + q'.ob.length ≤ q.r.fd + q.ob.length + 1 := by
  cases M with
  | arg => exact Nat.le_succ _
  | full => exact Nat.le_succ _
  | made x s' r' _ _ _ h4 => simp; omega
theorem rmake_any (R : RH B w q vt vp vs vo) (S : SimH h q) (I : HInv h) (t n : Int) :
    Calls Try.prog 12 #[rhv q vt vp vs vo, .int .i64 t, .int .i64 n] w fun e w' => ∃ x c q' vp' vs' vo' h', e = .returned (.tuple #[.int .i64 x, .int .i64 c, rhv q' vt vp' vs' vo']) ∧ MakeP h t n x c h' ∧ Hid (SimH h' q' ∧ q'.r.fd + q'.ob.length ≤ q.r.fd + q.ob.length + 1) ∧ Hid (HOut B w vt vp vs vo q' vp' vs' vo' w') := by
  have hlen : h.ty.length = q.ty.length := by rw [S.ty]; simp
  by_cases ht : t < 0 ∨ (q.ty.length : Int) ≤ t
  · refine (rmake_none R ht).mono ?_
    rintro e w' ⟨rfl, hb⟩
    exact ⟨0, 6, q, vp, vs, vo, h, rfl, .none (by rw [hlen]; exact ht), hide ⟨S, Nat.le_succ _⟩, hide (HOut.same R hb)⟩
  · obtain ⟨m, rfl⟩ : ∃ m : Nat, t = m := ⟨t.toNat, by omega⟩
    have hm : m < q.ty.length := by omega
    by_cases hn : n < 0 ∨ 1024 < n
    · refine (rmake_arg R rfl hm hn).mono ?_
      rintro e w' ⟨rfl, hb⟩
      exact ⟨0, 1, q, vp, vs, vo, h, rfl, .arg m rfl (by omega) hn, hide ⟨S, Nat.le_succ _⟩, hide (HOut.same R hb)⟩
    · obtain ⟨k, rfl⟩ : ∃ k : Nat, n = k := ⟨n.toNat, by omega⟩
      have hk : k ≤ 1024 := by omega
      obtain ⟨f, hf, how⟩ := S.type hm
      refine (rmake_ok R S I hm hk (fun x s' hc ha => ?_)).mono ?_
      · rw [how] at hc ha
        exact make_room S I (cls_pos hc).2 ha
      · rintro e w' ⟨x, c, q', vp', vs', vo', rfl, hM, hO⟩
        obtain ⟨h', h1, h2⟩ := hM.make S I hm hk
        exact ⟨x, c, q', vp', vs', vo', h', rfl, h1, hide ⟨h2, hM.fd⟩, hide hO⟩
end
end Go.Proofs.Ytimpmgbahgganaa

namespace Go.Proofs.Ytimpmgbahgganaa
open Go.RowKit Go.Maps
def natsI (l : List Nat) : List Int := l.map fun (a : Nat) => (a : Int)
theorem natsI_len (l : List Nat) : (natsI l).length = l.length := by simp [natsI]
theorem natsI_at {l : List Nat} {j a : Nat} (h : l[j]? = some a) : (ints (natsI l))[j]? = some (.int .i64 (a : Int)) := by simp [ints, natsI, h]
section
variable {w : World} {B : Nat}
theorem row_block {e sz n g : Nat} {v : Value} {xs : List Value} (h : w.ownsRow B e sz v n xs) (hg : v.ownBlock = some g) : ∃ cur f, w.heap[g]? = some (.cells cur e f) := by
  rcases h.2 with ⟨h1, _⟩ | ⟨g', cap, cur, h1, _, h2, _⟩
  · rw [h1] at hg; cases hg
  · rw [h1] at hg
    simp [Value.ownBlock] at hg
    subst hg
    exact ⟨_, _, h2⟩
theorem row_apart {e e' sz sz' n n' g : Nat} {v v' : Value} {xs xs' : List Value} {B' : Nat} (h : w.ownsRow B e sz v n xs) (h' : w.ownsRow B' e' sz' v' n' xs') (he : e ≠ e') (hg : v.ownBlock = some g) : v'.ownBlock ≠ some g := by
  intro hg'
  obtain ⟨c, f, h1⟩ := row_block h hg
  obtain ⟨c', f', h2⟩ := row_block h' hg'
  rw [h1] at h2
  cases h2
  exact he rfl
theorem row_not {e sz n b t : Nat} {v : Value} {xs : List Value} {c : Array Value} {f : Nat × Nat} (h : w.ownsRow B e sz v n xs) (hb : w.heap[b]? = some (.cells c t f)) (he : e ≠ t) : v.ownBlock ≠ some b := by
  intro hg
  obtain ⟨c', f', h1⟩ := row_block h hg
  rw [h1] at hb
  cases hb
  exact he rfl
/-- While the lists are made. -/
structure Co2 (W1 w' : World) (q : Rh) (F : Nat → Bool) (sb C : Nat) (vg vl : Value) (j : Nat) : Prop where
  bel : Below W1.heap.size W1 w'
  sty : w'.heap[sb]? = some (.cells (bools (stay q F)).toArray 4 (0, 0))
  gn : w'.ownsRow C 3 1 vg (leftN q F j).length (ints (natsI (leftN q F j)))
  ls : w'.ownsRow C 82 3 vl (keptN q F j).length (ocells (keptN q F j))
  hC : W1.heap.size ≤ C ∧ C ≤ w'.heap.size
variable {W1 w' w'' : World} {q : Rh} {F : Nat → Bool} {sb C j : Nat} {vg vl : Value} {o : Ro}
theorem Co2.under (M : Co2 W1 w' q F sb C vg vl j) (hb : Below w'.heap.size w' w'') : Co2 W1 w'' q F sb C vg vl j :=
  ⟨M.bel.trans (hb.mono M.bel.size), (hb.block _ (lt_of_block M.sty)).trans M.sty, ownsRow_keep M.gn fun g hg => hb.block g (M.gn.lt g hg).2, ownsRow_keep M.ls fun g hg => hb.block g (M.ls.lt g hg).2, M.hC.1, Nat.le_trans M.hC.2 hb.size⟩
theorem Co2.new {w2 : World} (hb : Below W1.heap.size W1 w2) (hs : w2.heap[sb]? = some (.cells (bools (stay q F)).toArray 4 (0, 0))) : Co2 W1 ((w2.alloc (.cells #[] 3)).alloc (.cells #[] 82)) q F sb w2.heap.size (.slice (some ⟨w2.heap.size, 0, none⟩) 0 0) (.slice (some ⟨w2.heap.size + 1, 0, none⟩) 0 0) 0 := by
  obtain ⟨W3, hW3⟩ : ∃ W3, w2.alloc (.cells #[] 3) = W3 := ⟨_, rfl⟩
  obtain ⟨W4, hW4⟩ : ∃ W4, W3.alloc (.cells #[] 82) = W4 := ⟨_, rfl⟩
  have z3 : W3.heap.size = w2.heap.size + 1 := by rw [← hW3]; simp
  have z4 : W4.heap.size = W3.heap.size + 1 := by rw [← hW4]; simp
  have b3 : Below w2.heap.size w2 W3 := by rw [← hW3]; exact (Below.refl _ _).alloc (Nat.le_refl _) _
  have b4 : Below W3.heap.size W3 W4 := by rw [← hW4]; exact (Below.refl _ _).alloc (Nat.le_refl _) _
  have e3 : W3.heap[w2.heap.size]? = some (.cells #[] 3 (0, 0)) := by rw [← hW3]; exact heap_new _ _ rfl
  have e4 : W4.heap[w2.heap.size + 1]? = some (.cells #[] 82 (0, 0)) := by rw [← hW4]; exact heap_new _ _ (by omega)
  rw [hW3, hW4]
  refine ⟨hb.trans ((b3.trans (b4.mono (by omega))).mono hb.size), ?_, ⟨rfl, .inr ⟨_, 0, #[], rfl, Nat.le_refl _, ?_, Nat.le_refl _, by unfold maxLen; omega, rfl, rfl⟩⟩, ⟨rfl, .inr ⟨_, 0, #[], rfl, Nat.le_succ _, e4, Nat.le_refl _, by unfold maxLen; omega, rfl, rfl⟩⟩, hb.size, by omega⟩
  · have := lt_of_block hs
    rw [b4.block _ (by omega), b3.block _ this]; exact hs
  · rw [b4.block _ (by omega)]; exact e3
/-- One that stays. -/
theorem Co2.stay_ (M : Co2 W1 w' q F sb C vg vl j) (hj : q.ob[j]? = some o) (hf : F o.a = true) (hl : q.ob.length ≤ 65536) :
    ∃ vl' w3, (Builtin.append_ #[34, 34] 34 #[vl, .slice (some ⟨w'.heap.size, 0, none⟩) 1 1]).run Try.prog (w'.alloc (.cells #[.int .i64 o.a, .int .i64 o.t, .int .i64 o.n] 82)) = .ok vl' w3 ∧ Co2 W1 w3 q F sb C vg vl' (j + 1) := by
  obtain ⟨e1, e2⟩ := kept_yes hj hf
  have hkl := kept_len (q := q) (F := F) j
  have hjl := get_lt hj
  rw [List.length_take] at hkl
  have M1 := M.under (w'' := w'.alloc (.cells #[.int .i64 o.a, .int .i64 o.t, .int .i64 o.n] 82)) ((Below.refl _ _).alloc (Nat.le_refl _) _)
  have hnb : (w'.alloc (.cells #[.int .i64 o.a, .int .i64 o.t, .int .i64 o.n] 82)).heap[w'.heap.size]? = some (.cells #[.int .i64 o.a, .int .i64 o.t, .int .i64 o.n] 82 (0, 0)) := heap_new _ _ rfl
  obtain ⟨i0, hi, hz0, hz1, hz2⟩ := info_parts Try.info82
  obtain ⟨gg, cgg, w3, hrun, hown, hgr, _, _⟩ := run_append_lies (P := Try.prog) (w'.alloc (.cells #[.int .i64 o.a, .int .i64 o.t, .int .i64 o.n] 82)) 34 34 C 82 i0 _ 3 24 Try.underlying34 hi hz0 hz1 hz2 rfl (by decide) vl _ _ M1.ls ⟨w'.heap.size, 0, none⟩ 1 1 [.int .i64 o.a, .int .i64 o.t, .int .i64 o.n] rfl (World.news_of_block hnb)
    (by intro u hu; simp at hu; rcases hu with rfl | rfl | rfl <;> rfl) (by decide) (by unfold maxLen; omega) (by omega) M1.hC.2 _ rfl
  refine ⟨_, w3, hrun, ⟨?_, ?_, ?_, ?_, M1.hC.1, Nat.le_trans M1.hC.2 hgr.size⟩⟩
  · exact Below.grown M1.bel hgr (Nat.le_trans M1.hC.1 M1.hC.2) (fun k hk => by have := (M1.ls.lt k hk).1; have := M1.hC.1; omega)
  · exact (hgr.block _ (lt_of_block M1.sty) (fun e => row_not M1.ls M1.sty (by decide) e.symm)).trans M1.sty
  · rw [e2]
    exact ownsRow_keep M1.gn fun g hg => hgr.block g (M1.gn.lt g hg).2 (fun e => row_apart M1.gn M1.ls (by decide) hg e.symm)
  · rw [e1, List.length_append, ocells_append]
    exact hown
/-- One that goes. -/
theorem Co2.go_ (M : Co2 W1 w' q F sb C vg vl j) (hj : q.ob[j]? = some o) (hf : F o.a = false) (hl : q.ob.length ≤ 65536) :
    ∃ vg' w3, (Builtin.append_ #[31, 31] 31 #[vg, .slice (some ⟨w'.heap.size, 0, none⟩) 1 1]).run Try.prog (w'.alloc (.cells #[.int .i64 o.a] 3)) = .ok vg' w3 ∧ Co2 W1 w3 q F sb C vg' vl (j + 1) := by
  obtain ⟨e1, e2⟩ := kept_no hj hf
  have hkl := kept_len (q := q) (F := F) j
  have hjl := get_lt hj
  rw [List.length_take] at hkl
  have M1 := M.under (w'' := w'.alloc (.cells #[.int .i64 o.a] 3)) ((Below.refl _ _).alloc (Nat.le_refl _) _)
  have hnb : (w'.alloc (.cells #[.int .i64 o.a] 3)).heap[w'.heap.size]? = some (.cells #[.int .i64 o.a] 3 (0, 0)) := heap_new _ _ rfl
  obtain ⟨i0, hi, hz0, hz1, hz2⟩ := info_parts Try.info3
  obtain ⟨gg, cgg, w3, hrun, hown, hgr, _, _⟩ := run_append_lies (P := Try.prog) (w'.alloc (.cells #[.int .i64 o.a] 3)) 31 31 C 3 i0 _ 1 8 Try.underlying31 hi hz0 hz1 hz2 rfl (by decide) vg _ _ M1.gn ⟨w'.heap.size, 0, none⟩ 1 1 [.int .i64 o.a] rfl (World.news_of_block hnb)
    (by intro u hu; simp at hu; subst hu; rfl) (by decide) (by unfold maxLen; omega) (by omega) M1.hC.2 _ rfl
  refine ⟨_, w3, hrun, ⟨?_, ?_, ?_, ?_, M1.hC.1, Nat.le_trans M1.hC.2 hgr.size⟩⟩
  · exact Below.grown M1.bel hgr (Nat.le_trans M1.hC.1 M1.hC.2) (fun k hk => by have := (M1.gn.lt k hk).1; have := M1.hC.1; omega)
  · exact (hgr.block _ (lt_of_block M1.sty) (fun e => row_not M1.gn M1.sty (by decide) e.symm)).trans M1.sty
  · rw [e2, List.length_append, show ints (natsI (leftN q F j ++ [o.a])) = ints (natsI (leftN q F j)) ++ [.int .i64 o.a] by simp [ints, natsI]]
    exact hown
  · rw [e1]
    exact ownsRow_keep M1.ls fun g hg => hgr.block g (M1.ls.lt g hg).2 (fun e => row_apart M1.ls M1.gn (by decide) hg e.symm)
end
end Go.Proofs.Ytimpmgbahgganaa

namespace Go.Proofs.Ytimpmgbahgganaa
open Go.RowKit Go.Maps
/-- Two lists of the same numbers, each once, are of one length. -/
theorem nd_same : ∀ {l m : List Nat}, l.Nodup → m.Nodup → (∀ x, x ∈ l ↔ x ∈ m) → l.length = m.length
  | [], m, _, _, h => by
    cases m with
    | nil => rfl
    | cons a r => have := (h a).2 (by simp); cases this
  | a :: l, m, hl, hm, h => by
    rw [List.nodup_cons] at hl
    have ha : a ∈ m := (h a).1 (by simp)
    have h1 := nd_same (l := l) (m := m.erase a) hl.2 (hm.erase a) (fun x => by
      rw [hm.mem_erase_iff]
      constructor
      · intro hx
        exact ⟨fun e => hl.1 (by rw [← e]; exact hx), (h x).1 (by simp [hx])⟩
      · rintro ⟨h1, h2⟩
        have h3 := (h x).2 h2
        simp only [List.mem_cons] at h3
        exact h3.resolve_left h1)
    rw [List.length_cons, h1, List.length_erase_of_mem ha]
    have := List.length_pos_of_mem ha
    omega
section
variable {w : World}
/-- What Collect answers. -/
theorem coll_res {tmps : Array Value} {W : World} {b : Nat} {n c i1 i2 i4 : Int} {a0 a3 a5 a6 : Option Addr} {n0 c0 n3 c3 n5 c5 n6 c6 : Nat} (h4 : tmps.getD 4 undef = .int .i64 n) (h5 : tmps.getD 5 undef = .int .i64 c) (h6 : tmps.getD 6 undef = .pointer (some ⟨b, 0, none⟩)) (K : C7 W b (.slice a0 n0 c0) (.int .i64 i1) (.int .i64 i2) (.slice a3 n3 c3) (.int .i64 i4) (.slice a5 n5 c5) (.slice a6 n6 c6)) : (results Try.f20 tmps).run Try.prog W = .ok (.tuple #[.int .i64 n, .int .i64 c, .agg #[.slice a0 n0 c0, .int .i64 i1, .int .i64 i2, .slice a3 n3 c3, .int .i64 i4, .slice a5 n5 c5, .slice a6 n6 c6]]) W := by
  rw [Array.getD_eq_getD_getElem?] at h4 h5 h6
  obtain ⟨k0, k1, k2, k3, k4, k5, k6⟩ := K
  simp [results, Try.results20, go_sem, h4, h5, h6, k0, k1, k2, k3, k4, k5, k6]
theorem set7_c7 {b : Nat} (hz : Zr w b) (v0 v1 v2 v3 v4 v5 v6 : Value) : C7 (set7 w b v0 v1 v2 v3 v4 v5 v6) b v0 v1 v2 v3 v4 v5 v6 := by
  have h := heap_setCell_same _ b 6 v6 (heap_setCell_same _ b 5 v5 (heap_setCell_same _ b 4 v4 (heap_setCell_same _ b 3 v3 (heap_setCell_same _ b 2 v2 (heap_setCell_same _ b 1 v1 (heap_setCell_same w b 0 v0 hz))))))
  exact c7_of (t := 36) (by rw [h]; rfl)
theorem c7_drew {b : Nat} {v0 v1 v2 v3 v4 v5 v6 : Value} (h : C7 w b v0 v1 v2 v3 v4 v5 v6) : C7 w.drew b v0 v1 v2 v3 v4 v5 v6 := by
  obtain ⟨k0, k1, k2, k3, k4, k5, k6⟩ := h
  exact ⟨k0, k1, k2, k3, k4, k5, k6⟩
/-- While the numbers are sorted. -/
structure Co3 (W1 w' : World) (C : Nat) (vg vl : Value) (l : List Nat) (ko : List Ro) : Prop where
  bel : Below W1.heap.size W1 w'
  gn : w'.ownsRow C 3 1 vg l.length (ints (natsI l))
  ls : w'.ownsRow C 82 3 vl ko.length (ocells ko)
  hC : W1.heap.size ≤ C ∧ C ≤ w'.heap.size
variable {W1 w' w'' : World} {C : Nat} {vg vl : Value} {l : List Nat} {ko : List Ro}
theorem Co3.under (M : Co3 W1 w' C vg vl l ko) (hb : Below w'.heap.size w' w'') : Co3 W1 w'' C vg vl l ko :=
  ⟨M.bel.trans (hb.mono M.bel.size), ownsRow_keep M.gn fun g hg => hb.block g (M.gn.lt g hg).2, ownsRow_keep M.ls fun g hg => hb.block g (M.ls.lt g hg).2, M.hC.1, Nat.le_trans M.hC.2 hb.size⟩
theorem Co3.at_ (M : Co3 W1 w' C vg vl l ko) {j x : Nat} (hj : l[j]? = some x) : ∃ g cap, vg = .slice (some ⟨g, 0, none⟩) l.length cap ∧ w'.cell? ⟨g, j, none⟩ = some (.int .i64 (x : Int)) ∧ w'.frozen? ⟨g, j, none⟩ = false ∧ C ≤ g ∧ g < w'.heap.size := by
  obtain ⟨g, cap, h1, h2, h3, _⟩ := row_cell M.gn (natsI_at hj)
  have := M.gn.lt g (by rw [h1]; rfl)
  exact ⟨g, cap, h1, h2, h3, this⟩
theorem Co3.swap (M : Co3 W1 w' C vg vl l ko) {g cap k x y : Nat} (hv : vg = .slice (some ⟨g, 0, none⟩) l.length cap) : Co3 W1 ((w'.setCell ⟨g, k, none⟩ (.int .i64 (y : Int))).setCell ⟨g, k - 1, none⟩ (.int .i64 (x : Int))) C vg vl (swp l k x y) ko := by
  have hg := M.gn.lt g (by rw [hv]; rfl)
  have hne := fun g' hg' => row_apart M.ls M.gn (by decide) (g := g') hg'
  have hls : ∀ g', vl.ownBlock = some g' → g' ≠ g := fun g' hg' e => hne g' hg' (by rw [hv, e]; rfl)
  have hlen : (swp l k x y).length = l.length := by simp [swp]
  have h1 := M.gn
  rw [hv] at h1
  have h2 := row_setS (m := k - 1) (row_setS (m := k) h1 (.int .i64 (y : Int))) (.int .i64 (x : Int))
  refine ⟨(M.bel.setCell (by show W1.heap.size ≤ g; have := M.hC.1; omega) _).setCell (by show W1.heap.size ≤ g; have := M.hC.1; omega) _, ?_, ownsRow_keep M.ls fun g' hg' => ?_, M.hC.1, by simp; exact M.hC.2⟩
  · rw [hv, hlen, show ints (natsI (swp l k x y)) = ((ints (natsI l)).set k (.int .i64 (y : Int))).set (k - 1) (.int .i64 (x : Int)) by simp [ints, natsI, swp, List.map_set]]
    exact h2
  · rw [Below.heap_setCell _ _ _ g' (hls g' hg'), Below.heap_setCell _ _ _ g' (hls g' hg')]
end
section
variable {w W1 wr w3 : World} {B C j : Nat} {q : Rh} {h : Hs} {F : Nat → Bool} {vt vp vs vo vg vl vp' vs' : Value} {r : Rs}
/-- While they are freed. -/
structure Co5 (B : Nat) (w W1 wr : World) (q : Rh) (h : Hs) (F : Nat → Bool) (C : Nat) (vt vp vs vo vg vl : Value) (j : Nat) (r : Rs) (vp' vs' : Value) : Prop where
  bel : Below w.heap.size w wr
  bx : Bx wr w.heap.size { q with r := r } vt vp' vs' vo
  zr : Zr wr (w.heap.size + 1)
  rl : RL B wr r vp' vs'
  fp : ∀ g, vp'.ownBlock = some g → vp.ownBlock = some g ∨ W1.heap.size ≤ g
  fs : ∀ g, vs'.ownBlock = some g → vs.ownBlock = some g ∨ W1.heap.size ≤ g
  gn : wr.ownsRow C 3 1 vg (gone h F).length (ints (natsI (gone h F)))
  ls : wr.ownsRow C 82 3 vl (kept q F).length (ocells (kept q F))
  frd : Frd h q F j r
  hC : W1.heap.size ≤ C ∧ C ≤ wr.heap.size
  hW : w.heap.size + 1 < W1.heap.size
theorem Co5.under (M : Co5 B w W1 wr q h F C vt vp vs vo vg vl j r vp' vs') (hb : Below wr.heap.size wr w3) : Co5 B w W1 w3 q h F C vt vp vs vo vg vl j r vp' vs' :=
  ⟨M.bel.trans (hb.mono M.bel.size), (hb.block _ (lt_of_block M.bx)).trans M.bx, (hb.block _ (lt_of_block M.zr)).trans M.zr, M.rl.below hb, M.fp, M.fs, ownsRow_keep M.gn fun g hg => hb.block g (M.gn.lt g hg).2, ownsRow_keep M.ls fun g hg => hb.block g (M.ls.lt g hg).2, M.frd, ⟨M.hC.1, Nat.le_trans M.hC.2 hb.size⟩, M.hW⟩
/-- One is freed, and the arena stored. -/
theorem Co5.next (M : Co5 B w W1 wr q h F C vt vp vs vo vg vl j r vp' vs') (R : RH B w q vt vp vs vo) (I : HInv h) {a i : Nat} {p : Rp} {vp2 vs2 : Value} (ha : (gone h F)[j]? = some a) (hat : AtR r.ps a (some i)) (hp : r.ps[i]? = some p) (Z : ROut B wr vp' vs' (rFree r i p) vp2 vs2 w3) :
    Co5 B w W1 (set5 w3 w.heap.size (.int .i64 ((rFree r i p).wd : Nat)) (.int .i64 ((rFree r i p).ln : Nat)) vp2 (.int .i64 ((rFree r i p).fd : Nat)) vs2) q h F C vt vp vs vo vg vl (j + 1) (rFree r i p) vp2 vs2 := by
  have M3 := M.under Z.below
  have hW := M.hW
  have hCC := M.hC
  have k5 : ∀ g, g ≠ w.heap.size → (set5 w3 w.heap.size (.int .i64 ((rFree r i p).wd : Nat)) (.int .i64 ((rFree r i p).ln : Nat)) vp2 (.int .i64 ((rFree r i p).fd : Nat)) vs2).heap[g]? = w3.heap[g]? := fun g hg => set5_other _ _ _ _ _ _ _ _ hg
  have f1 : ∀ g, vp2.ownBlock = some g → vp.ownBlock = some g ∨ W1.heap.size ≤ g := fun g hg => by
    rcases Z.fp g hg with h1 | h1
    · exact M.fp g h1
    · exact .inr (by omega)
  have f2 : ∀ g, vs2.ownBlock = some g → vs.ownBlock = some g ∨ W1.heap.size ≤ g := fun g hg => by
    rcases Z.fs g hg with h1 | h1
    · exact M.fs g h1
    · exact .inr (by omega)
  refine ⟨below_set5 M3.bel (Nat.le_refl _) _ _ _ _ _, set5_same M3.bx _ _ _ _ _, (k5 _ (by omega)).trans M3.zr, Z.rl.keep (fun g hg => k5 g ?_) (fun g hg => k5 g ?_) (by simp), f1, f2, ownsRow_keep M3.gn fun g hg => k5 g ?_, ownsRow_keep M3.ls fun g hg => k5 g ?_, M3.frd.next I ha hat hp, ⟨hCC.1, by have := M3.hC.2; simpa using this⟩, hW⟩
  · rcases f1 g hg with h1 | h1
    · have := (R.rl.pcs.lt g h1).2; omega
    · omega
  · rcases f2 g hg with h1 | h1
    · have := (R.rl.sto.lt g h1).2; omega
    · omega
  · have := (M3.gn.lt g hg).1; omega
  · have := (M3.ls.lt g hg).1; omega
/-- The end. -/
theorem Co5.out (M : Co5 B w W1 wr q h F C vt vp vs vo vg vl j r vp' vs') (R : RH B w q vt vp vs vo) (hB : B ≤ C) (v0 v1 v2 v3 v4 v5 v6 : Value) :
    HOut B w vt vp vs vo { q with r := r, ob := kept q F } vp' vs' vl (set7 (wr.setCell ⟨w.heap.size, 6, none⟩ vl) (w.heap.size + 1) v0 v1 v2 v3 v4 v5 v6).drew := by
  have hW := M.hW
  have hCC := M.hC
  obtain ⟨W5, hW5⟩ : ∃ W5, wr.setCell ⟨w.heap.size, 6, none⟩ vl = W5 := ⟨_, rfl⟩
  have b5 : Below w.heap.size w W5 := by rw [← hW5]; exact M.bel.setCell (Nat.le_refl _) _
  have k5 : ∀ g, g ≠ w.heap.size → W5.heap[g]? = wr.heap[g]? := fun g hg => by rw [← hW5]; exact Below.heap_setCell _ _ _ g hg
  have s5 : wr.heap.size = W5.heap.size := by rw [← hW5]; simp
  rw [hW5]
  obtain ⟨W6, hW6⟩ : ∃ W6, set7 W5 (w.heap.size + 1) v0 v1 v2 v3 v4 v5 v6 = W6 := ⟨_, rfl⟩
  have k6 : ∀ g, g ≠ w.heap.size + 1 → W6.heap[g]? = W5.heap[g]? := fun g hg => by rw [← hW6]; exact set7_other _ _ _ _ _ _ _ _ _ _ hg
  have b6 : Below w.heap.size w W6 := by rw [← hW6]; exact below_set7 b5 (Nat.le_succ _) _ _ _ _ _ _ _
  have s6 : W5.heap.size = W6.heap.size := by rw [← hW6]; simp
  rw [hW6]
  clear hW6 hW5
  have k7 : ∀ g, g ≠ w.heap.size → g ≠ w.heap.size + 1 → W6.drew.heap[g]? = wr.heap[g]? := fun g h1 h2 => (k6 g h2).trans (k5 g h1)
  have hbel : Below w.heap.size w W6.drew := bdr b6
  have hsz : wr.heap.size ≤ W6.drew.heap.size := by show _ ≤ W6.heap.size; omega
  have hfar : ∀ {u : Value} {v : Value}, (∀ g, v.ownBlock = some g → u.ownBlock = some g ∨ W1.heap.size ≤ g) → (∀ g, u.ownBlock = some g → g < w.heap.size) → ∀ g, v.ownBlock = some g → g ≠ w.heap.size ∧ g ≠ w.heap.size + 1 := fun h1 h2 g hg => by
    rcases h1 g hg with h3 | h3
    · have := h2 g h3; omega
    · omega
  have fp := hfar M.fp (fun g hg => (R.rl.pcs.lt g hg).2)
  have fs := hfar M.fs (fun g hg => (R.rl.sto.lt g hg).2)
  have hbz := M.bel.size
  have hsub : ∀ o, o ∈ kept q F → o ∈ q.ob := fun o ho => (List.mem_filter.1 ho).1
  refine ⟨⟨R.lay.below hbel, M.rl.keep (fun g hg => k7 g (fp g hg).1 (fp g hg).2) (fun g hg => k7 g (fs g hg).1 (fs g hg).2) hsz, ?_, R.bt, R.bf, ?_, fun i o ho => ?_⟩, hbel, fun g hg => (M.fp g hg).imp id (fun h => by omega), fun g hg => (M.fs g hg).imp id (fun h => by omega), fun g hg => .inr (by have := (M.ls.lt g hg).1; omega)⟩
  · have hls := ownsRow_keep (w' := W6.drew) M.ls fun g hg => k7 g (by have := (M.ls.lt g hg).1; omega) (by have := (M.ls.lt g hg).1; omega)
    refine ⟨hls.1, ?_⟩
    rcases hls.2 with h1 | ⟨g, cap, cur, e1, e2, e3⟩
    · exact .inl h1
    · exact .inr ⟨g, cap, cur, e1, by omega, e3⟩
  · exact Nat.le_trans (List.length_filter_le _ _) R.bo
  · obtain ⟨k, hk⟩ := List.getElem?_of_mem (hsub o (List.mem_of_getElem? ho))
    exact R.ok k o hk
theorem kept_sum (S : SimH h q) (I : HInv h) : (kept q F).length + (gone h F).length = q.ob.length := by
  have h1 := kept_len (q := q) (F := F) q.ob.length
  rw [kept_all.1, kept_all.2, List.take_length] at h1
  have h2 : (gone h F).length = (left q F).length := by
    have nd1 : (gone h F).Nodup := (gone_rise I).imp (fun {_ _} h => Nat.ne_of_lt h)
    exact nd_same nd1 (left_nd S) (fun x => (left_mem S I x).symm)
  omega
end
end Go.Proofs.Ytimpmgbahgganaa
