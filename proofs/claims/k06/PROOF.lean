import PyProof.Rows.All
import Wide.All
import OpenK.AllK
import Wide.FinOn
import KE.KStateDown
import HandS.ForMost
import HandS.More
import HandS.WordsExc
import HandS.Defaults
import HandS.Flow
import HandS.Style
import HandS.Deep
import HandS.TupAny
import HandS.Zip
import HandS.IsInst
import HandS.Conv
import KE.LtData
import KE.SortData
import PyProof.ReprReads
import HandS.HeadEnd
import HandS.HeadHook4
import HandS.Head0
import HandS.Head1
import HandS.Head2
import HandS.Strs
import HandS.MapObj
import PyProof.EqKinds
import PyProof.P3Eq
import KE.KEqDict
import PyProof.NeKinds
import PyProof.P3In
import HandS.TupMul
import KE.GoesEnum
import HandS.StrMore
import HandS.Text
import HandS.Small
import HandS.Dict
import PyProof.ReprLen
import PySem.Challenge.RW_fankinds_k06_ways_dealt
section
set_option Elab.async false
set_option linter.all false
set_option maxRecDepth 100000
set_option maxHeartbeats 4000000
/-! Plain data, a store of things that change, and how the layer's heap bears them. -/
namespace Ev
open PySem PySem.Spec PyProof.Rows L2

/-- a value: immutable data, or the number of a thing in the store -/
inductive D where
  | non
  | bl (b : Bool)
  | int (i : Int)
  | str (s : Str)
  | tup (xs : List D)
  | ref (n : Nat)
/-- a thing in the store -/
inductive O where
  | lst (xs : List D)
  | fz (xs : List D)
  | dt (kvs : List (List Key × D))
abbrev Sto := List O

abbrev Env := List (Option D)

section
variable (K : PySem.W.Frag) (H : Hp) (m : List Addr)
mutual
inductive RV : D → V → Prop
  | non : RV .non .non
  | bl (b : Bool) : RV (.bl b) (.bl b)
  | int (i : Int) : RV (.int i) (.int i)
  | str (s : Str) : RV (.str s) (.str s)
  | tup {a : Addr} {vs : List V} {ds : List D} : SqT K H a vs → RVs ds vs → RV (.tup ds) (.ref a)
  | ref {n : Nat} {a : Addr} : m[n]? = some a → RV (.ref n) (.ref a)
inductive RVs : List D → List V → Prop
  | nil : RVs [] []
  | cons {d : D} {ds : List D} {v : V} {vs : List V} : RV d v → RVs ds vs → RVs (d :: ds) (v :: vs)
end
/-- a dict's entries -/
inductive RKs : List (List Key × D) → List (List Key × V) → Prop
  | nil : RKs [] []
  | cons {k : List Key} {d : D} {v : V} {r : List (List Key × D)} {s : List (List Key × V)} : RV K H m d v → RKs r s → RKs ((k, d) :: r) ((k, v) :: s)
def RO (a : Addr) : O → Prop
  | .lst ds => ∃ vs, H a = some (.lst vs) ∧ RVs K H m ds vs
  | .fz ds => ∃ o vs, H a = some (.frz o (.lst vs)) ∧ RVs K H m ds vs
  | .dt ds => ∃ vs, H a = some (.dT vs) ∧ RKs K H m ds vs
structure RS (S : Sto) : Prop where
  nd : m.Nodup
  len : m.length = S.length
  obj : ∀ (n : Nat) (a : Addr) (o : O), m[n]? = some a → S[n]? = some o → RO K H m a o
structure RE (ρ : Env) (σ : L2.St) : Prop where
  len : ρ.length = σ.length
  get : ∀ (i : Nat) (d : D), ρ[i]? = some (some d) → ∃ v, σ[i]? = some (some v) ∧ RV K H m d v
end

/-- tuples stay -/
def TK (H H' : Hp) : Prop := ∀ a xs, Rd H a (.tup xs) → Rd H' a (.tup xs)
theorem TK.refl (H : Hp) : TK H H := fun _ _ h => h
theorem TK.trans {H H1 H2 : Hp} (a : TK H H1) (b : TK H1 H2) : TK H H2 := fun x xs h => b x xs (a x xs h)
theorem TK.sq {K : PySem.W.Frag} {H H' : Hp} {a : Addr} {vs : List V} (t : TK H H') (h : SqT K H a vs) : SqT K H' a vs := by
  rcases h with h | h
  · exact .inl (t _ _ h)
  · exact .inr h
theorem TK.new {H : Hp} {p : Addr} {o : HO} (h : H p = none) : TK H (upd H p o) := fun a xs r => by
  rcases r with r | ⟨ob, r⟩
  · exact .inl (by rw [upd_ne (ne_of_none r h)]; exact r)
  · exact .inr ⟨ob, by rw [upd_ne (ne_of_none r h)]; exact r⟩
theorem TK.lst {H : Hp} {p : Addr} {o : HO} {ys : List V} (h : H p = some (.lst ys)) : TK H (upd H p o) := fun a xs r => by
  rcases r with r | ⟨ob, r⟩
  · exact .inl (by rw [upd_ne (ne_of r h (by intro z; cases z))]; exact r)
  · exact .inr ⟨ob, by rw [upd_ne (ne_of r h (by intro z; cases z))]; exact r⟩
theorem TK.dt {H : Hp} {p : Addr} {o : HO} {ys : List (List Key × V)} (h : H p = some (.dT ys)) : TK H (upd H p o) := fun a xs r => by
  rcases r with r | ⟨ob, r⟩
  · exact .inl (by rw [upd_ne (ne_of r h (by intro z; cases z))]; exact r)
  · exact .inr ⟨ob, by rw [upd_ne (ne_of r h (by intro z; cases z))]; exact r⟩

section
variable {K : PySem.W.Frag} {H H' : Hp} {m m' : List Addr}
theorem pre_get {α : Type} {l l' : List α} (h : l <+: l') {n : Nat} {a : α} (e : l[n]? = some a) : l'[n]? = some a := by
  obtain ⟨r, rfl⟩ := h
  have hn : n < l.length := by
    rcases Nat.lt_or_ge n l.length with h | h
    · exact h
    · rw [List.getElem?_eq_none h] at e; cases e
  rw [List.getElem?_append_left hn]; exact e
mutual
theorem RV.mono (t : TK H H') (p : m <+: m') : ∀ {d : D} {v : V}, RV K H m d v → RV K H' m' d v
  | _, _, .non => .non
  | _, _, .bl b => .bl b
  | _, _, .int i => .int i
  | _, _, .str s => .str s
  | _, _, .tup h r => .tup (t.sq h) (RVs.mono t p r)
  | _, _, .ref e => .ref (pre_get p e)
theorem RVs.mono (t : TK H H') (p : m <+: m') : ∀ {ds : List D} {vs : List V}, RVs K H m ds vs → RVs K H' m' ds vs
  | _, _, .nil => .nil
  | _, _, .cons h r => .cons (RV.mono t p h) (RVs.mono t p r)
end
theorem RKs.mono (t : TK H H') (p : m <+: m') : ∀ {ds : List (List Key × D)} {vs : List (List Key × V)}, RKs K H m ds vs → RKs K H' m' ds vs
  | _, _, .nil => .nil
  | _, _, .cons h r => .cons (h.mono t p) (RKs.mono t p r)
theorem RO.mono {a : Addr} {o : O} (h : RO K H m a o) (e : H' a = H a) (t : TK H H') (p : m <+: m') : RO K H' m' a o := by
  cases o with
  | lst ds => obtain ⟨vs, q, w⟩ := h; exact ⟨vs, e.trans q, w.mono t p⟩
  | fz ds => obtain ⟨ob, vs, q, w⟩ := h; exact ⟨ob, vs, e.trans q, w.mono t p⟩
  | dt ds => obtain ⟨vs, q, w⟩ := h; exact ⟨vs, e.trans q, w.mono t p⟩
theorem RO.ne {a : Addr} {o : O} (h : RO K H m a o) : H a ≠ none := by
  cases o with
  | lst ds => obtain ⟨vs, q, w⟩ := h; rw [q]; simp
  | fz ds => obtain ⟨ob, vs, q, w⟩ := h; rw [q]; simp
  | dt ds => obtain ⟨vs, q, w⟩ := h; rw [q]; simp
theorem RE.mono {ρ : Env} {σ : L2.St} (t : TK H H') (p : m <+: m') (h : RE K H m ρ σ) : RE K H' m' ρ σ := ⟨h.len, fun i d e => by
  obtain ⟨v, e', r⟩ := h.get i d e
  exact ⟨v, e', r.mono t p⟩⟩
theorem RE.set {ρ : Env} {σ : L2.St} {d : D} {v : V} (i : Nat) (h : RE K H m ρ σ) (q : RV K H m d v) : RE K H m (ρ.set i (some d)) (σ.set i (some v)) := by
  refine ⟨by simp [h.len], fun j d' e => ?_⟩
  by_cases hj : i = j
  · subst hj
    have hi : i < ρ.length := by
      rcases Nat.lt_or_ge i ρ.length with z | z
      · exact z
      · rw [List.getElem?_eq_none (by simpa using z)] at e; cases e
    rw [List.getElem?_set_self hi] at e
    cases e
    exact ⟨v, List.getElem?_set_self (h.len ▸ hi), q⟩
  · rw [List.getElem?_set_ne hj] at e
    rw [List.getElem?_set_ne hj]
    exact h.get j d' e
theorem RVs.length : ∀ {ds : List D} {vs : List V}, RVs K H m ds vs → ds.length = vs.length
  | _, _, .nil => rfl
  | _, _, .cons _ r => by simp [RVs.length r]
theorem RVs.get : ∀ {ds : List D} {vs : List V} {i : Nat} {d : D}, RVs K H m ds vs → ds[i]? = some d → ∃ v, vs[i]? = some v ∧ RV K H m d v
  | _, _, _, _, .nil, e => by simp at e
  | _, _, 0, _, .cons h r, e => by simp at e; subst e; exact ⟨_, rfl, h⟩
  | _, _, i + 1, _, .cons h r, e => by
    obtain ⟨v, e', q⟩ := RVs.get (i := i) r (by simpa using e)
    exact ⟨v, by simpa using e', q⟩
theorem RVs.get' : ∀ {ds : List D} {vs : List V} {i : Nat} {v : V}, RVs K H m ds vs → vs[i]? = some v → ∃ d, ds[i]? = some d ∧ RV K H m d v
  | _, _, _, _, .nil, e => by simp at e
  | _, _, 0, _, .cons h r, e => by simp at e; subst e; exact ⟨_, rfl, h⟩
  | _, _, i + 1, _, .cons h r, e => by
    obtain ⟨v, e', q⟩ := RVs.get' (i := i) r (by simpa using e)
    exact ⟨v, by simpa using e', q⟩
theorem RVs.append : ∀ {ds es : List D} {vs us : List V}, RVs K H m ds vs → RVs K H m es us → RVs K H m (ds ++ es) (vs ++ us)
  | _, _, _, _, .nil, s => s
  | _, _, _, _, .cons h r, s => .cons h (RVs.append r s)
theorem RVs.take : ∀ {ds : List D} {vs : List V} (n : Nat), RVs K H m ds vs → RVs K H m (ds.take n) (vs.take n)
  | _, _, 0, _ => .nil
  | _, _, _ + 1, .nil => .nil
  | _, _, n + 1, .cons h r => .cons h (RVs.take n r)
theorem RVs.drop : ∀ {ds : List D} {vs : List V} (n : Nat), RVs K H m ds vs → RVs K H m (ds.drop n) (vs.drop n)
  | _, _, 0, r => r
  | _, _, _ + 1, .nil => .nil
  | _, _, n + 1, .cons h r => RVs.drop n r
theorem RVs.set {d : D} {v : V} (q : RV K H m d v) : ∀ {ds : List D} {vs : List V} (n : Nat), RVs K H m ds vs → RVs K H m (ds.set n d) (vs.set n v)
  | _, _, _, .nil => .nil
  | _, _, 0, .cons h r => .cons q r
  | _, _, n + 1, .cons h r => .cons h (RVs.set q n r)
theorem RVs.eraseIdx : ∀ {ds : List D} {vs : List V} (n : Nat), RVs K H m ds vs → RVs K H m (ds.eraseIdx n) (vs.eraseIdx n)
  | _, _, _, .nil => .nil
  | _, _, 0, .cons h r => r
  | _, _, n + 1, .cons h r => .cons h (RVs.eraseIdx n r)
theorem RVs.reverse {ds : List D} {vs : List V} (h : RVs K H m ds vs) : RVs K H m ds.reverse vs.reverse := by
  have key : ∀ {ds : List D} {vs : List V}, RVs K H m ds vs → RVs K H m ds.reverse vs.reverse := by
    intro ds
    induction ds with
    | nil => intro vs h; cases h; exact .nil
    | cons d r ih =>
      intro vs h
      cases h with
      | cons h1 h2 =>
        rw [List.reverse_cons, List.reverse_cons]
        exact (ih h2).append (.cons h1 .nil)
  exact key h
/-- a store, a new thing in it -/
theorem RS.fresh {S : Sto} (r : RS K H m S) {p : Addr} (h : H p = none) : p ∉ m := fun hp => by
  obtain ⟨n, hn, e⟩ := List.mem_iff_getElem.mp hp
  have e1 : m[n]? = some p := by rw [List.getElem?_eq_getElem hn, e]
  have hS : n < S.length := r.len ▸ hn
  have q := r.obj n p _ e1 (List.getElem?_eq_getElem hS)
  exact q.ne h
/-- the heap has more, nothing of the store is touched -/
theorem RS.more {S : Sto} (r : RS K H m S) (t : TK H H') (hk : ∀ a ∈ m, H' a = H a) : RS K H' m S := by
  refine ⟨r.nd, r.len, fun n a o e1 e2 => ?_⟩
  have hm : a ∈ m := List.mem_iff_getElem?.mpr ⟨n, e1⟩
  exact (r.obj n a o e1 e2).mono (hk a hm) t (List.prefix_refl m)
theorem RS.tup {S : Sto} (r : RS K H m S) {p : Addr} {o : HO} (h : H p = none) : RS K (upd H p o) m S :=
  r.more (TK.new h) fun a ha => upd_ne fun z => r.fresh h (z ▸ ha)
theorem RS.new {S : Sto} (r : RS K H m S) {p : Addr} (h : H p = none) {o : HO} {ob : O} (hob : RO K (upd H p o) (m ++ [p]) p ob) : RS K (upd H p o) (m ++ [p]) (S ++ [ob]) := by
  refine ⟨?_, by simp [r.len], fun n a o' e1 e2 => ?_⟩
  · rw [List.nodup_append]
    refine ⟨r.nd, by simp, ?_⟩
    intro a ha b hb e
    rw [List.mem_singleton] at hb
    subst hb
    exact r.fresh h (e ▸ ha)
  · have r2 : RS K (upd H p o) m S := r.tup h
    rcases Nat.lt_or_ge n m.length with hn | hn
    · rw [List.getElem?_append_left hn] at e1
      rw [List.getElem?_append_left (r.len ▸ hn)] at e2
      exact (r2.obj n a o' e1 e2).mono rfl (TK.refl _) (List.prefix_append _ _)
    · rw [List.getElem?_append_right hn] at e1
      rw [List.getElem?_append_right (r.len ▸ hn)] at e2
      have h0 : n - m.length = 0 := by
        rcases Nat.eq_zero_or_pos (n - m.length) with z | z
        · exact z
        · rw [List.getElem?_eq_none (by simp; omega)] at e1; cases e1
      rw [h0] at e1
      rw [← r.len, h0] at e2
      simp at e1 e2
      subst e1 e2
      exact hob
/-- a list of the store is changed -/
theorem RS.writeG {S : Sto} (r : RS K H m S) {n : Nat} {a : Addr} {ho : HO} {o' : O} (e : m[n]? = some a) (t : TK H (upd H a ho)) (q : RO K (upd H a ho) m a o') : RS K (upd H a ho) m (S.set n o') := by
  have pp : m <+: m := List.prefix_refl m
  refine ⟨r.nd, by simp [r.len], fun k b o e1 e2 => ?_⟩
  by_cases hk : k = n
  · subst hk
    rw [e] at e1; cases e1
    have hS : k < S.length := by
      rw [← r.len]
      rcases Nat.lt_or_ge k m.length with z | z
      · exact z
      · rw [List.getElem?_eq_none z] at e; cases e
    rw [List.getElem?_set_self hS] at e2
    cases e2
    exact q
  · rw [List.getElem?_set_ne (Ne.symm hk)] at e2
    have hab : b ≠ a := fun z => by
      subst z
      apply hk
      have h1 : k < m.length := by
        rcases Nat.lt_or_ge k m.length with z | z
        · exact z
        · rw [List.getElem?_eq_none z] at e1; cases e1
      have h2 : n < m.length := by
        rcases Nat.lt_or_ge n m.length with z | z
        · exact z
        · rw [List.getElem?_eq_none z] at e; cases e
      rw [List.getElem?_eq_getElem h1] at e1
      rw [List.getElem?_eq_getElem h2] at e
      have ee : m[k] = m[n] := (Option.some.inj e1).trans (Option.some.inj e).symm
      have pw := List.pairwise_iff_getElem.mp r.nd
      rcases Nat.lt_trichotomy k n with z | z | z
      · exact absurd ee (pw k n h1 h2 z)
      · exact z
      · exact absurd ee.symm (pw n k h2 h1 z)
    exact (r.obj k b o e1 e2).mono (upd_ne hab) t pp
theorem RS.write {S : Sto} (r : RS K H m S) {n : Nat} {a : Addr} {ys : List V} {ds : List D} {vs : List V} (e : m[n]? = some a) (h : H a = some (.lst ys)) (q : RVs K H m ds vs) : RS K (upd H a (.lst vs)) m (S.set n (.lst ds)) :=
  r.writeG e (TK.lst h) ⟨vs, upd_same, q.mono (TK.lst h) (List.prefix_refl m)⟩
theorem RS.writeD {S : Sto} (r : RS K H m S) {n : Nat} {a : Addr} {ys vs : List (List Key × V)} {ds : List (List Key × D)} (e : m[n]? = some a) (h : H a = some (.dT ys)) (q : RKs K H m ds vs) : RS K (upd H a (.dT vs)) m (S.set n (.dt ds)) :=
  r.writeG e (TK.dt h) ⟨vs, upd_same, q.mono (TK.dt h) (List.prefix_refl m)⟩
end
end Ev
end
section
/-! Sets made of lists of texts. -/
set_option linter.all false
set_option maxRecDepth 100000
set_option maxHeartbeats 4000000
namespace StS
open PySem PySem.Spec PyProof.Rows L2
/-- how many unlike ones -/
def cnt : List Str → Nat
  | [] => 0
  | x :: r => (if x ∈ r then 0 else 1) + cnt r
def cntI (xs : List Str) : Nat → Nat
  | 0 => 0
  | i + 1 => if (xs.getD i Str.empty) ∈ xs.take i then cntI xs i else cntI xs i + 1
theorem cntI_le (xs : List Str) : ∀ i, cntI xs i ≤ i
  | 0 => Nat.le_refl _
  | i + 1 => by unfold cntI; have := cntI_le xs i; split <;> omega
/-! the unlike ones, as they are first met -/
def dI (xs : List Str) : Nat → List Str
  | 0 => []
  | i + 1 => if (xs.getD i Str.empty) ∈ xs.take i then dI xs i else dI xs i ++ [xs.getD i Str.empty]
theorem dI_len (xs : List Str) : ∀ i, (dI xs i).length = cntI xs i
  | 0 => rfl
  | i + 1 => by unfold dI cntI; split <;> simp [dI_len xs i]
theorem dI_mem (xs : List Str) : ∀ i, i ≤ xs.length → ∀ y, y ∈ dI xs i ↔ y ∈ xs.take i
  | 0, _, y => by simp [dI]
  | i + 1, hi, y => by
    have ih := dI_mem xs i (by omega)
    have h : i < xs.length := by omega
    have g : xs.getD i Str.empty = xs[i] := by rw [List.getD_eq_getElem?_getD, List.getElem?_eq_getElem h]; rfl
    rw [List.take_succ_eq_append_getElem h]
    unfold dI
    split
    · rename_i z
      rw [ih, List.mem_append, List.mem_singleton]
      exact ⟨.inl, fun q => q.elim id fun q => by rw [q, ← g]; exact z⟩
    · rw [List.mem_append, List.mem_append, ih, g]
theorem dI_nodup (xs : List Str) : ∀ i, i ≤ xs.length → (dI xs i).Nodup
  | 0, _ => List.nodup_nil
  | i + 1, hi => by
    have ih := dI_nodup xs i (by omega)
    unfold dI
    split
    · exact ih
    · rename_i z
      rw [List.nodup_append]
      refine ⟨ih, by simp, fun a ha b hb => ?_⟩
      rw [List.mem_singleton] at hb
      subst hb
      rintro rfl
      exact z ((dI_mem xs i (by omega) _).mp ha)
/-- as many, and none missing -/
theorem perm_of {α : Type} [DecidableEq α] : ∀ (D L : List α), D.Nodup → (∀ x ∈ D, x ∈ L) → L.length ≤ D.length → L.Perm D
  | [], L, _, _, h => by
    have : L = [] := List.length_eq_zero_iff.mp (Nat.le_zero.mp h)
    rw [this]
  | x :: D, L, nd, sb, h => by
    obtain ⟨n1, n2⟩ := List.nodup_cons.mp nd
    have hx : x ∈ L := sb x (.head _)
    have p1 := List.perm_cons_erase hx
    have ih := perm_of D (L.erase x) n2 (fun y hy => (List.mem_erase_of_ne (fun e : y = x => n1 (e ▸ hy))).mpr (sb y (.tail _ hy))) (by
      rw [List.length_erase_of_mem hx]; simp at h; omega)
    exact p1.trans (ih.cons x)
/-! the table that can be walked -/
def Tab (w : World) (h : Heap) (S : Addr) : Prop := ∃ o es ep t, h.get? S = some o ∧ o.data = .set es ep t ∧ Ris t.place.toList ∧ (w.params.followText "set-order" = true ∨ t.led = true)
theorem Tab.keep {w : World} {h h' : Heap} {S : Addr} (q : Tab w h S) (k : ∀ o, h.get? S = some o → h'.get? S = some o) : Tab w h' S := by
  obtain ⟨o, es, ep, t, e, z⟩ := q
  exact ⟨o, es, ep, t, k o e, z⟩
section
variable {prog : Program} {w : World} {A : Around} {E : Value → Shared → Prop} {s : Shared} {a : Addr}
theorem put_at {h : Heap} {o : Obj} {es es' : Array (Int × Value)} {ep : Nat} {t t' : SetTable} (ho : h.get? a = some o) (hd : o.data = .set es ep t) (r : Ris t'.place.toList) (l : w.params.followText "set-order" = true ∨ t'.led = true) : Tab w (h.update a (Obj.putSet es' t')) a :=
  ⟨_, es', _, t', store_at ho hd, rfl, r, l⟩
/-- the new table is stored, and laid anew if it is too full -/
theorem tail2 {g : Bool → Sem Unit} (hg : ∀ (b : Bool) (s' : Shared) (Z : Unit → Shared → Prop), Z () s' → wpAny (model prog w) A (g b) Z E s') {o : Obj} {es fs : Array (Int × Value)} {ep : Nat} {t u : SetTable} {wd : Bool} {F : Str → Bool} {Q : Option Bool → Shared → Prop}
    (ho : s.heap.get? a = some o) (hx : o.ExactSet) (hd : o.data = .set es ep t) (h1 : ElemsOf (PySem.strKind prog w) fs.toList) (h2 : ∀ j, F j = true ↔ ∃ e ∈ fs.toList, (PySem.strKind prog w).is j e.2 = true) (h3 : fs.size < scanBound) (h4 : u.fits fs.size = true)
    (h5 : Ris u.place.toList) (h6 : w.params.followText "set-order" = true ∨ u.led = true)
    (fin : ∀ h', Heap.SameBut a s.heap h' → h'.SetOf (PySem.strKind prog w) a F fs.size → Tab w h' a → Q (some true) { s with heap := h' }) :
    wpAny (model prog w) A (do
        storeSet a fs u
        if (!wd && u.tooFull) = true then do
            g (relayAll u fs (SetTable.grown fs.size)).2.2
            storeSet a (relayAll u fs (SetTable.grown fs.size)).1 (relayAll u fs (SetTable.grown fs.size)).2.1
            pure (some true)
          else pure (some true)) Q E s := by
  apply wpAny_bind
  apply wpAny_storeSet_of ho hd (hz := fits_of_scanBound h3)
  have st := SetOf_store (knd := PySem.strKind prog w) ho hx hd h1 h2 h3 h4
  have tb : Tab w (s.heap.update a (Obj.putSet fs u)) a := put_at ho hd h5 h6
  have sb := Heap.SameBut.update s.heap a (Obj.putSet fs u)
  by_cases full : (!wd && u.tooFull) = true
  · rw [if_pos full]
    have p1 := relayAll_perm u fs (SetTable.grown fs.size)
    have p2 := relayAll_fits u fs (SetTable.grown fs.size)
    have p3 := relayAll_ris u fs (SetTable.grown fs.size)
    have p4 := relayAll_led u fs (SetTable.grown fs.size)
    revert p1 p2 p3 p4
    rcases relayAll u fs (SetTable.grown fs.size) with ⟨gs, v, gave⟩
    intro p1 p2 p3 p4
    simp only at p1 p2 p3 p4 ⊢
    have len : gs.size = fs.size := by simpa using p1.length_eq
    apply wpAny_bind
    apply hg
    apply wpAny_bind
    apply wpAny_storeSet_of st.1 rfl (hz := fits_of_scanBound (by omega))
    apply wpAny_pure
    apply fin _ (sb.trans (Heap.SameBut.update _ a _))
    · rw [← len]
      exact (SetOf_store (knd := PySem.strKind prog w) st.1 hx rfl (h1.perm p1) (fun j => by
        rw [h2 j]
        constructor
        · rintro ⟨e, m, q⟩; exact ⟨e, p1.mem_iff.mpr m, q⟩
        · rintro ⟨e, m, q⟩; exact ⟨e, p1.mem_iff.mp m, q⟩) (by omega) p2).2
    · exact put_at st.1 rfl p3 (h6.imp id fun z => by rw [p4]; exact z)
  · rw [if_neg full]
    exact wpAny_pure (fin _ sb st.2 tb)
/-- a text joins the set: what the set is, and that its table can be walked -/
theorem join {S : Str → Bool} {n : Nat} {k : Str} {x : Value} {Q : Bool → Shared → Prop} (hk : (PySem.strKind prog w).is k x = true) (hx : x.scannable = true) (hS : s.heap.SetOf (PySem.strKind prog w) a S n) (hT : Tab w s.heap a) (hn : n + 1 < scanBound)
    (fin : ∀ h', Heap.SameBut a s.heap h' → h'.SetOf (PySem.strKind prog w) a (fun j => S j || decide (j = k)) (if S k then n else n + 1) → Tab w h' a → Q (!S k) { s with heap := h' }) :
    wpAny (model prog w) A (setAddHashed a x ((PySem.strKind prog w).hash k)) Q E s := by
  obtain ⟨o, es, ep, t, c1, c2, c3, c4, c5, c6, c7, c8⟩ := hS
  obtain ⟨o', es', ep', t', d1, d2, tr, tl⟩ := hT
  obtain rfl : o = o' := Option.some.inj (c1.symm.trans d1)
  rw [c3] at d2
  injection d2 with d2 d3 d4
  subst d2 d3 d4
  have way : ∀ (b : Bool) (s' : Shared) (Z : Unit → Shared → Prop), Z () s' → wpAny (model prog w) A (match b with | true => rule "set.scan.the-table-gave-way" | false => pure ()) Z E s' := by
    rintro (_ | _) s' Z z
    · exact wpAny_pure z
    · exact wpAny_rule z
  unfold setAddHashed setAddHashedIn
  apply wpAny_holding
  apply wpAny_bind
  apply wpAny_setState_of c1 c3 c7
  simp only [byScan_of hx c6 c4, if_true]
  unfold setAddByScan
  apply wpAny_bind
  apply wpAny_bind
  apply wpAny_rule
  apply wpAny_bind
  apply wpAny_setScan_of hk c1 c3 c7 c4
  rcases hf : List.findIdx? (fun e => (PySem.strKind prog w).is k e.2) es.toList with _ | j
  · rw [hf]
    have out : S k = false := by
      rw [Bool.eq_false_iff]
      intro z
      obtain ⟨e, m, q⟩ := (c5 k).mp z
      rw [List.findIdx?_eq_none_iff.mp hf e m] at q
      cases q
    have p1 := layNew_perm t es ((PySem.strKind prog w).hash k) x
    have p2 := layNew_fits t es ((PySem.strKind prog w).hash k) x
    have p3 := layNew_ris t es ((PySem.strKind prog w).hash k) x tr
    have p4 := layNew_led t es ((PySem.strKind prog w).hash k) x
    revert p1 p2 p3 p4
    rcases layNew t es ((PySem.strKind prog w).hash k) x with ⟨fs, u, wd, gave⟩
    intro p1 p2 p3 p4
    simp only [Array.toList_push] at p1 p2 p3 p4 ⊢
    have len : fs.size = n + 1 := by
      have := p1.length_eq
      simp at this
      omega
    have lu : w.params.followText "set-order" = true ∨ u.led = true := tl.imp id fun z => by rw [p4]; exact z
    apply wpAny_bind
    apply way
    have done : ∀ h', Heap.SameBut a s.heap h' → h'.SetOf (PySem.strKind prog w) a (fun j => S j || decide (j = k)) fs.size → Tab w h' a → Q true { s with heap := h' } := by
      intro h' y1 y2 y3
      have z := fin h' y1
      rw [out] at z
      exact z (by rw [← len]; exact y2) y3
    split
    · apply wpAny_bind
      rw [hashByValue_scannable 8 hx]
      apply wpAny_pure
      apply tail2 way c1 c2 c3 ((c4.push hk hx).perm p1) (mem_push_iff hk c5 p1) (by omega)
      · first | (split <;> first | exact p2 | exact SetTable.fits_plain_off p2) | exact p2
      · first | (split <;> exact p3) | exact p3
      · first | (split <;> exact lu) | exact lu
      · intro h' y1 y2 y3
        exact wpAny_pure (done h' y1 y2 y3)
    · apply wpAny_bind
      apply wpAny_pure
      simp only [if_true]
      apply tail2 way c1 c2 c3 ((c4.push hk hx).perm p1) (mem_push_iff hk c5 p1) (by omega) p2 p3 lu
      intro h' y1 y2 y3
      exact wpAny_pure (done h' y1 y2 y3)
  · rw [hf]
    obtain ⟨hj, pj, _⟩ := List.findIdx?_eq_some_iff_getElem.mp hf
    have has : S k = true := (c5 k).mpr ⟨_, List.getElem_mem hj, pj⟩
    apply wpAny_pure
    apply wpAny_pure
    have z := fin s.heap (.refl a s.heap)
    rw [has] at z
    refine z ⟨o, es, ep, t, c1, c2, c3, c4, fun i => ?_, c6, c7, c8⟩ ⟨o, es, ep, t, c1, c3, tr, tl⟩
    rw [Bool.or_eq_true, decide_eq_true_eq, ← c5 i]
    constructor
    · rintro (y | rfl)
      · exact y
      · exact has
    · exact .inl
end
section
variable {prog : Program} {w : World} {A : Around} {R : Result → Shared → Prop} {I : Addr} {fp wr : List Addr} {G : Array GenState → Array GenState → Prop} {n : Nat} {P : Nat → Value → Prop} {St : Nat → Shared → Prop}
/-- what stands of the set once i texts are in -/
def In (prog : Program) (w : World) (xs : List Str) (S i : Nat) (h : Heap) : Prop := h.SetOf (PySem.strKind prog w) S (fun y => decide (y ∈ xs.take i)) (cntI xs i) ∧ Tab w h S
theorem In.keep {xs : List Str} {S i : Nat} {h h' : Heap} (q : In prog w xs S i h) (k : ∀ o, h.get? S = some o → h'.get? S = some o) : In prog w xs S i h' := by
  obtain ⟨⟨o, es, ep, t, e, z⟩, q⟩ := q
  exact ⟨⟨o, es, ep, t, k o e, z⟩, q.keep k⟩
theorem loop (W : WalksS prog w A.in1 I fp wr G n P St) (S : Addr) (hS : S ∉ fp) (xs : List Str) (hn : xs.length = n) (hb : n < 4000) (hv : ∀ i v, P i v → ∃ t, v = .str (xs.getD i Str.empty) t) (k : Nat) :
    ∀ (i : Nat) (s : Shared), n = i + k → St i s → In prog w xs S i s.heap → (∀ s', Moved (S :: wr) G s s' → In prog w xs S n s'.heap → R (.ok (.ret .none)) s') →
      codeAny (model prog w) A (.builtin "set.update.loop" ⟨[.ref S, .ref I], []⟩) R s := by
  have w1 : S ∉ wr := fun z => hS (W.sub _ z)
  have w2 : ∀ b ∈ wr, b ∈ S :: wr := fun b z => .tail _ z
  induction k with
  | zero =>
    intro i s e st q r
    obtain rfl : n = i := e
    apply codeAny_builtin PyProof.Rows.F.entry_set_update_loop
    rw [Around.under_plainId PyProof.Rows.F.plain_set_update_loop]
    apply wpAny_bind (m := pyNext (.ref I))
    apply W.done s _ _ st
    intro s1 m
    exact wpAny_pure (r s1 (m.mono w2) (q.keep fun o z => m.heap S o w1 z))
  | succ k ih =>
    intro i s e st q r
    apply codeAny_builtin PyProof.Rows.F.entry_set_update_loop
    rw [Around.under_plainId PyProof.Rows.F.plain_set_update_loop]
    apply wpAny_bind (m := pyNext (.ref I))
    apply W.item i s _ _ (by omega) st
    intro v s1 hP st1 m
    obtain ⟨t, rfl⟩ := hv i v hP
    have q1 : In prog w xs S i s1.heap := q.keep fun o z => m.heap S o w1 z
    apply wpAny_bind (m := holding _ (setAdd S _))
    apply wpAny_holding
    unfold setAdd
    apply wpAny_holding
    apply wpAny_bind
    apply (PySem.strKind prog w).pyHash (k := xs.getD i Str.empty) (strKind_is ..)
    apply join (s := { s1 with toks := s1.toks + 1 }) (strKind_is ..) rfl q1.1 q1.2 (by have := cntI_le xs i; unfold scanBound; omega)
    intro h2 sb q2 q2'
    have q3 : In prog w xs S (i + 1) h2 := by
      refine ⟨?_, q2'⟩
      apply SetOf_congr q2
      · intro y
        have hi : i < xs.length := by omega
        rw [Bool.eq_iff_iff]
        simp only [Bool.or_eq_true, decide_eq_true_eq]
        rw [List.take_succ_eq_append_getElem hi, List.mem_append, List.mem_singleton]
        rw [List.getD_eq_getElem?_getD, List.getElem?_eq_getElem hi]
        rfl
      · rw [show cntI xs (i + 1) = if (xs.getD i Str.empty) ∈ xs.take i then cntI xs i else cntI xs i + 1 from rfl]
        by_cases z : xs.getD i Str.empty ∈ xs.take i
        · rw [if_pos z, if_pos (by simpa using z)]
        · rw [if_neg z, if_neg (by simpa using z)]
    apply wpAny_pure
    constructor
    · exact plainId_quiet PyProof.Rows.F.plain_set_update_loop _
    · apply ih (i + 1) _ (by omega) (W.frame _ s1 _ _ st1 (Nat.le_succ _) fun b z o e' => by rw [sb.2 b (fun y : b = S => hS (y ▸ z))]; exact e') q3
      intro s3 m3 q4
      exact r s3 (Moved.trans W.gtrans ((m.mono w2).then_heap (Nat.le_succ _) fun b o z e' => by rw [sb.2 b (fun y : b = S => z (y ▸ .head _))]; exact e') m3) q4
end
section
variable {prog : Program} {w : World} {A : Around} {E : Value → Shared → Prop} {s : Shared}
/-- the set that is begun with -/
def bare (led : Bool) : Obj := { cls := .type "set", dict := none, data := .set #[] 0 (.fresh 0 0 led) }
/-- the new set is led where the order isn't followed -/
theorem new1 (x : Value) {Z : Value → Shared → Prop} (z : Z (.ref s.heap.objs.size) { s with heap := s.heap.push (bare (!w.params.followText "set-order")) }) :
    codeAny (model prog w) A (.call (.builtin "set.__new__") ⟨[.type "set", x], []⟩) (wants Z E) s := by
  have q := sub_set_self
  rcases s with ⟨hp, gs, dr, tk, os⟩
  unfold bare at z
  apply codeAny_of_tree
  show wpAny _ _ (checkBuiltinCall "set.__new__" _ >>= fun _ => again (.builtin "set.__new__" _)) _ _ _
  apply wpAny_bind
  apply wpAny_of_eq (F.newCall_set_1 x)
  apply wpAny_pure
  refine ⟨plainId_quiet F.plain_set_new _, ?_⟩
  apply codeAny_builtin F.entry_set_new
  rw [Around.under_plainId F.plain_set_new _]
  unfold Builtin.«set.__new__» Builtin.Frozenset.newClass
  wp_walk
  apply wpAny_askSetting
  apply wpAny_pure
  simp only [newObj]
  apply wpAny_bind
  apply wpAny_alloc
  apply wpAny_pure
  exact wpAny_pure z
theorem bare_tab {h : Heap} : Tab w (h.push (bare (!w.params.followText "set-order"))) h.objs.size := by
  refine ⟨_, _, _, _, Heap.get?_push_size _ rfl, rfl, List.Pairwise.nil, ?_⟩
  cases w.params.followText "set-order"
  · exact .inr rfl
  · exact .inl rfl
/-- set(x), by what its init does -/
theorem call1 {x : Value} {Q : Value → Shared → Prop} (Z : Shared → Prop) (hz : ∀ s', Z s' → Q (.ref s.heap.objs.size) s')
    (hb : ∀ (led : Bool), led = (!w.params.followText "set-order") → ∀ (R : Result → Shared → Prop), (∀ s', Z s' → R (.ok (.ret .none)) s') → wpAny (model prog w) A.in1.in1 (Builtin.«set.__init__» ⟨[.ref s.heap.objs.size, x], []⟩) (fun fin s' => match fin with | .done f => R (.ok f) s' | .again c' => c'.quiet = true ∧ codeAny (model prog w) A.in1 c' R s') (fun e s' => R (.error e) s') { s with heap := s.heap.push (bare led) }) :
    wpAny (model prog w) A (call (.type "set") [x]) Q E s := by
  have ft := PySem.F.called_set
  obtain ⟨c, tl, m1⟩ := ft.mro
  have m2 := ft.made
  have m3 := ft.sub
  have m4 := ft.notType
  have m5 := ft.canCreate
  have m6 := PySem.F.typeCall_set_1 x
  apply wpAny_call
  apply codeAny_of_tree
  show wpAny _ _ (callAny (.type "set") _) _ _ _
  apply wpAny_pure
  refine ⟨Code.quiet_builtin _ (by decide +kernel), ?_⟩
  apply codeAny_builtin PySem.F.entry_type_call
  rw [Around.under_plain (weight_type_call_type "set" [x] []) rfl]
  repeat (any_goals (first | assumption | wp_step))
  apply codeAny_mono (new1 x (E := E) (Z := fun o s1 => ∃ led, led = (!w.params.followText "set-order") ∧ o = .ref s.heap.objs.size ∧ s1 = { s with heap := s.heap.push (bare led) }) ⟨_, rfl, rfl, rfl⟩)
  intro r s1 hr
  match r, hr with
  | .error e, hr => exact hr
  | .ok (.ret o), hr =>
    obtain ⟨led, hled, rfl, rfl⟩ := hr
    have t1 : Shared.TypeIs { s with heap := s.heap.push (bare led) } (.ref s.heap.objs.size) "set" := ⟨bare led, Heap.get?_push_size _ rfl, rfl⟩
    have t2 := ft.init.lookup
    have t3 := ft.init.bind (.ref s.heap.objs.size)
    repeat (any_goals (first | assumption | wp_step))
    apply codeAny_mono (codeAny_call_builtin (R := wants (fun r s2 => r = .none ∧ Z s2) E) ft.init.plain PySem.F.entry_set_init (check_set_init_1 t1 (hb led hled _ fun s' z => ⟨rfl, z⟩)))
    intro r2 s2 hr2
    match r2, hr2 with
    | .error e, hr2 => exact hr2
    | .ok (.ret v), hr2 =>
      obtain ⟨rfl, z⟩ := hr2
      have z := hz _ z
      repeat (any_goals (first | assumption | wp_step))
theorem set_list {l : Addr} {items : Array Value} {xs : List Str} {Q : Value → Shared → Prop} (hh : A.handled = none) (hl : s.heap.IsList l items) (hi : StrsAre items.toList xs) (hb : xs.length < 4000)
    (h : ∀ (h' : Heap) (tk : Nat), In prog w xs s.heap.objs.size xs.length h' → (∀ b o, b < s.heap.objs.size → s.heap.get? b = some o → h'.get? b = some o) → Q (.ref s.heap.objs.size) { s with heap := h', toks := tk }) :
    wpAny (model prog w) A (call (.type "set") [.ref l]) Q E s := by
  apply call1 (fun s' => ∃ h' tk, s' = { s with heap := h', toks := tk } ∧ In prog w xs s.heap.objs.size xs.length h' ∧ ∀ b o, b < s.heap.objs.size → s.heap.get? b = some o → h'.get? b = some o)
  · rintro s' ⟨h', tk, rfl, q, k⟩
    exact h h' tk q k
  · intro led hled R hR
    obtain ⟨⟨oc, od, oo, os⟩, g1, g2, nl, g3⟩ := hl
    simp only at g2 g3
    subst g2 g3
    have hn : xs.length = items.size := by rw [← StrsAre.len_eq hi, Array.length_toList]
    have g4 : (s.heap.push (bare led)).get? l = some { cls := .type "list", dict := od, data := .seq items nl, slots := os } := Heap.get?_push_of_some _ g1
    have g5 : (s.heap.push (bare led)).IsList l items := ⟨_, g4, rfl, nl, rfl⟩
    have g6 : (s.heap.push (bare led)).get? s.heap.objs.size = some (bare led) := Heap.get?_push_size _ rfl
    have f1 := PySem.F.sub_list_set
    have f2 := PySem.F.sub_list_frozenset
    have f3 : (Value.type "list" == Value.type "dict") = false := by decide
    have l1 : l < s.heap.objs.size := Heap.lt_size g1
    have l2 : l ≠ (s.heap.push (bare led)).objs.size := by rw [Heap.size_push]; exact Nat.ne_of_lt (Nat.lt_succ_of_lt l1)
    unfold bare at g6 g4
    unfold Builtin.«set.__init__» noKeywords Builtin.Frozenset.updateFrom
    generalize ePI : pyIter = PI
    unfold bare
    wp_walk
    subst ePI
    apply wpAny_pyIter_list g5
    apply wpAny_bind
    apply wpAny_runValue
    apply loop ((Walks.list (A := A.in1.in1.in1) (by simp [hh]) _ l l2 items).toS) s.heap.objs.size ?a1 xs hn (by omega) (fun i v e => SS.strs_at hi i v (by rw [Array.getElem?_toList]; exact e)) items.size 0 _ (by omega) ⟨⟨_, Heap.get?_push_size _ rfl, rfl, rfl⟩, g5.push _⟩ ?a2 ?a3
    case a1 =>
      rw [Heap.size_push]
      simp only [List.mem_cons, List.not_mem_nil, or_false, not_or]
      exact ⟨Nat.ne_of_lt (Nat.lt_succ_self _), Nat.ne_of_gt l1⟩
    case a2 =>
      refine ⟨?_, by subst hled; exact bare_tab.keep fun o e => Heap.get?_push_of_some _ e⟩
      exact SetOf_congr ((setObjOf_fresh (knd := PySem.strKind prog w) led).setOf (Heap.get?_push_of_some _ g6) (by unfold scanBound; omega)) (fun _ => by simp) rfl
    case a3 =>
      intro s' m q
      obtain ⟨h', g', d', tk', os'⟩ := s'
      have z1 : g' = s.gens := m.gens
      have z2 : d' = s.drawn := m.drawn
      have z3 : os' = s.os := m.os
      subst z1 z2 z3
      show wpAny _ _ _ _ _ _
      apply wpAny_pure
      show wpAny _ _ (ret Value.none) _ _ _
      apply wpAny_pure
      apply hR
      refine ⟨h', tk', rfl, hn ▸ q, fun b o z e => ?_⟩
      apply m.heap b o ?_ (Heap.get?_push_of_some _ (Heap.get?_push_of_some _ e))
      rw [Heap.size_push]
      simp only [List.mem_cons, List.not_mem_nil, or_false, not_or]
      exact ⟨Nat.ne_of_lt z, Nat.ne_of_lt (Nat.lt_succ_of_lt z)⟩
end
end StS

namespace StS
open PySem PySem.Spec PyProof.Rows L2
theorem strs_of : ∀ {ys : List Str} {us : List Value}, Vals (ys.map V.str) us → StrsAre us ys := L2.strsAre_of
section
variable {X : Cx}
def tLset (K : PySem.W.Frag) (ta : TE) : TE := fun σ H Q => ta σ H fun x H1 => ∃ (l : Addr) (xs : List Str), x = .ref l ∧ SqL K H1 l (xs.map V.str) ∧ xs.length < 4000 ∧ Q (.int (cntI xs xs.length)) H1
/-- len(set(xs)), xs a list of texts -/
theorem pe_lset {a : Expr} {ta : TE} {p p2 q pos : Pos} (hc : X.calm = true) (g1 : Gl X "len") (m1 : X.mg "len" = none) (g2 : Gl X "set") (m2 : X.mg "set" = none) (ha : PE X a ta) (na : starEach [a] X.env = (false, eval a X.env) :: starEach [] X.env) :
    PE X (.Call (.Name "len" p) [.Call (.Name "set" p2) [a] [] q] [] pos) (tLset X.K ta) := by
  constructor
  intro pins s σ H Q I h
  refine Call_ ?_
  apply ld_blt I g1 m1 boot_len
  apply callWith_builtin1 ?_ rfl rfl
  apply args_cons ?_ rfl
  refine Call_ ?_
  apply ld_blt I g2 m2 boot_set
  apply callWith_type1 ?_ na rfl
  apply args_cons ?_ na
  apply thn (ha.run pins s σ H _ I h)
  rintro v s1 ⟨x, H1, I1, r1, l, xs, rfl, hq, hb, q1⟩
  apply args_nil
  cases r1
  obtain ⟨its, r, pl, hz⟩ := I1.list hq
  apply set_list (I1.ok.hd hc) pl.isList (by simpa using strs_of r) hb
  intro h' tk hS hk
  apply args_nil
  obtain ⟨⟨o, es, ep, t, e1, e2, e3, _, _, _, e4, e5⟩, _⟩ := hS
  have I2 : Inv X pins σ H1 { s1 with heap := h', toks := tk } := I1.kept fun b o e => hk b o (Heap.lt_size e) e
  have := cntI_le xs xs.length
  apply call_len_set e1 e2 e3 e4 (by rw [e5]; omega)
  exact ⟨.int (cntI xs xs.length), H1, I2.tok _, ⟨_, by rw [e5]⟩, q1⟩
end
end StS
end
section
/-! sorted(set(xs)). -/
set_option linter.all false
set_option maxRecDepth 100000
set_option maxHeartbeats 4000000
namespace StS
open PySem PySem.Spec PyProof.Rows L2
/-- a value that is this text -/
def IsT (v : Value) (y : Str) : Prop := ∃ t, v = .str y t
section
variable {prog : Program} {w : World} {A : Around} {E : Value → Shared → Prop} {s : Shared} {S : Addr} {xs : List Str}
theorem texts_of {K : List (Int × Value)} (h : ElemsOf (PySem.strKind prog w) K) : ∃ ys : List Str, PySem.W.EachIs IsT (K.map (·.2)) ys ∧ ∀ y, y ∈ ys ↔ ∃ e ∈ K, (PySem.strKind prog w).is y e.2 = true := by
  induction K with
  | nil => exact ⟨[], .nil, fun y => by simp⟩
  | cons e K ih =>
    obtain ⟨ys, h1, h2⟩ := ih fun e' he => h e' (.tail _ he)
    obtain ⟨⟨k, hk, _⟩, _⟩ := h e (.head _)
    obtain ⟨t, ht⟩ := Value.isStrOf_shape hk
    refine ⟨k :: ys, .cons ⟨t, ht⟩ h1, fun y => ?_⟩
    rw [List.mem_cons, h2 y]
    constructor
    · rintro (rfl | ⟨e', m, q⟩)
      · exact ⟨e, .head _, hk⟩
      · exact ⟨e', .tail _ m, q⟩
    · rintro ⟨e', m, q⟩
      rcases List.mem_cons.mp m with rfl | m
      · exact .inl ((PySem.strKind prog w).inj _ _ _ q hk)
      · exact .inr ⟨e', m, q⟩
theorem each_perm {α β : Type} {R : α → β → Prop} {l l' : List α} (p : l'.Perm l) : ∀ {bs : List β}, PySem.W.EachIs R l bs → ∃ cs : List β, PySem.W.EachIs R l' cs ∧ cs.Perm bs := by
  induction p with
  | nil => intro bs h; cases h; exact ⟨[], .nil, .nil⟩
  | cons x p ih =>
    intro bs h
    cases h with
    | cons h1 h2 =>
      obtain ⟨cs, q1, q2⟩ := ih h2
      exact ⟨_ :: cs, .cons h1 q1, q2.cons _⟩
  | swap x y l =>
    intro bs h
    cases h with
    | cons h1 h2 => cases h2 with
      | cons h3 h4 => exact ⟨_ :: _ :: _, .cons h3 (.cons h1 h4), .swap _ _ _⟩
  | trans p1 p2 i1 i2 =>
    intro bs h
    obtain ⟨cs, q1, q2⟩ := i2 h
    obtain ⟨ds, q3, q4⟩ := i1 q1
    exact ⟨ds, q3, q4.trans q2⟩
/-- the set, sorted -/
theorem sort_set {Q : Value → Shared → Prop} (hh : A.handled = none) (q : In prog w xs S xs.length s.heap) (hb : xs.length < 4000) (hu : A.units + 8 < cLine)
    (fin : ∀ s' p (out : List Value) (c : Nat) (cs : List Str), (∀ b o, s.heap.get? b = some o → s'.heap.get? b = some o) → s'.gens = s.gens → s'.os = s.os → s.heap.objs.size ≤ p → s'.heap.get? p = some (seqObj "list" out.toArray c) →
      cs.Perm (dI xs xs.length) → PySem.W.EachIs IsT out (cs.mergeSort (PySem.W.dataLe false PyData.str)) → Q (.ref p) s') :
    wpAny (model prog w) A (call (.builtin "sorted") [.ref S]) Q E s := by
  obtain ⟨⟨o, es, ep, t, c1, c2, c3, c4, c5, c6, c7, c8⟩, o', es', ep', t', d1, d2, tr, tl⟩ := q
  obtain rfl : o = o' := Option.some.inj (c1.symm.trans d1)
  rw [c3] at d2
  injection d2 with d2 d3 d4
  subst d2 d3 d4
  obtain ⟨ys, y1, y2⟩ := texts_of c4
  have len : ys.length = cntI xs xs.length := by rw [← y1.length, List.length_map, Array.length_toList, c8]
  have py : ys.Perm (dI xs xs.length) := by
    apply perm_of _ _ (dI_nodup xs _ (Nat.le_refl _))
    · intro x hx
      rw [y2 x, ← c5 x]
      exact decide_eq_true ((dI_mem xs _ (Nat.le_refl _) x).mp hx)
    · rw [dI_len, len]; exact Nat.le_refl _
  have small := cntI_le xs xs.length
  apply Calls.call_function_entry kind_sorted plain_sorted entry_sorted (args_sorted1 _)
  unfold Builtin.«sorted»
  apply wpAny_bind
  apply wpAny_pure
  apply wpAny_bind
  apply collect_set (A := A.in1) hh ⟨o, c1, c2.1, c3⟩ c7 c6 tr tl
  intro s1 vs k1 z1 g1 o1 pm
  obtain ⟨cs, e1, e2⟩ := each_perm pm y1
  have lc : cs.length ≤ sizeLine := by rw [e2.length_eq, len, sizeLine_eq]; omega
  apply wpAny_bind
  apply wpAny_newList (hsz := by rw [e1.length]; exact lc)
  have hL : (s1.heap.push (seqObj "list" vs.toArray 0)).get? s1.heap.objs.size = some (seqObj "list" vs.toArray 0) := Heap.get?_push_size _ rfl
  apply wpAny_bind
  apply wpAny_holding
  apply PySem.W.list_sort_data (enc := PyData.str) (R := IsT) hL e1 (e1.mono fun v b ⟨t, e⟩ => ⟨[], by rw [e]; exact .str _ _, by simp⟩)
  · intro p hp q hq
    obtain ⟨_, _, rfl⟩ := List.mem_map.mp hp
    obtain ⟨_, _, rfl⟩ := List.mem_map.mp hq
    rfl
  · right
    intro d hd
    obtain ⟨_, _, rfl⟩ := List.mem_map.mp hd
    exact ⟨fun z => (by cases z), fun _ z => (by cases z)⟩
  · exact lc
  · intro b hb
    have : (PyData.str b).depth = 0 := rfl
    show A.in1.units + 1 + _ < _
    simp only [Around.in1]
    omega
  · intro out lo eo
    obtain ⟨c, hc⟩ := sortedHeap_at (vs := vs) (out := out.toArray) hL
    apply wpAny_pure
    refine ⟨_, rfl, fin _ _ out c cs ?_ g1 o1 z1 hc (e2.trans py) eo⟩
    intro b u e
    have y := k1 b u e
    have lt := Heap.lt_size y
    rw [show (sortedHeap (s1.heap.push (seqObj "list" vs.toArray 0)) s1.heap.objs.size vs out.toArray).get? b = _ from sortedHeap_old (Nat.ne_of_lt lt) (by rw [size_push']; exact Nat.lt_succ_of_lt lt)]
    exact Heap.get?_push_of_some _ y
end
/-- sorted(set(xs)) -/
def sS (xs : List Str) : List Str := (dI xs xs.length).mergeSort (PySem.W.dataLe false PyData.str)
theorem str_toks {a b : Str} (h : PySem.W.keyToks (.str a) = PySem.W.keyToks (.str b)) : a = b := by
  rcases a with ⟨a⟩
  rcases b with ⟨b⟩
  simpa [PySem.W.keyToks] using h
theorem le_anti {a b : Str} (h1 : PySem.W.dataLe false PyData.str a b = true) (h2 : PySem.W.dataLe false PyData.str b a = true) : a = b := by
  have z1 : (!PySem.W.dataLt (.str b) (.str a)) = true := h1
  have z2 : (!PySem.W.dataLt (.str a) (.str b)) = true := h2
  rw [Bool.not_eq_true'] at z1 z2
  exact str_toks (PyProof.Rows.lex_total _ _ z2 z1)
theorem sort_perm {cs ds : List Str} (p : cs.Perm ds) : cs.mergeSort (PySem.W.dataLe false PyData.str) = ds.mergeSort (PySem.W.dataLe false PyData.str) := by
  have tl := PySem.W.sortLe_total (PyProof.Rows.listOrd PyProof.Rows.itemOrd) false (fun d : Str => PySem.W.keyToks (.str d))
  have hs : ∀ l : List Str, (l.mergeSort (PySem.W.dataLe false PyData.str)).Pairwise (fun a b => PySem.W.dataLe false PyData.str a b = true) := fun l => List.pairwise_mergeSort (le := PySem.W.dataLe false PyData.str) (fun a b c h1 h2 => tl.trans a b c h1 h2) (fun a b => Bool.or_eq_true_iff.mpr (tl.total a b)) l
  exact List.Perm.eq_of_pairwise (fun a b _ _ h1 h2 => le_anti h1 h2) (hs cs) (hs ds) ((List.mergeSort_perm _ _).trans (p.trans (List.mergeSort_perm _ _).symm))
theorem vals_of {us : List Value} {ys : List Str} (h : PySem.W.EachIs IsT us ys) : Vals (ys.map V.str) us := by
  induction h with
  | nil => exact .nil
  | cons h _ ih => obtain ⟨t, rfl⟩ := h; exact .cons ⟨t, rfl⟩ ih
section
variable {X : Cx}
def tSset (K : PySem.W.Frag) (ta : TE) : TE := fun σ H Q => ta σ H fun x H1 => ∃ (l : Addr) (xs : List Str), x = .ref l ∧ SqL K H1 l (xs.map V.str) ∧ xs.length < 4000 ∧ ∀ p, H1 p = none → Q (.ref p) (upd H1 p (.lst ((sS xs).map V.str)))
theorem pe_sset {a : Expr} {ta : TE} {p p2 q pos : Pos} (hc : X.calm = true) (hu : X.A.units + 20 < cLine) (g1 : Gl X "sorted") (m1 : X.mg "sorted" = none) (g2 : Gl X "set") (m2 : X.mg "set" = none) (ha : PE X a ta) (na : starEach [a] X.env = (false, eval a X.env) :: starEach [] X.env) :
    PE X (.Call (.Name "sorted" p) [.Call (.Name "set" p2) [a] [] q] [] pos) (tSset X.K ta) := by
  constructor
  intro pins s σ H Q I h
  refine Call_ ?_
  apply ld_blt I g1 m1 boot_sorted
  apply callWith_builtin1 ?_ rfl rfl
  apply args_cons ?_ rfl
  refine Call_ ?_
  apply ld_blt I g2 m2 boot_set
  apply callWith_type1 ?_ na rfl
  apply args_cons ?_ na
  apply thn (ha.run pins s σ H _ I h)
  rintro v s1 ⟨x, H1, I1, r1, l, xs, rfl, hq, hb, q1⟩
  apply args_nil
  cases r1
  obtain ⟨its, r, pl, hz⟩ := I1.list hq
  apply set_list (I1.ok.hd hc) pl.isList (by simpa using strs_of r) hb
  intro h' tk hS hk
  apply args_nil
  have I2 : Inv X pins σ H1 { s1 with heap := h', toks := tk } := I1.kept fun b o e => hk b o (Heap.lt_size e) e
  apply sort_set (I1.ok.hd hc) hS hb (by omega)
  intro s' p out c cs k g o hp hg pm eo
  rw [sort_perm pm] at eo
  have len : ((sS xs).map V.str).length ≤ sizeLine := by
    have := cntI_le xs xs.length
    rw [List.length_map, sS, List.length_mergeSort, dI_len, sizeLine_eq]; omega
  have hn : H1 p = none := I2.hok.fresh hp
  have J : Inv X pins σ (upd H1 p (.lst ((sS xs).map V.str))) { ({ s1 with heap := h', toks := tk } : Shared) with heap := s'.heap, gens := s'.gens, drawn := s'.drawn, toks := s'.toks } :=
    I2.call (ch := []) (Un.laid k hp hn) (I2.hok.laid k hp ⟨len, out, c, vals_of eo, hg⟩) (by rw [g]; exact I2.bare) (fun _ z => nomatch z)
  have e : s' = { s1 with heap := s'.heap, gens := s'.gens, drawn := s'.drawn, toks := s'.toks } := by
    rcases s' with ⟨_, _, _, _, _⟩
    cases o
    rfl
  rw [e]
  exact ⟨.ref p, _, J, rfl, q1 p hn⟩
end
end StS
end
section
/-! list(zip(a, b)) where a or b is the empty tuple. -/
set_option linter.all false
set_option maxRecDepth 100000
set_option maxHeartbeats 4000000
namespace LzS
open PySem PySem.Spec PyProof.Rows L2
theorem zip_nolen : typeLookup (.type "zip") "__len__" = pure none := by
  rw [typeLookup_type, builtinLookup_eq_fast]
  kernel_rfl
theorem zip_nohint : typeLookup (.type "zip") "__length_hint__" = pure none := by
  rw [typeLookup_type, builtinLookup_eq_fast]
  kernel_rfl
section
variable {prog : Program} {w : World} {A : Around} {E : Value → Shared → Prop} {s : Shared} {R : Result → Shared → Prop}
variable {z : Addr} {fp wr : List Addr} {G : Array GenState → Array GenState → Prop} {n : Nat} {P : Nat → Value → Prop} {St : Nat → Shared → Prop}
/-- list(it) of what gives no hint of its length -/
theorem list_it {T : String} {Q : Value → Shared → Prop} (nl : typeLookup (.type T) "__len__" = pure none) (nh : typeLookup (.type T) "__length_hint__" = pure none)
    (x2 : (Value.type T == Value.type "list") = false) (x3 : (Value.type T == Value.type "tuple") = false)
    (W : WalksS prog w A.in1.in1 z fp wr G n P St) (ty : ∀ i s, St i s → s.TypeIs (.ref z) T) (st : St 0 s) (lt : ∀ b ∈ fp, b < s.heap.objs.size) (zf : z ∈ fp) (sz : n ≤ sizeLine)
    (fin : ∀ s' acc c, (∀ b o, b ∉ wr → s.heap.get? b = some o → s'.heap.get? b = some o) → G s.gens s'.gens → s'.os = s.os → s'.heap.get? s.heap.objs.size = some (seqObj "list" acc c) → ItemsOf P acc n → Q (.ref s.heap.objs.size) s') :
    wpAny (model prog w) A (call (.type "list") [.ref z]) Q E s := by
  have nf : s.heap.objs.size ∉ fp := fun m => Nat.lt_irrefl _ (lt _ m)
  have nz : s.heap.objs.size ≠ z := fun e => nf (e ▸ zf)
  apply callType_codes F.called_list (F.typeCall_list_1 _) F.entry_list_init (code_list_new (Q₁ := fun o t => o = .ref s.heap.objs.size ∧ t = { s with heap := s.heap.push { cls := .type "list", data := .seq #[] } }) _ ⟨rfl, rfl⟩)
  rintro _ _ ⟨rfl, rfl⟩
  have g0 : (s.heap.push { cls := .type "list", data := .seq #[] }).get? s.heap.objs.size = some { cls := .type "list", data := .seq #[] } := Heap.get?_push_size _ rfl
  have k0 : ∀ b o, s.heap.get? b = some o → (s.heap.push { cls := .type "list", data := .seq #[] }).get? b = some o := fun b o e => Heap.get?_push_of_some _ e
  have up : ∀ (h : Heap) (f : Obj → Obj), (∀ b o, s.heap.get? b = some o → h.get? b = some o) → ∀ b o, s.heap.get? b = some o → (h.update s.heap.objs.size f).get? b = some o := fun h f k b o e => by
    rw [Heap.get?_update_other _ _ (Ne.symm (Nat.ne_of_lt (Heap.lt_size e)))]
    exact k b o e
  refine ⟨⟨_, g0, rfl⟩, F.args_list_init_2 _ _, ?_⟩
  show wpAny _ _ (Builtin.List.listItems _ >>= fun old => Builtin.List.listUpdate _ _ >>= fun _ => letGo _ >>= fun _ => Builtin.List.listExtendWith _ _ .none) _ _ _
  apply wpAny_bind
  unfold Builtin.List.listItems
  apply wpAny_bind
  apply wpAny_seqItems g0 rfl
  apply wpAny_pure
  apply wpAny_bind
  apply wpAny_updateSeq g0 rfl
  have g1 := Heap.get?_update_self (Obj.mapSeq (fun _ => (#[] : Array Value))) g0 rfl
  have k1 := up _ (Obj.mapSeq (fun _ => (#[] : Array Value))) k0
  apply wpAny_bind
  apply wpAny_letGo
  have st1 := W.frame 0 s _ s.toks st (Nat.le_refl _) fun b _ o e => k1 b o e
  unfold Builtin.List.listExtendWith
  apply wpAny_bind
  apply wpAny_typeOf (ty 0 _ st1)
  have x1 : Builtin.List.listSameRef (.ref s.heap.objs.size) (.ref z) = false := by simp [Builtin.List.listSameRef, nz]
  simp only [x1, x2, x3, Bool.or_false, Bool.false_eq_true, if_false]
  apply wpAny_bind
  apply W.self 0 _ _ _ st1
  apply wpAny_bind
  apply wpAny_holding
  unfold Builtin.List.listLengthHint
  apply wpAny_bind
  apply wpAny_specialOf (ty 0 _ st1) nl
  show wpAny _ _ (specialOf (Value.ref z) (Str.ofString "__length_hint__") >>= _) _ _ _
  apply wpAny_bind
  apply wpAny_specialOf (ty 0 _ st1) nh
  apply wpAny_pure
  show wpAny _ _ (rule "list.extend.makes-room" >>= fun _ => (updateSeq s.heap.objs.size (·.push .none) >>= fun _ => updateSeq s.heap.objs.size (·.pop)) >>= fun _ => again (.builtin "list.extend.loop" ⟨[.ref s.heap.objs.size, .ref z, .none], []⟩)) _ _ _
  apply wpAny_bind
  apply wpAny_rule
  apply wpAny_bind
  apply wpAny_bind
  refine wpAny_updateSeq g1 rfl ?_
  have g2 := Heap.get?_update_self (Obj.mapSeq (·.push Value.none)) g1 rfl
  have k2 := up _ (Obj.mapSeq (·.push Value.none)) k1
  refine wpAny_updateSeq g2 rfl ?_
  have g3 := Heap.get?_update_self (Obj.mapSeq (·.pop)) g2 rfl
  have k3 := up _ (Obj.mapSeq (·.pop)) k2
  have st3 := W.frame 0 s _ s.toks st (Nat.le_refl _) fun b _ o e => k3 b o e
  refine wpAny_pure ⟨plainId_quiet F.plain_extend_loop _, codeAny_extend_loopS W sz _ nf _ n 0 _ _ _ rfl (Nat.zero_le _) st3 g3 (ItemsOf.nil P) ?_⟩
  intro s' acc c mv ga it
  refine ⟨rfl, fin s' acc c (fun b o nb e => mv.heap b o (fun m => ?_) (k3 b o e)) mv.gens mv.os ga it⟩
  rcases List.mem_cons.mp m with rfl | m
  · exact Nat.lt_irrefl _ (Heap.lt_size e)
  · exact nb m
/-- a zip of tuples, one of them empty, gives nothing -/
theorem walks_none {TI TO i1 i2 a b : Addr} {xs ys : Array Value} (hh : A.handled = none) (D : ZipApart z TI TO i1 i2 a b) (he : xs[0]? = none ∨ ys[0]? = none) :
    WalksS prog w A z [z, TI, TO, i1, i2, a, b] [z, TO, i1, i2] (fun g g' => g' = g) 0 (fun _ _ => False)
      (fun _ t => IsZip t.heap z TI TO .none ∧ IsPair t.heap TI (.ref i1) (.ref i2) ∧ (∃ x y, IsPair t.heap TO x y) ∧ t.heap.IsTupleIter i1 a 0 ∧ t.heap.IsTupleIter i2 b 0 ∧ t.heap.IsTuple a xs ∧ t.heap.IsTuple b ys) where
  sub := fun c hc => by
    simp only [List.mem_cons, List.not_mem_nil, or_false] at hc ⊢
    rcases hc with h | h | h | h <;> simp [h]
  grefl := fun _ => rfl
  gtrans := fun _ _ _ h1 h2 => h2.trans h1
  frame := fun i t h' tk q _ k => by
    obtain ⟨q1, q2, ⟨x, y, q3⟩, q4, q5, ⟨o6, e6, q6⟩, o7, e7, q7⟩ := q
    exact ⟨k z (by simp) _ q1, k TI (by simp) _ q2, ⟨x, y, k TO (by simp) _ q3⟩, q4.at fun o e => k i1 (by simp) o e, q5.at fun o e => k i2 (by simp) o e, ⟨o6, k a (by simp) _ e6, q6⟩, o7, k b (by simp) _ e7, q7⟩
  item := fun i t Q E hi => absurd hi (Nat.not_lt_zero _)
  done := fun t Q E q fin => by
    obtain ⟨q1, q2, ⟨x, y, q3⟩, q4, q5, q6, q7⟩ := q
    apply RZ.pyNext_zipT_end hh D q1 q2 q3 q4 q5 q6 q7 he
    intro h' k
    refine fin _ ⟨fun c o nc e => ?_, rfl, rfl, rfl, Nat.le_refl _⟩
    simp only [List.mem_cons, List.not_mem_nil, or_false, not_or] at nc
    exact k c o nc.1 nc.2.1 nc.2.2.1 nc.2.2.2 e
  self := fun i t Q E q h => wpAny_pyIter_zip q.1 h
theorem list_zip {a b : Addr} {xs ys : Array Value} {Q : Value → Shared → Prop} (hh : A.handled = none) (ha : s.heap.IsTuple a xs) (hb : s.heap.IsTuple b ys) (he : xs[0]? = none ∨ ys[0]? = none)
    (fin : ∀ s' p c, (∀ b o, s.heap.get? b = some o → s'.heap.get? b = some o) → s'.gens = s.gens → s'.os = s.os → s.heap.objs.size ≤ p → s'.heap.get? p = some (seqObj "list" #[] c) → Q (.ref p) s') :
    wpAny (model prog w) A (call (.type "zip") [.ref a, .ref b]) (fun v t => wpAny (model prog w) A (call (.type "list") [v]) Q E t) E s := by
  obtain ⟨oa, ea, ha2⟩ := id ha
  obtain ⟨ob, eb, hb2⟩ := id hb
  have la := Heap.lt_size ea
  have lb := Heap.lt_size eb
  apply RZ.call_zipT ha hb
  intro h' q1 q2 q3 q4 q5 hz k
  refine list_it (s := { s with heap := h' }) zip_nolen zip_nohint (by decide) (by decide) (walks_none (A := A.in1.in1) (xs := xs) (ys := ys) hh (PySem.W.ktu_apart s.heap.objs.size a b la lb) he)
    (fun i t q => ⟨_, q.1, rfl⟩) ⟨q1, q2, ⟨_, _, q3⟩, q4, q5, ⟨oa, k _ _ ea, ha2⟩, ob, k _ _ eb, hb2⟩ (fun c hc => ?_) (by simp) (Nat.zero_le _) ?_
  · show c < h'.objs.size
    simp only [List.mem_cons, List.not_mem_nil, or_false] at hc
    have la' : a < (s.heap.objs.size : Nat) := la
    have lb' : b < (s.heap.objs.size : Nat) := lb
    rw [hz]
    rcases hc with rfl | rfl | rfl | rfl | rfl | rfl | rfl
    · exact Nat.lt_succ_self _
    · exact Nat.add_lt_add_left (by decide) _
    · exact Nat.add_lt_add_left (by decide) _
    · exact Nat.lt_add_of_pos_right (by decide)
    · exact Nat.add_lt_add_left (by decide) _
    · exact Nat.lt_of_lt_of_le la' (Nat.le_add_right _ _)
    · exact Nat.lt_of_lt_of_le lb' (Nat.le_add_right _ _)
  · intro s' acc c mv hg ho ga it
    have ac : acc = #[] := Array.eq_empty_of_size_eq_zero it.1
    subst ac
    refine fin s' _ c (fun d o e => mv d o (fun m => ?_) (k d o e)) hg ho (by show s.heap.objs.size ≤ h'.objs.size; rw [hz]; exact Nat.le_add_right _ _) ga
    have ld : d < (s.heap.objs.size : Nat) := Heap.lt_size e
    simp only [List.mem_cons, List.not_mem_nil, or_false] at m
    rcases m with rfl | rfl | rfl | rfl
    · exact absurd ld (Nat.not_lt.mpr (Nat.le_add_right _ _))
    · exact absurd ld (Nat.not_lt.mpr (Nat.le_add_right _ _))
    · exact absurd ld (Nat.lt_irrefl _)
    · exact absurd ld (Nat.not_lt.mpr (Nat.le_add_right _ _))
end
section
variable {X : Cx}
def tLz (K : PySem.W.Frag) (ta : TA) : TE := fun σ H Q => ta σ H fun vs H1 => ∃ (a b : Addr) (xs ys : List V), vs = [.ref a, .ref b] ∧ SqT K H1 a xs ∧ SqT K H1 b ys ∧ (xs = [] ∨ ys = []) ∧ ∀ p, H1 p = none → Q (.ref p) (upd H1 p (.lst []))
theorem pe_lz {e e2 : Expr} {ta : TA} {p p2 q pos : Pos} (hc : X.calm = true) (g1 : Gl X "list") (m1 : X.mg "list" = none) (g2 : Gl X "zip") (m2 : X.mg "zip" = none) (ha : PA X [e, e2] ta)
    (hs : starEach [e, e2] X.env = (false, eval e X.env) :: starEach [e2] X.env) (hpl : (backTo q (starEach [e2] X.env)).any (·.1) = false) :
    PE X (.Call (.Name "list" p) [.Call (.Name "zip" p2) [e, e2] [] q] [] pos) (tLz X.K ta) := by
  constructor
  intro pins s σ H Q I h
  refine Call_ ?_
  apply ld_blt I g1 m1 boot_list
  apply callWith_type1 ?_ rfl rfl
  apply args_cons ?_ rfl
  refine Call_ ?_
  apply ld_blt I g2 m2 boot_zip
  apply callWith_type1 ?_ hs hpl
  apply thn (ha.run q pins s σ H _ I h)
  rintro us s1 ⟨vs, H1, I1, r1, a, b, xs, ys, rfl, hx, hy, he, q1⟩
  cases r1 with
  | cons r r2 =>
    cases r2 with
    | cons r' r3 =>
      cases r3
      cases r
      cases r'
      obtain ⟨ia, ra, pa, _⟩ := I1.tuple hx
      obtain ⟨ib, rb, pb, _⟩ := I1.tuple hy
      have la := ra.length
      have lb := rb.length
      have he' : ia.toArray[0]? = none ∨ ib.toArray[0]? = none := by
        rcases he with z | z
        · left; subst z; have : ia = [] := List.eq_nil_of_length_eq_zero la.symm; subst this; rfl
        · right; subst z; have : ib = [] := List.eq_nil_of_length_eq_zero lb.symm; subst this; rfl
      refine wpAny_mono (list_zip (Q := EP X pins σ Q) (I1.ok.hd hc) (show s1.heap.IsTuple a ia.toArray from pa) (show s1.heap.IsTuple b ib.toArray from pb) he' ?_) (fun v t z => args_nil z) fun _ _ z => z
      intro s' p c k g o hp hg
      have hn : H1 p = none := I1.hok.fresh hp
      have J : Inv X pins σ (upd H1 p (.lst [])) { s1 with heap := s'.heap, gens := s'.gens, drawn := s'.drawn, toks := s'.toks } :=
        I1.call (ch := []) (Un.laid k hp hn) (I1.hok.laid k hp ⟨Nat.zero_le _, [], c, .nil, hg⟩) (by rw [g]; exact I1.bare) (fun _ z => nomatch z)
      have e : s' = { s1 with heap := s'.heap, gens := s'.gens, drawn := s'.drawn, toks := s'.toks } := by
        rcases s' with ⟨_, _, _, _, _⟩
        cases o
        rfl
      rw [e]
      exact ⟨.ref p, _, J, rfl, q1 p hn⟩
end
end LzS
end
section
set_option Elab.async false
set_option linter.all false
set_option maxRecDepth 100000
set_option maxHeartbeats 4000000
/-! The small language that a def's body is erased to, and what it does. -/
namespace Ev
open PySem L2

inductive Ty where
  | int | bool | str | tuple | list | dict
  deriving DecidableEq
/-- built-ins of one argument, of two; methods are built-ins with the object ahead -/
inductive B1 where
  | len | tuple | list | sorted | all | repr | int | min | max | set | sset
  deriving DecidableEq
inductive B2 where
  | min | max | divmod | lzip
  deriving DecidableEq
inductive M2 where
  | append | extend | pop
  deriving DecidableEq
inductive SM where
  | strip | join
  deriving DecidableEq
/-- a target: a slot, or several -/
inductive Tg where
  | one (i : Nat) | many (is : List Nat)

mutual
inductive E where
  | bad
  | var (i : Nat)
  | lit (d : D)
  | tup (es : Es)
  | lst (es : Es)
  | bin (op : Operator) (a b : E)
  | neg (a : E)
  | cmp (op : CmpOp) (a b : E)
  | chain (op op' : CmpOp) (a b c : E)
  | and (a b : E)
  | or (a b : E)
  | not (a : E)
  | ite (c a b : E)
  | call (f : Nat) (es : Es)
  | b1 (b : B1) (a : E)
  | b2 (b : B2) (a c : E)
  | meth (b : M2) (a c : E)
  | isi (a : E) (t : Ty)
  | ix (a b : E)
  | sl (a : E) (lo hi : Eo)
  | rev (a : E)
  | dnew
  | sm (b : SM) (a c : E)
  | rng (t : Bool) (a b : E)
  | comp (elt : E) (tg : Tg) (own : List Nat) (it : I) (cond : Eo)
inductive I where
  | bad
  | seq (e : E)
  | r1 (a : E)
  | r2 (a b : E)
  | zip (a b : E)
  | enum (a : E)
inductive Es where
  | nil
  | cons (e : E) (r : Es)
inductive Eo where
  | none
  | some (e : E)
end
mutual
inductive T where
  | bad
  | asg (t : Tg) (e : E)
  | par (i j : Nat) (a b : E)
  | setIx (o i e : E)
  | setD (o : E) (es : Es) (e : E)
  | augIx (o i e : E)
  | expr (e : E)
  | ret (e : E)
  | ife (c : E) (a b : Ts)
  | for (t : Tg) (it : I) (b : Ts)
  | while (c : E) (b : Ts)
  | pass
inductive Ts where
  | nil
  | cons (t : T) (r : Ts)
end

abbrev R (α : Type) := Option (α × Sto)
def bnd {α β : Type} (x : R α) (f : α → Sto → R β) : R β := match x with
  | none => none
  | some (a, S) => f a S
@[simp] theorem bnd_none {α β : Type} (f : α → Sto → R β) : bnd none f = none := rfl
@[simp] theorem bnd_some {α β : Type} (a : α) (S : Sto) (f : α → Sto → R β) : bnd (some (a, S)) f = f a S := rfl
theorem bnd_eq {α β : Type} {x : R α} {f : α → Sto → R β} {b : β} {S' : Sto} (h : bnd x f = some (b, S')) : ∃ a S, x = some (a, S) ∧ f a S = some (b, S') := by
  cases x with
  | none => cases h
  | some p => exact ⟨p.1, p.2, rfl, h⟩

/-- the items of a list of the store -/
def itemsAt (S : Sto) (n : Nat) : Option (List D) := match S[n]? with
  | some (.lst xs) => some xs
  | some (.fz xs) => some xs
  | some (.dt _) => none
  | none => none
def optAll {α : Type} : List (Option α) → Option (List α)
  | [] => some []
  | some a :: r => (optAll r).map (a :: ·)
  | none :: _ => none
theorem optAll_map {α β : Type} {f : α → Option β} {g : α → β} : ∀ {xs : List α}, (∀ x ∈ xs, f x = some (g x)) → optAll (xs.map f) = some (xs.map g)
  | [], _ => rfl
  | x :: r, h => by
    rw [List.map_cons, h x (by simp), optAll, optAll_map (fun y hy => h y (by simp [hy]))]
    rfl
/-- a datum as a whole, lists of the store in it -/
def pyD : Nat → Sto → D → Option PyData
  | _, _, .non => some .none
  | _, _, .bl b => some (.bool b)
  | _, _, .int i => some (.int i)
  | _, _, .str s => if PyData.strOk s = true then some (.str s) else none
  | 0, _, .tup _ => none
  | 0, _, .ref _ => none
  | k + 1, S, .tup xs => (optAll (xs.map (pyD k S))).map .tuple
  | k + 1, S, .ref n => match S[n]? with
    | some (.dt []) => some (.dict [])
    | _ => ((itemsAt S n).bind fun xs => optAll (xs.map (pyD k S))).map .list
def cutD (xs : List D) (lo hi : Option Int) : List D := (xs.drop (HT.sIx xs.length 0 lo)).take (HT.sIx xs.length xs.length hi - HT.sIx xs.length 0 lo)
def truthD (S : Sto) : D → Option Bool
  | .non => some false
  | .bl b => some b
  | .int i => some (i != 0)
  | .str s => if s.length ≤ 100000 then some ((s.length : Int) != 0) else none
  | .tup xs => some (!xs.isEmpty)
  | .ref n => (itemsAt S n).map fun xs => !xs.isEmpty
/-- a new list -/
def newL (S : Sto) (xs : List D) : R D := if xs.length ≤ 100000 then some (.ref S.length, S ++ [.lst xs]) else none
def newT (S : Sto) (xs : List D) : R D := if xs.length ≤ 100000 then some (.tup xs, S) else none
def binD (S : Sto) : Operator → D → D → R D
  | .Add, .int i, .int j => some (.int (i + j), S)
  | .Add, .str x, .str y => if x.length + y.length ≤ 100000 then some (.str (x ++ y), S) else none
  | .Add, .tup xs, .tup ys => newT S (xs ++ ys)
  | .Add, .ref a, .ref b => match S[a]?, S[b]? with
    | some (.lst xs), some (.lst ys) => newL S (xs ++ ys)
    | _, _ => none
  | .Sub, .int i, .int j => some (.int (i - j), S)
  | .Mult, .int i, .int j => if (-(2 ^ 64) < i ∧ i < 2 ^ 64) ∨ (-(2 ^ 64) < j ∧ j < 2 ^ 64) then some (.int (i * j), S) else none
  | .Mult, .tup xs, .int j => if -1000 ≤ j ∧ j ≤ 1000 ∧ xs.length ≤ 1000 then newT S (List.replicate j.toNat xs).flatten else none
  | .FloorDiv, .int i, .int j => if 0 < j ∧ j < 1073741824 then some (.int (i / j), S) else none
  | .Mod, .int i, .int j => if 0 < j then some (.int (i % j), S) else none
  | .Pow, .int i, .int j => if 0 ≤ j ∧ j ≤ 1000000 ∧ i.natAbs < 2 ^ 64 then some (.int (i ^ j.toNat), S) else none
  | _, _, _ => none
def inD (S : Sto) (x y : D) : Option Bool := match x, y with
  | .str x, .str z => match x.cps.toList with
    | [c] => some (decide (c ∈ z.cps.toList))
    | _ => none
  | x, y => match pyD 60 S x, pyD 60 S y with
    | some p, some (.list ps) => if PyData.canLayAll0 ps = true then some (ps.any fun z => PyData.eqv z p) else none
    | some p, some (.tuple ps) => if PyData.canLayAll0 ps = true then some (ps.any fun z => PyData.eqv z p) else none
    | _, _ => none
open Classical in
noncomputable def ltD (S : Sto) (x y : D) : Option Bool := match x, y with
  | .int i, .int j => some (decide (i < j))
  | x, y => match pyD 60 S x, pyD 60 S y with
    | some p, some q => if PySem.W.alike p q = true ∧ p ≠ .none ∧ p.canLay0 = true ∧ q.canLay0 = true then some (PySem.W.dataLt p q) else none
    | _, _ => none
def eqD (S : Sto) (x y : D) : Option Bool := match pyD 60 S x, pyD 60 S y with
  | some p, some q => if (p.canLay0 || q.canLay0) = true then some (PyData.eqv p q) else none
  | _, _ => none
def isD : D → D → Option Bool
  | x, .non => some (match x with
    | .non => true
    | _ => false)
  | .bl a, .bl b => some (decide (a = b))
  | _, _ => none
noncomputable def cmpD (S : Sto) : CmpOp → D → D → Option Bool
  | .Eq, x, y => eqD S x y
  | .NotEq, x, y => (eqD S x y).map (!·)
  | .Lt, x, y => ltD S x y
  | .Gt, .int i, .int j => some (decide (j < i))
  | .LtE, .int i, .int j => some (decide (i ≤ j))
  | .GtE, .int i, .int j => some (decide (j ≤ i))
  | .Is, x, y => isD x y
  | .IsNot, x, y => (isD x y).map (!·)
  | .In, x, y => inD S x y
  | .NotIn, x, y => (inD S x y).map (!·)
  | _, _, _ => none
def lenD (S : Sto) : D → Option Nat
  | .str s => if s.length ≤ 100000 then some s.length else none
  | .tup xs => some xs.length
  | .ref n => (itemsAt S n).map (·.length)
  | _ => none
def isiD (S : Sto) : D → Ty → Option Bool
  | .non, _ => some false
  | .bl _, t => some (decide (t = .bool) || decide (t = .int))
  | .int _, t => some (decide (t = .int))
  | .str _, t => some (decide (t = .str))
  | .tup _, t => some (decide (t = .tuple))
  | .ref n, t => match S[n]? with
    | some (.lst _) => some (decide (t = .list))
    | some (.fz _) => some (decide (t = .list))
    | some (.dt _) => some (decide (t = .dict))
    | none => none
def seqD (S : Sto) : D → Option (List D)
  | .tup xs => some xs
  | .ref n => itemsAt S n
  | _ => none
def boolsOf : List D → Option (List Bool)
  | [] => some []
  | .bl b :: r => (boolsOf r).map (b :: ·)
  | _ => none
def intsOf : List D → Option (List Int)
  | [] => some []
  | .int b :: r => (intsOf r).map (b :: ·)
  | _ => none
def pyT (S : Sto) (d : D) : PyData := (pyD 60 S d).getD .none
/-- sorted, as the machine does it -/
def sortable (ds : List PyData) : Bool := (ds.all fun d => match d with
  | .tuple (_ :: _) => true
  | _ => false) || ds.all fun d => match d with
  | .none => false
  | .tuple _ => false
  | _ => true
def sortD (S : Sto) (xs : List D) : R D :=
  if xs.length ≤ 100000 ∧ (xs.all fun d => match pyD 60 S d with
    | some p => p.canLay0
    | none => false) = true ∧ ((xs.map (pyT S)).all fun p => (xs.map (pyT S)).all fun q => PySem.W.alike p q) = true ∧ sortable (xs.map (pyT S)) = true then
    newL S (xs.mergeSort (PySem.W.dataLe false (pyT S)))
  else none
def keyOf : D → Option Key
  | .int i => some (.inl i)
  | .str x => some (.inr x)
  | _ => none
def keyD : Key → D
  | .inl i => .int i
  | .inr x => .str x
/-- a dict's keys, if it is one -/
def keysAt (S : Sto) : D → Option (List D)
  | .ref n => (match S[n]? with
    | some (.dt kvs) => some (kvs.map fun kv => .tup (kv.1.map keyD))
    | _ => none)
  | _ => none
def putD (kvs : List (List Key × D)) (k : List Key) (d : D) : List (List Key × D) :=
  if (kvs.any fun e => decide (e.1 = k)) = true then kvs.map (fun e => if e.1 = k then (e.1, d) else e) else kvs ++ [(k, d)]
def strsOf : List D → Option (List Str)
  | [] => some []
  | .str x :: r => (strsOf r).map (x :: ·)
  | _ => none
def isS : D → Bool
  | .str _ => true
  | _ => false
def smD (S : Sto) : SM → D → D → R D
  | .strip, .str a, .str b => if a.length ≤ 100000 then some (.str (Txt.stripChars a b), S) else none
  | .join, .str a, d => (seqD S d).bind fun xs => (strsOf xs).bind fun ys => if (ys.map (·.length)).sum + ys.length * a.length ≤ 1000000 then some (.str (Txt.join a ys), S) else none
  | _, _, _ => none
def revD (S : Sto) : D → R D
  | .tup xs => some (.tup xs.reverse, S)
  | .ref n => (itemsAt S n).bind fun xs => newL S xs.reverse
  | _ => none
def b1D (S : Sto) : B1 → D → R D
  | .len, d => (lenD S d).map fun n => (.int n, S)
  | .tuple, .tup xs => some (.tup xs, S)
  | .tuple, .ref n => (itemsAt S n).map fun xs => (.tup xs, S)
  | .list, d => match keysAt S d with
    | some ks => newL S ks
    | none => (seqD S d).bind fun xs => newL S xs
  | .sorted, .ref n => (itemsAt S n).bind fun xs => sortD S xs
  | .all, .ref n => (itemsAt S n).bind fun xs => (boolsOf xs).map fun bs => (.bl (bs.all id), S)
  | .repr, d => match pyD 60 S d with
    | some p => if p.showable = true ∧ p.shown.length ≤ 1000000 then some (.str p.shown, S) else none
    | none => none
  | .sset, .ref n => (itemsAt S n).bind fun xs => (strsOf xs).bind fun ys => if ys.length < 4000 then newL S ((StS.sS ys).map D.str) else none
  | .set, .ref n => (itemsAt S n).bind fun xs => (strsOf xs).bind fun ys => if ys.length < 4000 then some (.int (StS.cntI ys ys.length), S) else none
  | .int, .int i => some (.int i, S)
  | .int, .bl b => some (.int (if b then 1 else 0), S)
  | _, _ => none
def b2D (S : Sto) : B2 → D → D → R D
  | .max, .int i, .int j => some (.int (if j > i then j else i), S)
  | .min, .int i, .int j => some (.int (if j < i then j else i), S)
  | .divmod, .int i, .int j => if 0 < j ∧ j < 1073741824 then some (.tup [.int (i / j), .int (i % j)], S) else none
  | .lzip, .tup xs, .tup ys => if (xs.isEmpty || ys.isEmpty) = true then newL S [] else none
  | _, _, _ => none
def isL (S : Sto) : D → Bool
  | .ref n => (itemsAt S n).isSome
  | _ => false
def m2D (S : Sto) : M2 → D → D → R D
  | .append, .ref n, d => match S[n]? with
    | some (.lst xs) => if xs.length < 100000 then some (.non, S.set n (.lst (xs ++ [d]))) else none
    | _ => none
  | .extend, .ref n, .ref k => match S[n]?, S[k]? with
    | some (.lst xs), some (.lst ys) => if xs.length + ys.length ≤ 100000 then some (.non, S.set n (.lst (xs ++ ys))) else none
    | _, _ => none
  | .pop, .ref n, .int i => match S[n]? with
    | some (.lst xs) => match xs[i.toNat]? with
      | some d => if 0 ≤ i ∧ i < 2 ^ 62 then some (d, S.set n (.lst (xs.eraseIdx i.toNat))) else none
      | none => none
    | _ => none
  | _, _, _ => none
def ixD (S : Sto) (a b : D) : R D := match a, b with
  | .tup xs, .int i => (atI xs i).map fun d => (d, S)
  | .ref n, .int i => (itemsAt S n).bind fun xs => (atI xs i).map fun d => (d, S)
  | .str z, .int i => if z.length ≤ 100000 then (atI z.cps.toList i).map fun c => (.str ⟨#[c]⟩, S) else none
  | _, _ => none
def oInt : Option D → Option (Option Int)
  | none => some none
  | some (.int i) => some (some i)
  | _ => none
def slD (S : Sto) (a : D) (lo hi : Option Int) : R D := match a with
  | .tup xs => some (.tup (cutD xs lo hi), S)
  | .ref n => (itemsAt S n).bind fun xs => newL S (cutD xs lo hi)
  | _ => none
def setAll : List Nat → List D → Env → Option Env
  | [], [], ρ => some ρ
  | i :: is, d :: ds, ρ => setAll is ds (ρ.set i (some d))
  | _, _, _ => none
def setT : Tg → D → Env → Option Env
  | .one i, d, ρ => some (ρ.set i (some d))
  | .many is, .tup ds, ρ => setAll is ds ρ
  | _, _, _ => none
def wipeE (ρ : Env) : List Nat → Env
  | [] => ρ
  | v :: vs => (wipeE ρ vs).set v none
/-- what is walked: its items, and (of lists) which lists must stand as they are -/
structure Src where
  items : List D
  held : List (Nat × List D)
def Src.ok (s : Src) (S : Sto) : Prop := ∀ p ∈ s.held, itemsAt S p.1 = some p.2
def rangeD (lo : Int) (n : Nat) : List D := (List.range n).map fun (i : Nat) => D.int (lo + (i : Int))
def heldD : D → List D → List (Nat × List D)
  | .ref n, xs => [(n, xs)]
  | _, _ => []
def small (i : Int) : Prop := -(2 ^ 62) ≤ i ∧ i < 2 ^ 62
instance (i : Int) : Decidable (small i) := inferInstanceAs (Decidable (_ ∧ _))
inductive Fl where
  | nx (ρ : Env)
  | ret (d : D)
open Classical in
/-- a for's turns -/
noncomputable def forL (s : Src) (step : D → Env → Sto → R Fl) : List D → Env → Sto → R Fl
  | [], ρ, S => if s.ok S then some (.nx ρ, S) else none
  | d :: r, ρ, S => if s.ok S then bnd (step d ρ S) fun f S' => match f with
      | .nx ρ' => forL s step r ρ' S'
      | .ret v => some (.ret v, S')
    else none
open Classical in
/-- a comprehension's turns: the list at n is filled -/
noncomputable def compL (s : Src) (n : Nat) (step : D → Sto → R (Option D)) : List D → Sto → R Unit
  | [], S => if s.ok S then some ((), S) else none
  | d :: r, S => if s.ok S then bnd (step d S) fun o S' => match o with
      | none => compL s n step r S'
      | some y => match S'[n]? with
        | some (.lst acc) => if acc.length < 100000 then compL s n step r (S'.set n (.lst (acc ++ [y]))) else none
        | _ => none
    else none
def whileL (c : Env → Sto → R Bool) (b : Env → Sto → R Fl) : Nat → Env → Sto → R Fl
  | 0, _, _ => none
  | k + 1, ρ, S => bnd (c ρ S) fun t S' => if t = true then bnd (b ρ S') fun f S'' => match f with
      | .nx ρ' => whileL c b k ρ' S''
      | .ret v => some (.ret v, S'')
    else some (.nx ρ, S')

def signs (s : Str) : List D := s.cps.toList.map fun c => D.str ⟨#[c]⟩
def srcD (S : Sto) (d : D) : R Src := match d with
  | .str s => some (⟨signs s, []⟩, S)
  | d => match seqD S d with
    | some xs => some (⟨xs, heldD d xs⟩, S)
    | none => none
def zip2 (xs ys : List D) : List D := List.zipWith (fun x y => D.tup [x, y]) xs ys
def zipD (S : Sto) (d e : D) : R Src := match d, e with
  | .tup xs, .tup ys => some (⟨zip2 xs ys, []⟩, S)
  | .ref a, .ref b => match itemsAt S a, itemsAt S b with
    | some xs, some ys => some (⟨zip2 xs ys, [(a, xs), (b, ys)]⟩, S)
    | _, _ => none
  | _, _ => none
def rng1 (S : Sto) (d : D) : R Src := match d with
  | .int j => if small j then some (⟨rangeD 0 j.toNat, []⟩, S) else none
  | _ => none
def rng2 (S : Sto) (d e : D) : R Src := match d, e with
  | .int i, .int j => if small i ∧ small j then some (⟨rangeD i (j - i).toNat, []⟩, S) else none
  | _, _ => none
def rngD (S : Sto) (t : Bool) (d e : D) : R D := match d, e with
  | .int i, .int j => if small i ∧ small j ∧ (j - i).toNat ≤ 100000 then (if t = true then newT S (rangeD i (j - i).toNat) else newL S (rangeD i (j - i).toNat)) else none
  | _, _ => none
def enums (xs : List D) : List D := (List.range xs.length).zipWith (fun (i : Nat) x => D.tup [.int (i : Int), x]) xs
def enumD (S : Sto) (d : D) : R Src := match d with
  | .tup xs => some (⟨enums xs, []⟩, S)
  | .ref n => match itemsAt S n with
    | some xs => some (⟨enums xs, [(n, xs)]⟩, S)
    | none => none
  | _ => none
def sl3 (S : Sto) (x : D) (l h : Option D) : R D := match oInt l, oInt h with
  | some l, some h => slD S x l h
  | _, _ => none
def stepC (fe : Env → Sto → R D) (fc : Env → Sto → R (Option D)) (tg : Tg) (ρ : Env) : D → Sto → R (Option D) := fun d S2 => match setT tg d ρ with
  | none => none
  | some ρ2 => bnd (fc ρ2 S2) fun c S3 => match c with
    | none => bnd (fe ρ2 S3) fun y S4 => some (some y, S4)
    | some v => match truthD S3 v with
      | some true => bnd (fe ρ2 S3) fun y S4 => some (some y, S4)
      | some false => some (none, S3)
      | none => none
def setIxD (S : Sto) (ρ : Env) (x y d : D) : R Fl := match x, y with
  | .ref n, .int k => match S[n]? with
    | some (.lst xs) => match ixN xs.length k with
      | some j => some (.nx ρ, S.set n (.lst (xs.set j d)))
      | none => none
    | _ => none
  | _, _ => none
/-- the number that is raised -/
def augD (S : Sto) (x y : D) : Option Int := match x, y with
  | .ref n, .int k => (match S[n]? with
    | some (.lst xs) => (match ixN xs.length k with
      | some j => (match xs[j]? with
        | some (.int m) => if 0 ≤ k then some m else none
        | _ => none)
      | none => none)
    | _ => none)
  | _, _ => none
def setDD (S : Sto) (ρ : Env) (x : D) (ks : List D) (d : D) : R Fl := match x with
  | .ref n => (match S[n]? with
    | some (.dt kvs) => (match optAll (ks.map keyOf) with
      | some k => if kvs.length < 100000 ∧ k.length ≤ 100000 then some (.nx ρ, S.set n (.dt (putD kvs k d))) else none
      | none => none)
    | _ => none)
  | _ => none
/-- a for's body -/
def stepF (t : Tg) (f : Env → Sto → R Fl) : D → Env → Sto → R Fl := fun d ρ' S' => match setT t d ρ' with
  | none => none
  | some ρ2 => f ρ2 S'
section
variable (cl : Nat → List D → Sto → R D)
mutual
noncomputable def evE : E → Env → Sto → R D
  | .bad, _, _ => none
  | .var i, ρ, S => match ρ[i]? with
    | some (some d) => some (d, S)
    | _ => none
  | .lit d, _, S => some (d, S)
  | .tup es, ρ, S => bnd (evEs es ρ S) fun ds S1 => newT S1 ds
  | .lst es, ρ, S => bnd (evEs es ρ S) fun ds S1 => newL S1 ds
  | .bin op a b, ρ, S => bnd (evE a ρ S) fun x S1 => bnd (evE b ρ S1) fun y S2 => binD S2 op x y
  | .neg a, ρ, S => bnd (evE a ρ S) fun x S1 => match x with
    | .int i => some (.int (-i), S1)
    | _ => none
  | .cmp op a b, ρ, S => bnd (evE a ρ S) fun x S1 => bnd (evE b ρ S1) fun y S2 => (cmpD S2 op x y).map fun k => (.bl k, S2)
  | .chain op op' a b c, ρ, S => bnd (evE a ρ S) fun x S1 => bnd (evE b ρ S1) fun y S2 => match cmpD S2 op x y with
    | some true => bnd (evE c ρ S2) fun z S3 => (cmpD S3 op' y z).map fun k => (.bl k, S3)
    | some false => some (.bl false, S2)
    | none => none
  | .and a b, ρ, S => bnd (evE a ρ S) fun x S1 => match truthD S1 x with
    | some true => evE b ρ S1
    | some false => some (x, S1)
    | none => none
  | .or a b, ρ, S => bnd (evE a ρ S) fun x S1 => match truthD S1 x with
    | some true => some (x, S1)
    | some false => evE b ρ S1
    | none => none
  | .not a, ρ, S => bnd (evE a ρ S) fun x S1 => (truthD S1 x).map fun k => (.bl (!k), S1)
  | .ite c a b, ρ, S => bnd (evE c ρ S) fun x S1 => match truthD S1 x with
    | some true => evE a ρ S1
    | some false => evE b ρ S1
    | none => none
  | .call f es, ρ, S => bnd (evEs es ρ S) fun ds S1 => cl f ds S1
  | .b1 b a, ρ, S => bnd (evE a ρ S) fun x S1 => b1D S1 b x
  | .b2 b a c, ρ, S => bnd (evE a ρ S) fun x S1 => bnd (evE c ρ S1) fun y S2 => b2D S2 b x y
  | .meth b a c, ρ, S => bnd (evE a ρ S) fun x S1 => if isL S1 x = true then bnd (evE c ρ S1) fun y S2 => m2D S2 b x y else none
  | .isi a t, ρ, S => bnd (evE a ρ S) fun x S1 => (isiD S1 x t).map fun k => (.bl k, S1)
  | .ix a b, ρ, S => bnd (evE a ρ S) fun x S1 => bnd (evE b ρ S1) fun y S2 => ixD S2 x y
  | .sl a lo hi, ρ, S => bnd (evE a ρ S) fun x S1 => bnd (evO lo ρ S1) fun l S2 => bnd (evO hi ρ S2) fun h S3 => sl3 S3 x l h
  | .rev a, ρ, S => bnd (evE a ρ S) fun x S1 => revD S1 x
  | .dnew, _, S => some (.ref S.length, S ++ [.dt []])
  | .sm b a c, ρ, S => bnd (evE a ρ S) fun x S1 => if isS x = true then bnd (evE c ρ S1) fun y S2 => smD S2 b x y else none
  | .rng t a b, ρ, S => bnd (evE a ρ S) fun x S1 => bnd (evE b ρ S1) fun y S2 => rngD S2 t x y
  | .comp elt tg own it cond, ρ, S => bnd (evI it ρ S) fun s S1 =>
      bnd (compL s S1.length (stepC (evE elt) (evO cond) tg (wipeE ρ own)) s.items (S1 ++ [.lst []])) fun _ S9 => some (.ref S1.length, S9)
noncomputable def evI : I → Env → Sto → R Src
  | .bad, _, _ => none
  | .seq e, ρ, S => bnd (evE e ρ S) fun d S1 => srcD S1 d
  | .r1 a, ρ, S => bnd (evE a ρ S) fun d S1 => rng1 S1 d
  | .r2 a b, ρ, S => bnd (evE a ρ S) fun d S1 => bnd (evE b ρ S1) fun e S2 => rng2 S2 d e
  | .zip a b, ρ, S => bnd (evE a ρ S) fun d S1 => bnd (evE b ρ S1) fun e S2 => zipD S2 d e
  | .enum a, ρ, S => bnd (evE a ρ S) fun d S1 => enumD S1 d
noncomputable def evEs : Es → Env → Sto → R (List D)
  | .nil, _, S => some ([], S)
  | .cons e r, ρ, S => bnd (evE e ρ S) fun d S1 => bnd (evEs r ρ S1) fun ds S2 => some (d :: ds, S2)
noncomputable def evO : Eo → Env → Sto → R (Option D)
  | .none, _, S => some (none, S)
  | .some e, ρ, S => bnd (evE e ρ S) fun d S1 => some (some d, S1)
end
noncomputable def evC (c : E) (ρ : Env) (S : Sto) : R Bool := bnd (evE cl c ρ S) fun x S1 => (truthD S1 x).map fun k => (k, S1)
variable (wf : Nat)
mutual
noncomputable def evT : T → Env → Sto → R Fl
  | .bad, _, _ => none
  | .asg t e, ρ, S => bnd (evE cl e ρ S) fun d S1 => (setT t d ρ).map fun ρ' => (.nx ρ', S1)
  | .par i j a b, ρ, S => bnd (evE cl a ρ S) fun x S1 => bnd (evE cl b ρ S1) fun y S2 => some (.nx ((ρ.set i (some x)).set j (some y)), S2)
  | .setIx o i e, ρ, S => bnd (evE cl e ρ S) fun d S1 => bnd (evE cl o ρ S1) fun x S2 => bnd (evE cl i ρ S2) fun y S3 => setIxD S3 ρ x y d
  | .augIx o i e, ρ, S => bnd (evE cl o ρ S) fun x S1 => bnd (evE cl i ρ S1) fun y S2 => match augD S2 x y with
    | some m => bnd (evE cl e ρ S2) fun z S3 => (match z with
      | .int b => setIxD S3 ρ x y (.int (m + b))
      | _ => none)
    | none => none
  | .setD o es e, ρ, S => bnd (evE cl e ρ S) fun d S1 => bnd (evE cl o ρ S1) fun x S2 => bnd (evEs cl es ρ S2) fun ks S3 => setDD S3 ρ x ks d
  | .expr e, ρ, S => bnd (evE cl e ρ S) fun _ S1 => some (.nx ρ, S1)
  | .ret e, ρ, S => bnd (evE cl e ρ S) fun d S1 => some (.ret d, S1)
  | .ife c a b, ρ, S => bnd (evC cl c ρ S) fun t S1 => if t = true then evTs a ρ S1 else evTs b ρ S1
  | .for t it b, ρ, S => bnd (evI cl it ρ S) fun s S1 => forL s (stepF t (evTs b)) s.items ρ S1
  | .while c b, ρ, S => whileL (evC cl c) (evTs b) wf ρ S
  | .pass, ρ, S => some (.nx ρ, S)
noncomputable def evTs : Ts → Env → Sto → R Fl
  | .nil, ρ, S => some (.nx ρ, S)
  | .cons t r, ρ, S => bnd (evT t ρ S) fun f S1 => match f with
    | .nx ρ' => evTs r ρ' S1
    | .ret d => some (.ret d, S1)
end
end
/-- a def: how many slots, how many parameters, its body -/
structure Fn where
  n : Nat
  np : Nat
  body : Ts
noncomputable def callF (P : List Fn) (wf : Nat) : Nat → Nat → List D → Sto → R D
  | 0, _, _, _ => none
  | k + 1, f, ds, S => match P[f]? with
    | none => none
    | some F => if ds.length = F.np then bnd (evTs (callF P wf k) wf F.body (ds.map some ++ List.replicate (F.n - F.np) none) S) fun r S1 => match r with
      | .nx _ => some (.non, S1)
      | .ret d => some (d, S1)
      else none
end Ev
end
section
set_option Elab.async false
set_option linter.all false
set_option maxRecDepth 100000
set_option maxHeartbeats 4000000
/-! What the language's pieces do is what the machine does: judgements by meaning, and expressions. -/
namespace Ev
open PySem PySem.Spec PyProof.Rows L2

section
variable {X : Cx}
/-! ### judgements by meaning -/
def WE (X : Cx) (e : Expr) (σ : L2.St) (H : Hp) (Q : VK) : Prop := ∀ (pins : List (Addr × Obj)) (s : Shared), Inv X pins σ H s → wpAny (model X.prog X.w) X.A (eval e X.env) (EP X pins σ Q) X.xe s
def WT (X : Cx) (e : Expr) (σ : L2.St) (H : Hp) (Q : Bool → Hp → Prop) : Prop := ∀ (pins : List (Addr × Obj)) (s : Shared), Inv X pins σ H s → wpAny (model X.prog X.w) X.A (isTrue e X.env (eval e X.env)) (TP X pins σ Q) X.xe s
def WA (X : Cx) (es : List Expr) (σ : L2.St) (H : Hp) (Q : List V → Hp → Prop) : Prop := ∀ (pos : Pos) (pins : List (Addr × Obj)) (s : Shared), Inv X pins σ H s → wpAny (model X.prog X.w) X.A (spliced (backTo pos (starEach es X.env))) (AP X pins σ Q) X.xe s
def WS (X : Cx) (st : Stmt) (D : Ends) (σ : L2.St) (H : Hp) : Prop := ∀ (pins : List (Addr × Obj)) (s : Shared), Inv X pins σ H s → wpAny (model X.prog X.w) X.A (exec st X.env) (SP X pins D) X.xe s
def WSs (X : Cx) (st : List Stmt) (D : Ends) (σ : L2.St) (H : Hp) : Prop := ∀ (pins : List (Addr × Obj)) (s : Shared), Inv X pins σ H s → wpAny (model X.prog X.w) X.A (execs st X.env) (SP X pins D) X.xe s
def WI (X : Cx) (tg iter : Expr) (σ : L2.St) (H : Hp) (R : It → Hp → Prop) : Prop := ∀ (pins : List (Addr × Obj)) (s : Shared), Inv X pins σ H s →
    wpAny (model X.prog X.w) X.A (eval iter X.env) (fun v s1 => wpAny (model X.prog X.w) X.A (pyIter v) (PIE X pins σ tg R) X.xe s1) X.xe s
/-- an operation on values -/
def WO (X : Cx) (f : Value → Value → Sem Value) (x y : V) (H : Hp) (Q : VK) : Prop := ∀ (pins : List (Addr × Obj)) (s : Shared) (σ : L2.St) (v u : Value), Inv X pins σ H s → RelV x v → RelV y u → wpAny (model X.prog X.w) X.A (f v u) (EP X pins σ Q) X.xe s
theorem pe_W (e : Expr) : PE X e (WE X e) := ⟨fun pins s _ _ _ I h => h pins s I⟩
theorem pt_W (e : Expr) : PT X e (WT X e) := ⟨fun pins s _ _ _ I h => h pins s I⟩
theorem pa_W (es : List Expr) : PA X es (WA X es) := ⟨fun pos pins s _ _ _ I h => h pos pins s I⟩
theorem ps_W (st : Stmt) : PS X st (WS X st) := ⟨fun pins s _ _ _ I h => h pins s I⟩
theorem pss_W (st : List Stmt) : PSs X st (WSs X st) := ⟨fun pins s _ _ _ I h => h pins s I⟩
theorem pi_W (tg iter : Expr) : PI X tg iter (WI X tg iter) := ⟨fun pins s _ _ _ I h => h pins s I⟩
theorem or_W (f : Value → Value → Sem Value) : OpR X f (WO X f) := fun pins s σ H x y v u Q I rx ry h => h pins s σ v u I rx ry
variable {e a b c : Expr} {σ : L2.St} {H : Hp} {Q Q' : VK} {pos : Pos}
theorem WE.of {t : TE} (h : PE X e t) (q : t σ H Q) : WE X e σ H Q := fun pins s I => h.run pins s σ H Q I q
theorem WT.of {t : TT} {Q : Bool → Hp → Prop} (h : PT X e t) (q : t σ H Q) : WT X e σ H Q := fun pins s I => h.run pins s σ H Q I q
theorem WA.of {es : List Expr} {t : TA} {Q : List V → Hp → Prop} (h : PA X es t) (q : t σ H Q) : WA X es σ H Q := fun pos pins s I => h.run pos pins s σ H Q I q
theorem WS.of {st : Stmt} {t : TS} {D : Ends} (h : PS X st t) (q : t D σ H) : WS X st D σ H := fun pins s I => h.run pins s σ H D I q
theorem WSs.of {st : List Stmt} {t : TS} {D : Ends} (h : PSs X st t) (q : t D σ H) : WSs X st D σ H := fun pins s I => h.run pins s σ H D I q
theorem WI.of {tg : Expr} {t : TI} {R : It → Hp → Prop} (h : PI X tg e t) (q : t σ H R) : WI X tg e σ H R := fun pins s I => h.run pins s σ H R I q
theorem WO.of {f : Value → Value → Sem Value} {r : R2} {x y : V} (h : OpR X f r) (q : r x y H Q) : WO X f x y H Q := fun pins s σ v u I rx ry => h pins s σ H x y v u Q I rx ry q
theorem WE.mono (h : WE X e σ H Q) (k : ∀ v H', Q v H' → Q' v H') : WE X e σ H Q' := fun pins s I =>
  thn (h pins s I) fun u s' ⟨v, H', I', r, q⟩ => ⟨v, H', I', r, k v H' q⟩
theorem WT.mono {Q Q' : Bool → Hp → Prop} (h : WT X e σ H Q) (k : ∀ v H', Q v H' → Q' v H') : WT X e σ H Q' := fun pins s I =>
  thn (h pins s I) fun u s' ⟨H', I', q⟩ => ⟨H', I', k u H' q⟩
theorem WA.mono {es : List Expr} {Q Q' : List V → Hp → Prop} (h : WA X es σ H Q) (k : ∀ v H', Q v H' → Q' v H') : WA X es σ H Q' := fun pos pins s I =>
  thn (h pos pins s I) fun u s' ⟨v, H', I', r, q⟩ => ⟨v, H', I', r, k v H' q⟩
theorem WO.mono {f : Value → Value → Sem Value} {x y : V} (h : WO X f x y H Q) (k : ∀ v H', Q v H' → Q' v H') : WO X f x y H Q' := fun pins s σ v u I rx ry =>
  thn (h pins s σ v u I rx ry) fun u s' ⟨v, H', I', r, q⟩ => ⟨v, H', I', r, k v H' q⟩
theorem WI.mono {tg : Expr} {R R' : It → Hp → Prop} (h : WI X tg e σ H R) (k : ∀ J H', R J H' → R' J H') : WI X tg e σ H R' := fun pins s I =>
  thn (h pins s I) fun v s1 q => thn q fun itv s2 ⟨it, fp, tn, J, H', z, I', T, t0, f, r⟩ => ⟨it, fp, tn, J, H', z, I', T, t0, f, k J H' r⟩
theorem WS.mono {st : Stmt} {D D' : Ends} (h : WS X st D σ H) (k1 : ∀ σ H, D.nx σ H → D'.nx σ H) (k2 : ∀ v H, D.rt v H → D'.rt v H) (k3 : ∀ σ H, D.bk σ H → D'.bk σ H) (k4 : ∀ σ H, D.ct σ H → D'.ct σ H) : WS X st D' σ H := fun pins s I =>
  thn (h pins s I) fun f s' q => by
    cases f with
    | next => obtain ⟨σ', H', I', q⟩ := q; exact ⟨σ', H', I', k1 _ _ q⟩
    | brk => obtain ⟨σ', H', I', q⟩ := q; exact ⟨σ', H', I', k3 _ _ q⟩
    | cont => obtain ⟨σ', H', I', q⟩ := q; exact ⟨σ', H', I', k4 _ _ q⟩
    | ret u => obtain ⟨v, σ', H', I', r, q⟩ := q; exact ⟨v, σ', H', I', r, k2 _ _ q⟩
theorem WSs.mono {st : List Stmt} {D D' : Ends} (h : WSs X st D σ H) (k1 : ∀ σ H, D.nx σ H → D'.nx σ H) (k2 : ∀ v H, D.rt v H → D'.rt v H) (k3 : ∀ σ H, D.bk σ H → D'.bk σ H) (k4 : ∀ σ H, D.ct σ H → D'.ct σ H) : WSs X st D' σ H := fun pins s I =>
  thn (h pins s I) fun f s' q => by
    cases f with
    | next => obtain ⟨σ', H', I', q⟩ := q; exact ⟨σ', H', I', k1 _ _ q⟩
    | brk => obtain ⟨σ', H', I', q⟩ := q; exact ⟨σ', H', I', k3 _ _ q⟩
    | cont => obtain ⟨σ', H', I', q⟩ := q; exact ⟨σ', H', I', k4 _ _ q⟩
    | ret u => obtain ⟨v, σ', H', I', r, q⟩ := q; exact ⟨v, σ', H', I', r, k2 _ _ q⟩
end

/-! ### what is wanted behind a piece -/
/-- from (m, H) to a heap that bears S' -/
def PH (K : PySem.W.Frag) (m : List Addr) (H : Hp) (S' : Sto) (Z : List Addr → Hp → Prop) (H' : Hp) : Prop := ∃ m', m <+: m' ∧ TK H H' ∧ RS K H' m' S' ∧ Z m' H'
def PV (K : PySem.W.Frag) (m : List Addr) (H : Hp) (S' : Sto) (d : D) (v : V) (H' : Hp) : Prop := PH K m H S' (fun m' H' => RV K H' m' d v) H'
def PVs (K : PySem.W.Frag) (m : List Addr) (H : Hp) (S' : Sto) (ds : List D) (vs : List V) (H' : Hp) : Prop := PH K m H S' (fun m' H' => RVs K H' m' ds vs) H'
theorem PH.imp {K : PySem.W.Frag} {m m1 : List Addr} {H H1 H' : Hp} {S' : Sto} {Z Z' : List Addr → Hp → Prop} (h : PH K m1 H1 S' Z H') (p : m <+: m1) (t : TK H H1) (k : ∀ m', m1 <+: m' → TK H1 H' → Z m' H' → Z' m' H') : PH K m H S' Z' H' := by
  obtain ⟨m', p', t', r, z⟩ := h
  exact ⟨m', p.trans p', t.trans t', r, k m' p' t' z⟩
theorem PV.up {K : PySem.W.Frag} {m m1 : List Addr} {H H1 H' : Hp} {S' : Sto} {d : D} {v : V} (h : PV K m1 H1 S' d v H') (p : m <+: m1) (t : TK H H1) : PV K m H S' d v H' := PH.imp h p t fun _ _ _ z => z
theorem PV.here {K : PySem.W.Frag} {m : List Addr} {H : Hp} {S : Sto} {d : D} {v : V} (r : RS K H m S) (q : RV K H m d v) : PV K m H S d v H := ⟨m, List.prefix_refl m, TK.refl H, r, q⟩

/-- an expression does as f does; a test; arguments; an iterable -/
def SE (X : Cx) (e : Expr) (f : Env → Sto → R D) : Prop := ∀ ρ S d S', f ρ S = some (d, S') → ∀ m σ H, RE X.K H m ρ σ → RS X.K H m S → WE X e σ H (PV X.K m H S' d)
def ST (X : Cx) (e : Expr) (f : Env → Sto → R D) : Prop := ∀ ρ S d S', f ρ S = some (d, S') → ∀ k, truthD S' d = some k → ∀ m σ H, RE X.K H m ρ σ → RS X.K H m S → WT X e σ H (fun b H' => b = k ∧ PH X.K m H S' (fun _ _ => True) H')
def SA (X : Cx) (es : List Expr) (f : Env → Sto → R (List D)) : Prop := ∀ ρ S ds S', f ρ S = some (ds, S') → ∀ m σ H, RE X.K H m ρ σ → RS X.K H m S → WA X es σ H (PVs X.K m H S' ds)
/-- an operation on values does as g does -/
def SO (X : Cx) (f : Value → Value → Sem Value) (g : Sto → D → D → R D) : Prop := ∀ S x y d S', g S x y = some (d, S') → ∀ m H vx vy, RS X.K H m S → RV X.K H m x vx → RV X.K H m y vy → WO X f vx vy H (PV X.K m H S' d)

section
variable {X : Cx} {a b c : Expr} {pos : Pos} {fa fb fc : Env → Sto → R D}
/-- an expression whose test is its value's truth -/
def Plain (X : Cx) (e : Expr) : Prop := ∀ whole, isTrue e X.env whole = (do let v ← whole; standAt e.pos; holding [v] (truthy v))
theorem RS.items {K : PySem.W.Frag} {H : Hp} {m : List Addr} {S : Sto} (r : RS K H m S) {n : Nat} {a : Addr} {xs : List D} (e : m[n]? = some a) (h : itemsAt S n = some xs) : ∃ vs, SqL K H a vs ∧ RVs K H m xs vs := by
  unfold itemsAt at h
  cases hS : S[n]? with
  | none => rw [hS] at h; cases h
  | some o =>
    have q := r.obj n a o e hS
    rw [hS] at h
    cases o with
    | lst ds => obtain ⟨vs, q, hr⟩ := q; cases h; exact ⟨vs, .inl (.inl q), hr⟩
    | fz ds => obtain ⟨o, vs, q, hr⟩ := q; cases h; exact ⟨vs, .inl (.inr ⟨o, q⟩), hr⟩
    | dt ds => cases h
theorem RVs.empty {K : PySem.W.Frag} {H : Hp} {m : List Addr} {ds : List D} {vs : List V} (h : RVs K H m ds vs) : (!ds.isEmpty) = !vs.isEmpty := by
  cases h <;> rfl
theorem tru_RV {K : PySem.W.Frag} {H : Hp} {m : List Addr} {S : Sto} (r : RS K H m S) {d : D} {v : V} {k : Bool} (q : RV K H m d v) (h : truthD S d = some k) : TruV K v H k := by
  cases q with
  | non => cases h; rfl
  | bl b => cases h; rfl
  | int i => cases h; rfl
  | str s =>
    simp only [truthD] at h
    split at h
    · cases h
      exact ⟨Nat.le_trans (by assumption) (show 100000 ≤ sizeLine by decide), rfl⟩
    · cases h
  | @tup a vs ds hs hr =>
    cases h
    exact .inr (.inl ⟨vs, hs, hr.empty⟩)
  | @ref n a e =>
    simp only [truthD] at h
    cases hi : itemsAt S n with
    | none => rw [hi] at h; cases h
    | some xs =>
      rw [hi] at h
      cases h
      obtain ⟨vs, hq, hr⟩ := r.items e hi
      exact .inl ⟨vs, hq, hr.empty⟩
theorem ST.plain (h : SE X a fa) (hp : Plain X a) : ST X a fa := fun ρ S d S' e k hk m σ H he hs =>
  WT.of (pt_truth (pe_W a) hp) ((h ρ S d S' e m σ H he hs).mono fun v H' ⟨m', p, t, r, q⟩ => ⟨k, tru_RV r q hk, rfl, m', p, t, r, trivial⟩)
theorem se_bin {op : Operator} {g : Sto → D → D → R D} (ha : SE X a fa) (hb : SE X b fb) (ho : SO X (binaryOp op) g) : SE X (.BinOp a op b pos) (fun ρ S => bnd (fa ρ S) fun x S1 => bnd (fb ρ S1) fun y S2 => g S2 x y) := fun ρ S d S' e m σ H he hs => by
  obtain ⟨x, S1, e1, e⟩ := bnd_eq e
  obtain ⟨y, S2, e2, e⟩ := bnd_eq e
  refine WE.of (pe_op (or_W _) (pe_W a) (pe_W b)) ((ha ρ S x S1 e1 m σ H he hs).mono fun v H1 ⟨m1, p1, t1, r1, q1⟩ => ?_)
  refine (hb ρ S1 y S2 e2 m1 σ H1 (he.mono t1 p1) r1).mono fun u H2 ⟨m2, p2, t2, r2, q2⟩ => ?_
  exact (ho S2 x y d S' e m2 H2 v u r2 (q1.mono t2 p2) q2).mono fun w H3 h => h.up (p1.trans p2) (t1.trans t2)
end
end Ev
end
section
set_option Elab.async false
set_option linter.all false
set_option maxRecDepth 100000
set_option maxHeartbeats 4000000
/-! Defs that are called where no repr is under way. -/
namespace Ev
open PySem PySem.Spec PyProof.Rows L2

structure FnG (prog : Program) (w : World) (K : PySem.W.Frag) (mg : Str → Option Value) (base : Heap) (k : Nat) (f : Addr) (fd : FuncData) (ps : List Str) (sp : List V → Hp → VK → Prop) : Prop where
  len : ∀ vs H Q, sp vs H Q → vs.length = ps.length
  run : ∀ (A : Around) (outer : List PySem.Env) (s : Shared) (H : Hp) (args : Args) (us : List Value) (vs : List V) (Q : VK), Room k A → A.guards = some [] → Env0 prog w K mg base A outer s H → BindsTo s fd args (ps.zip us) → Vals vs us → sp vs H Q →
    codeAny (model prog w) A (.call (.ref f) args) (CR CX0 outer prog w H s Q E0) s
section
variable {prog : Program} {w : World} {K : PySem.W.Frag} {mg : Str → Option Value} {base : Heap} {k : Nat} {f : Addr} {fd : FuncData} {x : Str} {params : Arguments} {body : List Stmt} {scope : Scope} {N ps : List Str} {sp : List V → Hp → VK → Prop}
theorem fnG_of (hF : FunD K x x params body scope [] [] f fd) (hS : FnScope N ps scope) (hlen : ∀ vs H Q, sp vs H Q → vs.length = ps.length)
    (hb : ∀ (cdv : Value) (A : Around) (outer : List PySem.Env) (s : Shared) (H : Hp) (vs : List V) (Q : VK), Room k (A.deeper (envOfC x scope s.heap.objs.size f cdv)) → A.guards = some [] → sp vs H Q →
      WSs (cxOf CX0 prog w K mg base N x scope f cdv A outer s H E0).nox body { nx := fun _ H' => Q .non H', rt := Q } (start N vs) H) : FnG prog w K mg base (k + 1) f fd ps sp := by
  obtain ⟨oc, od, dV, kV, doc, pm, an, cdv, ct, osl, rfl, lk, hcd, _, _⟩ := hF.ex
  refine ⟨hlen, fun A outer s H args us vs Q hr hg e0 hbd rv hsp => ?_⟩
  have hold : ∀ b o, base.get? b = some o → s.heap.get? b = some o := fun b o e => (e0.bs b o e).1
  have kin := e0.mod.kin.keeps hold
  refine codeAny_call_function hr.depth (kin _ _ lk) rfl hS.co hS.gen rfl (PySem.W.codeRec_of kin hcd) (hbd _ _ _ _ ?_)
  refine wpAny_newFunctionEnv_cells hS.kind (fun y hy => ?_) fun env he s1 xx => ?_
  · obtain ⟨n, v⟩ := y
    exact (hS.par n (List.of_mem_zip hy).1).imp id fun q => ⟨q, PySem.W.cellsFrom_some _ _ _ (.inl q)⟩
  · subst he
    refine ⟨(e0.mod.nolimit.keeps hold).keeps xx.toInCall.keep, codeAny_func ?_⟩
    have I : Inv (cxOf CX0 prog w K mg base N x scope f cdv A outer s H E0) [] (start N vs) H s1 := inv_start hS hr.hd e0 (hlen _ _ _ hsp) rv xx
    have W := (PSs.nox (pss_W body)).run [] s1 (start N vs) H _ I (hb cdv A outer s H vs Q (hr.deeper _) hg hsp)
    refine wpAny_mono W (fun fl s' hs => ?_) fun e s' hs => hs
    cases fl with
    | ret u => obtain ⟨v, σ', H', J, r, q⟩ := hs; exact ⟨v, H', J.os, J.bare, J.base, J.hok, r, q⟩
    | next => obtain ⟨σ', H', J, q⟩ := hs; exact ⟨V.non, H', J.os, J.bare, J.base, J.hok, rfl, q⟩
    | brk => obtain ⟨_, _, _, q⟩ := hs; exact q.elim
    | cont => obtain ⟨_, _, _, q⟩ := hs; exact q.elim
end
section
variable {X : Cx} {k : Nat} {f : Addr} {fd : FuncData} {ps : List Str} {sp : List V → Hp → VK → Prop}
theorem runG (F : FnG X.prog X.w X.K X.mg X.base k f fd ps sp) (hr : Room k X.A) (hgd : X.A.guards = some []) (hb : Binds X.K fd ps []) {pins : List (Addr × Obj)} {σ : L2.St} {H : Hp} {s : Shared} {Q : VK} {us : List Value} {vs : List V} (I : Inv X pins σ H s) (rv : Vals vs us) (h : sp vs H Q) :
    wpAny (model X.prog X.w) X.A (call (.ref f) us) (EP X pins σ Q) X.xe s := by
  have hl : (us ++ ([] : List Value)).length = ps.length := by rw [List.append_nil, ← rv.length]; exact F.len _ _ _ h
  have z := hb s us I.kIn hl
  rw [List.append_nil] at z
  refine wpAny_call (codeAny_mono (F.run X.A X.stack s H ⟨us, []⟩ us vs Q hr hgd I.env0 z rv h) fun r s' hq => ?_)
  match r, hq with
  | .error e, hq => exact hq.elim
  | .ok (.ret u), hq => exact I.after hq
  | .ok .next, hq => exact hq.elim
  | .ok .brk, hq => exact hq.elim
  | .ok .cont, hq => exact hq.elim
end
/-- a law's call: from the promise of its def to the row -/
theorem walkG {l : PySem.W.OpenLaw} {n k : Nat} {q : Program} {loose : List Str} {XP : (Str → Option Value) → Heap → Prop} {YP : World → Heap → Prop} {d : DefRec} {x : Str} (hn : l.most = some n) (hn2 : n ≤ sizeLine) (hdf : d.params.defaults = []) (hr : Room k callerA)
    (F : ∀ (w : World) (mg : Str → Option Value) (fa : Addr) (h : Heap), YP w h → h.Ns mainGlobals mg → mg d.name = some (.ref fa) → ∃ (K : PySem.W.Frag) (fd : FuncData) (sp : List V → Hp → VK → Prop), K.In h ∧ (∀ (s : Shared) (u : Value), BindsTo s fd ⟨[u], []⟩ [(x, u)]) ∧
      (∀ (H : Hp) (a : Addr) (ns : List Int), ns.length ≤ n → (∃ o, H a = some (.frz o (.lst (ns.map V.int)))) → sp [.ref a] H (fun v _ => v = .bl true)) ∧ (∀ a o, K.lookup a = some o → o.cls ≠ .type "list") ∧
      ∀ base : Heap, K.In base → base.Ns mainGlobals mg → FnG l.prog w K mg base k fa fd [x] sp) : PySem.W.WalkO q loose XP YP l.row.toRowW d [] (fun f vs => PySem.call f vs) := by
  refine Att.attach_call hn hdf fun w s₀ s₁ mg mb fa o pm cd doc a vs ns G Y ho hd hcd hmg hobj hints hlen hg => ?_
  obtain ⟨K, fd, sp, KX, hb, hsp, hnl, hF⟩ := F w mg fa _ Y G.T.g hmg
  let ob : Obj := { cls := .type "list", data := .seq vs.toArray }
  let H : Hp := fun b => if b = a then some (.frz ob (.lst (ns.map V.int))) else none
  have hHa : H a = some (.frz ob (.lst (ns.map V.int))) := if_pos rfl
  have hH : ∀ b, b ≠ a → H b = none := fun b hb => if_neg hb
  have hok : HOk l.prog w H s₁.heap := fun b o e => by
    by_cases hba : b = a
    · subst hba
      rw [hHa] at e
      cases e
      exact ⟨hobj, by rw [List.length_map]; exact Nat.le_trans hlen hn2, vs, _, vals_ints hints, hobj⟩
    · rw [hH b hba] at e; cases e
  have hna : ∀ {b : Addr} {o : Obj} {es : Array DictEntry} {ep : Nat}, s₁.heap.get? b = some o → o.data = .dict es ep → b ≠ a := fun {b o es ep} e dd z => by
    subst z
    rw [hobj] at e
    cases e
    cases dd
  have hid : ∀ {b : Addr} {o : Obj}, s₁.heap.get? b = some o → b ≠ a → (hidT s₁.heap H).get? b = some o := fun {b o} e z => hidT_get e (hH b z)
  have ns' : ∀ {b : Addr} {m : Str → Option Value}, s₁.heap.Ns b m → (hidT s₁.heap H).Ns b m := fun {b m} h => by
    obtain ⟨o, es, ep, e, dd, r⟩ := h
    exact ⟨o, es, ep, hid e (hna e dd), dd, r⟩
  have hK : K.In (hidT s₁.heap H) := fun b o e => hid (KX b o e) fun z => by
    subst z
    have z2 := KX b o e
    rw [hobj] at z2
    cases z2
    exact hnl b _ e rfl
  obtain ⟨mc, l1, l2⟩ := G.T.nolimit
  have md : Mod K mg (hidT s₁.heap H) := ⟨hK, ns' G.T.g, ⟨mb, ns' G.T.b, G.T.builtins⟩, ⟨mc, ns' l1, l2⟩⟩
  have none_mem : ∀ {b : Addr}, b ∉ ([] : List Addr) := fun {b} z => nomatch z
  have en : Env0 l.prog w K mg (hidT s₁.heap H) callerA [] s₁ H := ⟨rfl, md, fun b o e => of_hidT e, Nat.le_of_eq (hidT_size _ _), trivial, fun b z => (none_mem z).elim, hok, .of_eq hg⟩
  have go := (hF _ hK (ns' G.T.g)).run callerA [] s₁ H ⟨[.ref a], []⟩ [.ref a] [.ref a] _ hr rfl en (hb s₁ (.ref a)) (.cons rfl .nil) (hsp H a ns hlen ⟨_, hHa⟩)
  refine codeAny_mono go fun r s' h => ?_
  match r, h with
  | .error e, h => exact h.elim
  | .ok .next, h => exact h.elim
  | .ok .brk, h => exact h.elim
  | .ok .cont, h => exact h.elim
  | .ok (.ret u), h =>
    obtain ⟨v, H', os, bare, un, ok', r', q'⟩ := h
    cases (show v = .bl true from q')
    obtain rfl : u = Value.bool true := r'
    refine ⟨rfl, OldK.of_keep fun b o e => ?_, os, bare⟩
    by_cases hba : b = a
    · have z := un.frzs b ob (.lst (ns.map V.int)) (by rw [hba]; exact hHa)
      obtain ⟨z1, _⟩ := ok' b _ z
      have z2 : s₁.heap.get? b = some ob := by rw [hba]; exact hobj
      rw [e] at z2
      cases z2
      exact z1
    · exact un.keep b o e (hH b hba) (fun z => none_mem z) (fun z => none_mem z)
end Ev
end
section
set_option Elab.async false
set_option linter.all false
set_option maxRecDepth 100000
set_option maxHeartbeats 4000000
/-! Equality where one of the two may have dicts in it: a dict is equal to nothing but dicts. -/
namespace PySem.SeqAt
open PySem
def IsDct (h : Heap) (l : Addr) : Prop := ∃ o es n, h.get? l = some o ∧ o.cls = .type "dict" ∧ o.data = .dict es n
theorem IsDct.type {s : Shared} {l : Addr} (h : IsDct s.heap l) : s.TypeIs (.ref l) "dict" := by
  obtain ⟨o, es, n, h1, h2, h3⟩ := h
  exact ⟨o, h1, h2⟩
theorem dict_declines {prog : Program} {w : World} {A : Around} {E : Value → Shared → Prop} {s : Shared} {l : Addr} {y : Value} {T : String} {Q : Value → Shared → Prop} (hl : IsDct s.heap l) (hy : s.TypeIs y T) (hT : isSubtype (.type T) (.type "dict") = pure false) (h : Q .notImplemented s) :
    wpAny (model prog w) A (call (.builtin "dict.__eq__") [.ref l, y]) Q E s := by
  refine wpAny_call_entry PySem.F.slot_dict_eq hl.type PySem.F.entry_dict_eq ?_ (PySem.F.args_dict_eq_2 _ _)
  show wpAny _ _ (Builtin.Dict.dictSlotArgs "__eq__" ⟨[.ref l, y], []⟩ >>= _) _ _ s
  refine wpAny_bind ?_
  unfold Builtin.Dict.dictSlotArgs; refine wpAny_bind (wpAny_notOrdered_dict hl.type ?_)
  show wpAny _ _ (pure (Value.ref l, y)) _ _ s
  refine wpAny_pure ?_
  refine wpAny_bind (wpAny_isInstance (T := T) hy hT ?_)
  simp only [Bool.not_false, if_true]
  exact wpAny_bind (wpAny_rule (wpAny_pure ⟨_, rfl, h⟩))
theorem dq_bool (b : Bool) (l : Addr) (es : Array DictEntry) (n : Nat) (dd : Option Addr) (sl : Array (Option Value)) : Meets (Builtin.«int.__eq__» ⟨[.bool b, .ref l], []⟩) (fun _ R s => s.heap.get? l = some { cls := .type "dict", dict := dd, data := .dict es n, slots := sl } ∧ R (.ok (.ret .notImplemented)) s) := .of_wp fun prog w A R s h => by obtain ⟨hp, g, d, tk, os⟩ := s; obtain ⟨hq0, h⟩ := h; wp_walk using AutoSeq1.wpAny_loadPart' hq0, wpAny_load hq0; exact ⟨_, rfl, h⟩
theorem dq_int (b : Int) (u : Tok) (l : Addr) (es : Array DictEntry) (n : Nat) (dd : Option Addr) (sl : Array (Option Value)) : Meets (Builtin.«int.__eq__» ⟨[.int b u, .ref l], []⟩) (fun _ R s => s.heap.get? l = some { cls := .type "dict", dict := dd, data := .dict es n, slots := sl } ∧ R (.ok (.ret .notImplemented)) s) := .of_wp fun prog w A R s h => by obtain ⟨hp, g, d, tk, os⟩ := s; obtain ⟨hq0, h⟩ := h; wp_walk using AutoSeq1.wpAny_loadPart' hq0, wpAny_load hq0; exact ⟨_, rfl, h⟩
theorem dq_str (b : Str) (u : Tok) (l : Addr) (es : Array DictEntry) (n : Nat) (dd : Option Addr) (sl : Array (Option Value)) : Meets (Builtin.«str.__eq__» ⟨[.str b u, .ref l], []⟩) (fun _ R s => s.heap.get? l = some { cls := .type "dict", dict := dd, data := .dict es n, slots := sl } ∧ R (.ok (.ret .notImplemented)) s) := .of_wp fun prog w A R s h => by obtain ⟨hp, g, d, tk, os⟩ := s; obtain ⟨hq0, h⟩ := h; wp_walk using AutoSeq1.wpAny_loadPart' hq0, wpAny_load hq0; exact ⟨_, rfl, h⟩
theorem dq_list (b l : Addr) (es : Array DictEntry) (n : Nat) (dd : Option Addr) (sl : Array (Option Value)) (vs : Array Value) (m : Nat) (d2 : Option Addr) (s2 : Array (Option Value)) : Meets (Builtin.«list.__eq__» ⟨[.ref b, .ref l], []⟩) (fun _ R s => s.heap.get? b = some { cls := .type "list", dict := d2, data := .seq vs m, slots := s2 } ∧ s.heap.get? l = some { cls := .type "dict", dict := dd, data := .dict es n, slots := sl } ∧ R (.ok (.ret .notImplemented)) s) := .of_wp fun prog w A R s h => by obtain ⟨hp, g, d, tk, os⟩ := s; obtain ⟨hq0, hq1, h⟩ := h; have f1 := F.sub_dict_list; wp_walk using AutoSeq1.wpAny_loadPart' hq0, AutoSeq1.wpAny_loadPart' hq1; exact ⟨_, rfl, h⟩
theorem dq_tuple (b l : Addr) (es : Array DictEntry) (n : Nat) (dd : Option Addr) (sl : Array (Option Value)) (vs : Array Value) (m : Nat) (d2 : Option Addr) (s2 : Array (Option Value)) : Meets (Builtin.«tuple.__eq__» ⟨[.ref b, .ref l], []⟩) (fun _ R s => s.heap.get? b = some { cls := .type "tuple", dict := d2, data := .seq vs m, slots := s2 } ∧ s.heap.get? l = some { cls := .type "dict", dict := dd, data := .dict es n, slots := sl } ∧ R (.ok (.ret .notImplemented)) s) := .of_wp fun prog w A R s h => by obtain ⟨hp, g, d, tk, os⟩ := s; obtain ⟨hq0, hq1, h⟩ := h; have f1 := F.sub_dict_tuple; wp_walk using AutoSeq1.wpAny_loadPart' hq0, AutoSeq1.wpAny_loadPart' hq1; exact ⟨_, rfl, h⟩
section
variable {A : Around} {s : Shared}
theorem dx_none {l : Addr} (hl : IsDct s.heap l) (hu : A.units < cLine) : RcAt A s (.ref l) .none false := fun prog w E Q h => by exact rc_eq_decline_or (k := false) hl.type rfl (by decide) F.sub_NoneType_dict F.slot_dict_eq F.slot_NoneType_eq_refl (fun _ q => dict_declines hl rfl F.sub_NoneType_dict q) (fun _ q => call_gives F.slot_NoneType_eq_refl rfl F.entry_NoneType_eq (F.args_NoneType_eq_2 _ _) (NoneType___eq___none_ref_0 l) q) (fun _ q => wpAny_of_eq (rfl : isSame (.ref l) .none = pure false) q) (.inr hu) h
theorem xd_none {l : Addr} (hl : IsDct s.heap l) (hu : A.units < cLine) : RcAt A s .none (.ref l) false := fun prog w E Q h => by exact rc_eq_decline_or (k := false) rfl hl.type (by decide) F.sub_dict_NoneType F.slot_NoneType_eq F.slot_dict_eq_refl (fun _ q => call_gives F.slot_NoneType_eq rfl F.entry_NoneType_eq (F.args_NoneType_eq_2 _ _) (NoneType___eq___none_ref_0 l) q) (fun _ q => dict_declines hl rfl F.sub_NoneType_dict q) (fun _ q => wpAny_of_eq (rfl : isSame .none (.ref l) = pure false) q) (.inr hu) h
theorem dx_bool (b : Bool) {l : Addr} (hl : IsDct s.heap l) (hu : A.units < cLine) : RcAt A s (.ref l) (.bool b) false := fun prog w E Q h => by obtain ⟨⟨cls, dd, data, sl⟩, es, n, ho, hc, hd⟩ := id hl; simp only at hc hd; subst hc hd; exact rc_eq_decline_or (k := false) hl.type rfl (by decide) F.sub_bool_dict F.slot_dict_eq F.slot_bool_eq_refl (fun _ q => dict_declines hl rfl F.sub_bool_dict q) (fun _ q => call_meets F.slot_bool_eq_refl rfl F.entry_int_eq (F.args_int_eq_2 _ _) (dq_bool b l es n dd sl) ⟨ho, q⟩) (fun _ q => wpAny_of_eq (rfl : isSame (.ref l) (.bool b) = pure false) q) (.inr hu) h
theorem xd_bool (b : Bool) {l : Addr} (hl : IsDct s.heap l) (hu : A.units < cLine) : RcAt A s (.bool b) (.ref l) false := fun prog w E Q h => by obtain ⟨⟨cls, dd, data, sl⟩, es, n, ho, hc, hd⟩ := id hl; simp only at hc hd; subst hc hd; exact rc_eq_decline_or (k := false) rfl hl.type (by decide) F.sub_dict_bool F.slot_bool_eq F.slot_dict_eq_refl (fun _ q => call_meets F.slot_bool_eq rfl F.entry_int_eq (F.args_int_eq_2 _ _) (dq_bool b l es n dd sl) ⟨ho, q⟩) (fun _ q => dict_declines hl rfl F.sub_bool_dict q) (fun _ q => wpAny_of_eq (rfl : isSame (.bool b) (.ref l) = pure false) q) (.inr hu) h
theorem dx_int (b : Int) (u : Tok) {l : Addr} (hl : IsDct s.heap l) (hu : A.units < cLine) : RcAt A s (.ref l) (.int b u) false := fun prog w E Q h => by obtain ⟨⟨cls, dd, data, sl⟩, es, n, ho, hc, hd⟩ := id hl; simp only at hc hd; subst hc hd; exact rc_eq_decline_or (k := false) hl.type (typeIs_int s b u) (by decide) F.sub_int_dict F.slot_dict_eq F.slot_int_eq_refl (fun _ q => dict_declines hl (typeIs_int s b u) F.sub_int_dict q) (fun _ q => call_meets F.slot_int_eq_refl (typeIs_int s b u) F.entry_int_eq (F.args_int_eq_2 _ _) (dq_int b u l es n dd sl) ⟨ho, q⟩) (fun _ q => wpAny_of_eq (rfl : isSame (.ref l) (.int b u) = pure false) q) (.inr hu) h
theorem xd_int (b : Int) (u : Tok) {l : Addr} (hl : IsDct s.heap l) (hu : A.units < cLine) : RcAt A s (.int b u) (.ref l) false := fun prog w E Q h => by obtain ⟨⟨cls, dd, data, sl⟩, es, n, ho, hc, hd⟩ := id hl; simp only at hc hd; subst hc hd; exact rc_eq_decline_or (k := false) (typeIs_int s b u) hl.type (by decide) F.sub_dict_int F.slot_int_eq F.slot_dict_eq_refl (fun _ q => call_meets F.slot_int_eq (typeIs_int s b u) F.entry_int_eq (F.args_int_eq_2 _ _) (dq_int b u l es n dd sl) ⟨ho, q⟩) (fun _ q => dict_declines hl (typeIs_int s b u) F.sub_int_dict q) (fun _ q => wpAny_of_eq (rfl : isSame (.int b u) (.ref l) = pure false) q) (.inr hu) h
theorem dx_str (b : Str) (u : Tok) {l : Addr} (hl : IsDct s.heap l) (hu : A.units < cLine) : RcAt A s (.ref l) (.str b u) false := fun prog w E Q h => by obtain ⟨⟨cls, dd, data, sl⟩, es, n, ho, hc, hd⟩ := id hl; simp only at hc hd; subst hc hd; exact rc_eq_decline_or (k := false) hl.type (typeIs_str s b u) (by decide) F.sub_str_dict F.slot_dict_eq F.slot_str_eq_refl (fun _ q => dict_declines hl (typeIs_str s b u) F.sub_str_dict q) (fun _ q => call_meets F.slot_str_eq_refl (typeIs_str s b u) F.entry_str_eq (F.args_str_eq_2 _ _) (dq_str b u l es n dd sl) ⟨ho, q⟩) (fun _ q => wpAny_of_eq (rfl : isSame (.ref l) (.str b u) = pure false) q) (.inr hu) h
theorem xd_str (b : Str) (u : Tok) {l : Addr} (hl : IsDct s.heap l) (hu : A.units < cLine) : RcAt A s (.str b u) (.ref l) false := fun prog w E Q h => by obtain ⟨⟨cls, dd, data, sl⟩, es, n, ho, hc, hd⟩ := id hl; simp only at hc hd; subst hc hd; exact rc_eq_decline_or (k := false) (typeIs_str s b u) hl.type (by decide) F.sub_dict_str F.slot_str_eq F.slot_dict_eq_refl (fun _ q => call_meets F.slot_str_eq (typeIs_str s b u) F.entry_str_eq (F.args_str_eq_2 _ _) (dq_str b u l es n dd sl) ⟨ho, q⟩) (fun _ q => dict_declines hl (typeIs_str s b u) F.sub_str_dict q) (fun _ q => wpAny_of_eq (rfl : isSame (.str b u) (.ref l) = pure false) q) (.inr hu) h
theorem dx_list {l b : Addr} {vs : Array Value} (hl : IsDct s.heap l) (hb : s.heap.IsList b vs) (hu : A.units < cLine) : RcAt A s (.ref l) (.ref b) false := fun prog w E Q h => by
  obtain ⟨⟨cls, dd, data, sl⟩, es, n, ho, hc, hd⟩ := id hl; obtain ⟨⟨c2, d2, a2, s2⟩, o2, k2, m, e2⟩ := id hb; simp only at hc hd k2 e2; subst hc hd k2 e2; have hne : l ≠ b := fun z => by subst z; rw [ho] at o2; exact absurd (congrArg Obj.cls (Option.some.inj o2)) (by simp)
  exact rc_eq_decline_or (k := false) hl.type ⟨_, o2, rfl⟩ (by decide) F.sub_list_dict F.slot_dict_eq F.slot_list_eq_refl (fun _ q => dict_declines hl ⟨_, o2, rfl⟩ F.sub_list_dict q) (fun _ q => call_meets F.slot_list_eq_refl ⟨_, o2, rfl⟩ F.entry_list_eq (F.args_list_eq_2 _ _) (dq_list b l es n dd sl vs m d2 s2) ⟨o2, ho, q⟩) (fun _ q => wpAny_isSame_ref_other hne ho o2 (by simp) q) (.inr hu) h
theorem xd_list {l b : Addr} {vs : Array Value} (hl : IsDct s.heap l) (hb : s.heap.IsList b vs) (hu : A.units < cLine) : RcAt A s (.ref b) (.ref l) false := fun prog w E Q h => by
  obtain ⟨⟨cls, dd, data, sl⟩, es, n, ho, hc, hd⟩ := id hl; obtain ⟨⟨c2, d2, a2, s2⟩, o2, k2, m, e2⟩ := id hb; simp only at hc hd k2 e2; subst hc hd k2 e2; have hne : b ≠ l := fun z => by subst z; rw [ho] at o2; exact absurd (congrArg Obj.cls (Option.some.inj o2)) (by simp)
  exact rc_eq_decline_or (k := false) ⟨_, o2, rfl⟩ hl.type (by decide) F.sub_dict_list F.slot_list_eq F.slot_dict_eq_refl (fun _ q => call_meets F.slot_list_eq ⟨_, o2, rfl⟩ F.entry_list_eq (F.args_list_eq_2 _ _) (dq_list b l es n dd sl vs m d2 s2) ⟨o2, ho, q⟩) (fun _ q => dict_declines hl ⟨_, o2, rfl⟩ F.sub_list_dict q) (fun _ q => wpAny_isSame_ref_other hne o2 ho (by simp) q) (.inr hu) h
theorem dx_tuple {l b : Addr} {vs : Array Value} (hl : IsDct s.heap l) (hb : s.heap.IsTuple b vs) (hu : A.units < cLine) : RcAt A s (.ref l) (.ref b) false := fun prog w E Q h => by
  obtain ⟨⟨cls, dd, data, sl⟩, es, n, ho, hc, hd⟩ := id hl; obtain ⟨⟨c2, d2, a2, s2⟩, o2, k2, m, e2⟩ := id hb; simp only at hc hd k2 e2; subst hc hd k2 e2; have hne : l ≠ b := fun z => by subst z; rw [ho] at o2; exact absurd (congrArg Obj.cls (Option.some.inj o2)) (by simp)
  exact rc_eq_decline_or (k := false) hl.type ⟨_, o2, rfl⟩ (by decide) F.sub_tuple_dict F.slot_dict_eq F.slot_tuple_eq_refl (fun _ q => dict_declines hl ⟨_, o2, rfl⟩ F.sub_tuple_dict q) (fun _ q => call_meets F.slot_tuple_eq_refl ⟨_, o2, rfl⟩ F.entry_tuple_eq (F.args_tuple_eq_2 _ _) (dq_tuple b l es n dd sl vs m d2 s2) ⟨o2, ho, q⟩) (fun _ q => wpAny_isSame_ref_other hne ho o2 (by simp) q) (.inr hu) h
theorem xd_tuple {l b : Addr} {vs : Array Value} (hl : IsDct s.heap l) (hb : s.heap.IsTuple b vs) (hu : A.units < cLine) : RcAt A s (.ref b) (.ref l) false := fun prog w E Q h => by
  obtain ⟨⟨cls, dd, data, sl⟩, es, n, ho, hc, hd⟩ := id hl; obtain ⟨⟨c2, d2, a2, s2⟩, o2, k2, m, e2⟩ := id hb; simp only at hc hd k2 e2; subst hc hd k2 e2; have hne : b ≠ l := fun z => by subst z; rw [ho] at o2; exact absurd (congrArg Obj.cls (Option.some.inj o2)) (by simp)
  exact rc_eq_decline_or (k := false) ⟨_, o2, rfl⟩ hl.type (by decide) F.sub_dict_tuple F.slot_tuple_eq F.slot_dict_eq_refl (fun _ q => call_meets F.slot_tuple_eq ⟨_, o2, rfl⟩ F.entry_tuple_eq (F.args_tuple_eq_2 _ _) (dq_tuple b l es n dd sl vs m d2 s2) ⟨o2, ho, q⟩) (fun _ q => dict_declines hl ⟨_, o2, rfl⟩ F.sub_tuple_dict q) (fun _ q => wpAny_isSame_ref_other' hne o2 ho (by simp) q) (.inr hu) h
mutual
theorem eqX : ∀ (da db : PyData) (A : Around) (s : Shared) (a b : Value) (as bs : List Addr), Reads s.heap a da as → Reads s.heap b db bs → (da.canLay0 = true ∨ db.canLay0 = true) → A.units + da.depth < cLine → EqAt A s a b (PyData.eqv da db) := fun da db A s a b as bs ra rb hc hd => by
  have hu : A.units < cLine := by omega
  cases ra with
  | none =>
    cases rb with
    | none => exact EqAt.same .none
    | bool b2 => exact EqAt.none_bool b2
    | int i2 t2 => exact EqAt.none_int i2 t2
    | str x2 t2 => exact EqAt.none_str x2 t2
    | @list l2 o2 v2 n2 z2 a2 p2 q2 r2 w2 => exact EqAt.none_list ⟨_, p2, q2, _, r2⟩ hu
    | @tuple l2 o2 v2 n2 z2 a2 p2 q2 r2 w2 => exact EqAt.none_tuple ⟨_, p2, q2, _, r2⟩ hu
    | @dict l2 o2 e2 n2 z2 a2 c2 p2 q2 r2 w2 y2 => exact fun prog w E Q q => by unfold eqBool; exact wpAny_holding (wpAny_ite_split (fun z => absurd (eq_of_beq z) nofun) fun _ => wpAny_bind ((xd_none ⟨_, _, _, p2, q2, r2⟩ hu) prog w E _ (wpAny_truthy_bool q)))
  | bool b1 =>
    cases rb with
    | none => exact EqAt.bool_none b1
    | bool b2 => exact EqAt.bool_bool b1 b2
    | int i2 t2 => exact EqAt.bool_int b1 i2 t2
    | str x2 t2 => exact EqAt.bool_str b1 x2 t2
    | @list l2 o2 v2 n2 z2 a2 p2 q2 r2 w2 => exact EqAt.bool_list b1 ⟨_, p2, q2, _, r2⟩ hu
    | @tuple l2 o2 v2 n2 z2 a2 p2 q2 r2 w2 => exact EqAt.bool_tuple b1 ⟨_, p2, q2, _, r2⟩ hu
    | @dict l2 o2 e2 n2 z2 a2 c2 p2 q2 r2 w2 y2 => exact fun prog w E Q q => by unfold eqBool; exact wpAny_holding (wpAny_ite_split (fun z => absurd (eq_of_beq z) nofun) fun _ => wpAny_bind ((xd_bool b1 ⟨_, _, _, p2, q2, r2⟩ hu) prog w E _ (wpAny_truthy_bool q)))
  | int i1 t1 =>
    cases rb with
    | none => exact EqAt.int_none i1 t1
    | bool b2 => exact EqAt.int_bool i1 t1 b2
    | int i2 t2 => exact EqAt.int_int i1 t1 i2 t2
    | str x2 t2 => exact EqAt.int_str i1 t1 x2 t2
    | @list l2 o2 v2 n2 z2 a2 p2 q2 r2 w2 => exact EqAt.int_list i1 t1 ⟨_, p2, q2, _, r2⟩ hu
    | @tuple l2 o2 v2 n2 z2 a2 p2 q2 r2 w2 => exact EqAt.int_tuple i1 t1 ⟨_, p2, q2, _, r2⟩ hu
    | @dict l2 o2 e2 n2 z2 a2 c2 p2 q2 r2 w2 y2 => exact fun prog w E Q q => by unfold eqBool; exact wpAny_holding (wpAny_ite_split (fun z => absurd (eq_of_beq z) nofun) fun _ => wpAny_bind ((xd_int i1 t1 ⟨_, _, _, p2, q2, r2⟩ hu) prog w E _ (wpAny_truthy_bool q)))
  | str x1 t1 =>
    cases rb with
    | none => exact EqAt.str_none x1 t1
    | bool b2 => exact EqAt.str_bool x1 t1 b2
    | int i2 t2 => exact EqAt.str_int x1 t1 i2 t2
    | str x2 t2 => exact EqAt.str_str x1 t1 x2 t2
    | @list l2 o2 v2 n2 z2 a2 p2 q2 r2 w2 => exact EqAt.str_list x1 t1 ⟨_, p2, q2, _, r2⟩ hu
    | @tuple l2 o2 v2 n2 z2 a2 p2 q2 r2 w2 => exact EqAt.str_tuple x1 t1 ⟨_, p2, q2, _, r2⟩ hu
    | @dict l2 o2 e2 n2 z2 a2 c2 p2 q2 r2 w2 y2 => exact fun prog w E Q q => by unfold eqBool; exact wpAny_holding (wpAny_ite_split (fun z => absurd (eq_of_beq z) nofun) fun _ => wpAny_bind ((xd_str x1 t1 ⟨_, _, _, p2, q2, r2⟩ hu) prog w E _ (wpAny_truthy_bool q)))
  | @list l1 o1 v1 n1 z1 a1 p1 q1 r1 w1 =>
    cases rb with
    | none => exact EqAt.list_none ⟨_, p1, q1, _, r1⟩ hu
    | bool b2 => exact EqAt.list_bool b2 ⟨_, p1, q1, _, r1⟩ hu
    | int i2 t2 => exact EqAt.list_int i2 t2 ⟨_, p1, q1, _, r1⟩ hu
    | str x2 t2 => exact EqAt.list_str x2 t2 ⟨_, p1, q1, _, r1⟩ hu
    | @list l2 o2 v2 n2 z2 a2 p2 q2 r2 w2 =>
      have m1 : v1.size = z1.length := by simpa using ReadsAll.length _ _ _ w1
      have m2 : v2.size = z2.length := by simpa using ReadsAll.length _ _ _ w2
      have each : ∀ j (j1 : j < v1.size) (j2 : j < v2.size), EqAt A.in1 s v1[j] v2[j] (pairEq z1 z2 j) := fun j j1 j2 => by
        have := eqX_all z1 z2 A.in1 s v1.toList v2.toList _ _ w1 w2 hc (by have : (PyData.list z1).depth = PyData.depthAll z1 + 1 := rfl; show A.units + 1 + _ < cLine; omega) j (by simpa using j1) (by simpa using j2)
        simpa using this
      have main : RcAt A s (.ref l1) (.ref l2) (PyData.eqvAll z1 z2) := by
        by_cases hz : v1.size = v2.size
        · rw [← eqvAll_same_length (xs := z1) (ys := z2) (by omega), ← m1]; exact RcAt.lists ⟨_, p1, q1, _, r1⟩ ⟨_, p2, q2, _, r2⟩ hz hu each
        · rw [eqvAll_other_length (xs := z1) (ys := z2) (by omega)]; exact RcAt.lists_lengths ⟨_, p1, q1, _, r1⟩ ⟨_, p2, q2, _, r2⟩ (by simpa using hz) hu
      by_cases hl : l1 = l2
      · subst hl
        have e : PyData.eqvAll z1 z2 = true := by
          rcases hc with h | h
          · have e := Reads.unique (.list z1) (.list z2) _ _ _ h (.list p1 q1 r1 w1) (.list p2 q2 r2 w2); injection e with e; subst e; exact eqvAll_refl z1 h
          · have e := Reads.unique (.list z2) (.list z1) _ _ _ h (.list p2 q2 r2 w2) (.list p1 q1 r1 w1); injection e with e; subst e; exact eqvAll_refl z2 h
        show EqAt A s (.ref l1) (.ref l1) (PyData.eqvAll z1 z2)
        rw [e]; exact EqAt.same _
      · exact EqAt.of_refs hl main
    | @tuple l2 o2 v2 n2 z2 a2 p2 q2 r2 w2 => exact EqAt.list_tuple ⟨_, p1, q1, _, r1⟩ ⟨_, p2, q2, _, r2⟩ hu
    | @dict l2 o2 e2 n2 z2 a2 c2 p2 q2 r2 w2 y2 => exact EqAt.of_refs (fun z => by subst z; rw [p1] at p2; cases p2; rw [q1] at q2; exact absurd q2 (by simp)) (xd_list ⟨_, _, _, p2, q2, r2⟩ ⟨_, p1, q1, _, r1⟩ hu)
  | @tuple l1 o1 v1 n1 z1 a1 p1 q1 r1 w1 =>
    cases rb with
    | none => exact EqAt.tuple_none ⟨_, p1, q1, _, r1⟩ hu
    | bool b2 => exact EqAt.tuple_bool b2 ⟨_, p1, q1, _, r1⟩ hu
    | int i2 t2 => exact EqAt.tuple_int i2 t2 ⟨_, p1, q1, _, r1⟩ hu
    | str x2 t2 => exact EqAt.tuple_str x2 t2 ⟨_, p1, q1, _, r1⟩ hu
    | @list l2 o2 v2 n2 z2 a2 p2 q2 r2 w2 => exact EqAt.tuple_list ⟨_, p1, q1, _, r1⟩ ⟨_, p2, q2, _, r2⟩ hu
    | @tuple l2 o2 v2 n2 z2 a2 p2 q2 r2 w2 =>
      have m1 : v1.size = z1.length := by simpa using ReadsAll.length _ _ _ w1
      have m2 : v2.size = z2.length := by simpa using ReadsAll.length _ _ _ w2
      have each : ∀ j (j1 : j < v1.size) (j2 : j < v2.size), EqAt A.in1 s v1[j] v2[j] (pairEq z1 z2 j) := fun j j1 j2 => by
        have := eqX_all z1 z2 A.in1 s v1.toList v2.toList _ _ w1 w2 hc (by have : (PyData.tuple z1).depth = PyData.depthAll z1 + 1 := rfl; show A.units + 1 + _ < cLine; omega) j (by simpa using j1) (by simpa using j2)
        simpa using this
      have main : RcAt A s (.ref l1) (.ref l2) (PyData.eqvAll z1 z2) := by
        rw [← eqvAll_eq z1 z2, ← m1, ← m2]; exact RcAt.tuples ⟨_, p1, q1, _, r1⟩ ⟨_, p2, q2, _, r2⟩ hu each
      by_cases hl : l1 = l2
      · subst hl
        have e : PyData.eqvAll z1 z2 = true := by
          rcases hc with h | h
          · have e := Reads.unique (.tuple z1) (.tuple z2) _ _ _ h (.tuple p1 q1 r1 w1) (.tuple p2 q2 r2 w2); injection e with e; subst e; exact eqvAll_refl z1 h
          · have e := Reads.unique (.tuple z2) (.tuple z1) _ _ _ h (.tuple p2 q2 r2 w2) (.tuple p1 q1 r1 w1); injection e with e; subst e; exact eqvAll_refl z2 h
        show EqAt A s (.ref l1) (.ref l1) (PyData.eqvAll z1 z2)
        rw [e]; exact EqAt.same _
      · exact EqAt.of_refs hl main
    | @dict l2 o2 e2 n2 z2 a2 c2 p2 q2 r2 w2 y2 => exact EqAt.of_refs (fun z => by subst z; rw [p1] at p2; cases p2; rw [q1] at q2; exact absurd q2 (by simp)) (xd_tuple ⟨_, _, _, p2, q2, r2⟩ ⟨_, p1, q1, _, r1⟩ hu)
  | @dict l1 o1 e1 n1 z1 a1 c1 p1 q1 r1 w1 y1 =>
    cases rb with
    | none => exact fun prog w E Q q => by unfold eqBool; exact wpAny_holding (wpAny_ite_split (fun z => absurd (eq_of_beq z) nofun) fun _ => wpAny_bind ((dx_none ⟨_, _, _, p1, q1, r1⟩ hu) prog w E _ (wpAny_truthy_bool q)))
    | bool b2 => exact fun prog w E Q q => by unfold eqBool; exact wpAny_holding (wpAny_ite_split (fun z => absurd (eq_of_beq z) nofun) fun _ => wpAny_bind ((dx_bool b2 ⟨_, _, _, p1, q1, r1⟩ hu) prog w E _ (wpAny_truthy_bool q)))
    | int i2 t2 => exact fun prog w E Q q => by unfold eqBool; exact wpAny_holding (wpAny_ite_split (fun z => absurd (eq_of_beq z) nofun) fun _ => wpAny_bind ((dx_int i2 t2 ⟨_, _, _, p1, q1, r1⟩ hu) prog w E _ (wpAny_truthy_bool q)))
    | str x2 t2 => exact fun prog w E Q q => by unfold eqBool; exact wpAny_holding (wpAny_ite_split (fun z => absurd (eq_of_beq z) nofun) fun _ => wpAny_bind ((dx_str x2 t2 ⟨_, _, _, p1, q1, r1⟩ hu) prog w E _ (wpAny_truthy_bool q)))
    | @list l2 o2 v2 n2 z2 a2 p2 q2 r2 w2 => exact EqAt.of_refs (fun z => by subst z; rw [p1] at p2; cases p2; rw [q1] at q2; exact absurd q2 (by simp)) (dx_list ⟨_, _, _, p1, q1, r1⟩ ⟨_, p2, q2, _, r2⟩ hu)
    | @tuple l2 o2 v2 n2 z2 a2 p2 q2 r2 w2 => exact EqAt.of_refs (fun z => by subst z; rw [p1] at p2; cases p2; rw [q1] at q2; exact absurd q2 (by simp)) (dx_tuple ⟨_, _, _, p1, q1, r1⟩ ⟨_, p2, q2, _, r2⟩ hu)
    | @dict l2 o2 e2 n2 z2 a2 c2 p2 q2 r2 w2 y2 => exact (by rcases hc with z | z <;> cases z)
theorem eqX_all : ∀ (xs ys : List PyData) (A : Around) (s : Shared) (vs ws : List Value) (as bs : List Addr), ReadsAll s.heap vs xs as → ReadsAll s.heap ws ys bs → (PyData.canLayAll0 xs = true ∨ PyData.canLayAll0 ys = true) → A.units + PyData.depthAll xs < cLine → ∀ j (h1 : j < vs.length) (h2 : j < ws.length), EqAt A s vs[j] ws[j] (pairEq xs ys j)
  | [], _, _, _, _, _, _, _, ra, _, _, _, j, h1, _ => by cases ra; exact (Nat.not_lt_zero _ h1).elim
  | _ :: _, [], _, _, _, _, _, _, _, rb, _, _, j, _, h2 => by cases rb; exact (Nat.not_lt_zero _ h2).elim
  | x :: xs, y :: ys, A, s, _, _, _, _, ra, rb, hc, hu, j, h1, h2 => by
    have hc1 : x.canLay0 = true ∨ y.canLay0 = true := by rcases hc with h | h <;> simp [PyData.canLayAll0] at h <;> simp [h]
    have hc2 : PyData.canLayAll0 xs = true ∨ PyData.canLayAll0 ys = true := by rcases hc with h | h <;> simp [PyData.canLayAll0] at h <;> simp [h]
    have hd : PyData.depthAll (x :: xs) = max x.depth (PyData.depthAll xs) := rfl
    cases ra with
    | cons r rs =>
      cases rb with
      | cons r' rs' =>
        cases j with
        | zero => exact eqX x y A s _ _ _ _ r r' hc1 (by omega)
        | succ j => exact eqX_all xs ys A s _ _ _ _ rs rs' hc2 (by omega) j (by simpa using h1) (by simpa using h2)
end
theorem rcX (da db : PyData) (A : Around) (s : Shared) (a b : Value) (as bs : List Addr) (ra : Reads s.heap a da as) (rb : Reads s.heap b db bs) (hc : da.canLay0 = true ∨ db.canLay0 = true) (hd : A.units + da.depth < cLine) : RcAt A s a b (PyData.eqv da db) := by
  have hu : A.units < cLine := by omega
  cases ra with
  | none =>
    cases rb with
    | none => exact RcAt.none_none
    | bool b2 => exact RcAt.none_bool b2
    | int i2 t2 => exact RcAt.none_int i2 t2
    | str x2 t2 => exact RcAt.none_str x2 t2
    | @list l2 o2 v2 n2 z2 a2 p2 q2 r2 w2 => exact RcAt.none_list ⟨_, p2, q2, _, r2⟩ hu
    | @tuple l2 o2 v2 n2 z2 a2 p2 q2 r2 w2 => exact RcAt.none_tuple ⟨_, p2, q2, _, r2⟩ hu
    | @dict l2 o2 e2 n2 z2 a2 c2 p2 q2 r2 w2 y2 => exact xd_none ⟨_, _, _, p2, q2, r2⟩ hu
  | bool b1 =>
    cases rb with
    | none => exact RcAt.bool_none b1
    | bool b2 => exact RcAt.bool_bool b1 b2
    | int i2 t2 => exact RcAt.bool_int b1 i2 t2
    | str x2 t2 => exact RcAt.bool_str b1 x2 t2
    | @list l2 o2 v2 n2 z2 a2 p2 q2 r2 w2 => exact RcAt.bool_list b1 ⟨_, p2, q2, _, r2⟩ hu
    | @tuple l2 o2 v2 n2 z2 a2 p2 q2 r2 w2 => exact RcAt.bool_tuple b1 ⟨_, p2, q2, _, r2⟩ hu
    | @dict l2 o2 e2 n2 z2 a2 c2 p2 q2 r2 w2 y2 => exact xd_bool b1 ⟨_, _, _, p2, q2, r2⟩ hu
  | int i1 t1 =>
    cases rb with
    | none => exact RcAt.int_none i1 t1
    | bool b2 => exact RcAt.int_bool i1 t1 b2
    | int i2 t2 => exact RcAt.int_int i1 t1 i2 t2
    | str x2 t2 => exact RcAt.int_str i1 t1 x2 t2
    | @list l2 o2 v2 n2 z2 a2 p2 q2 r2 w2 => exact RcAt.int_list i1 t1 ⟨_, p2, q2, _, r2⟩ hu
    | @tuple l2 o2 v2 n2 z2 a2 p2 q2 r2 w2 => exact RcAt.int_tuple i1 t1 ⟨_, p2, q2, _, r2⟩ hu
    | @dict l2 o2 e2 n2 z2 a2 c2 p2 q2 r2 w2 y2 => exact xd_int i1 t1 ⟨_, _, _, p2, q2, r2⟩ hu
  | str x1 t1 =>
    cases rb with
    | none => exact RcAt.str_none x1 t1
    | bool b2 => exact RcAt.str_bool x1 t1 b2
    | int i2 t2 => exact RcAt.str_int x1 t1 i2 t2
    | str x2 t2 => exact RcAt.str_str x1 t1 x2 t2
    | @list l2 o2 v2 n2 z2 a2 p2 q2 r2 w2 => exact RcAt.str_list x1 t1 ⟨_, p2, q2, _, r2⟩ hu
    | @tuple l2 o2 v2 n2 z2 a2 p2 q2 r2 w2 => exact RcAt.str_tuple x1 t1 ⟨_, p2, q2, _, r2⟩ hu
    | @dict l2 o2 e2 n2 z2 a2 c2 p2 q2 r2 w2 y2 => exact xd_str x1 t1 ⟨_, _, _, p2, q2, r2⟩ hu
  | @list l1 o1 v1 n1 z1 a1 p1 q1 r1 w1 =>
    cases rb with
    | none => exact RcAt.list_none ⟨_, p1, q1, _, r1⟩ hu
    | bool b2 => exact RcAt.list_bool b2 ⟨_, p1, q1, _, r1⟩ hu
    | int i2 t2 => exact RcAt.list_int i2 t2 ⟨_, p1, q1, _, r1⟩ hu
    | str x2 t2 => exact RcAt.list_str x2 t2 ⟨_, p1, q1, _, r1⟩ hu
    | @list l2 o2 v2 n2 z2 a2 p2 q2 r2 w2 =>
      have m1 : v1.size = z1.length := by simpa using ReadsAll.length _ _ _ w1
      have m2 : v2.size = z2.length := by simpa using ReadsAll.length _ _ _ w2
      have each : ∀ j (j1 : j < v1.size) (j2 : j < v2.size), EqAt A.in1 s v1[j] v2[j] (pairEq z1 z2 j) := fun j j1 j2 => by
        have := eqX_all z1 z2 A.in1 s v1.toList v2.toList _ _ w1 w2 hc (by have : (PyData.list z1).depth = PyData.depthAll z1 + 1 := rfl; show A.units + 1 + _ < cLine; omega) j (by simpa using j1) (by simpa using j2)
        simpa using this
      have main : RcAt A s (.ref l1) (.ref l2) (PyData.eqvAll z1 z2) := by
        by_cases hz : v1.size = v2.size
        · rw [← eqvAll_same_length (xs := z1) (ys := z2) (by omega), ← m1]; exact RcAt.lists ⟨_, p1, q1, _, r1⟩ ⟨_, p2, q2, _, r2⟩ hz hu each
        · rw [eqvAll_other_length (xs := z1) (ys := z2) (by omega)]; exact RcAt.lists_lengths ⟨_, p1, q1, _, r1⟩ ⟨_, p2, q2, _, r2⟩ (by simpa using hz) hu
      exact main
    | @tuple l2 o2 v2 n2 z2 a2 p2 q2 r2 w2 => exact RcAt.list_tuple ⟨_, p1, q1, _, r1⟩ ⟨_, p2, q2, _, r2⟩ hu
    | @dict l2 o2 e2 n2 z2 a2 c2 p2 q2 r2 w2 y2 => exact xd_list ⟨_, _, _, p2, q2, r2⟩ ⟨_, p1, q1, _, r1⟩ hu
  | @tuple l1 o1 v1 n1 z1 a1 p1 q1 r1 w1 =>
    cases rb with
    | none => exact RcAt.tuple_none ⟨_, p1, q1, _, r1⟩ hu
    | bool b2 => exact RcAt.tuple_bool b2 ⟨_, p1, q1, _, r1⟩ hu
    | int i2 t2 => exact RcAt.tuple_int i2 t2 ⟨_, p1, q1, _, r1⟩ hu
    | str x2 t2 => exact RcAt.tuple_str x2 t2 ⟨_, p1, q1, _, r1⟩ hu
    | @list l2 o2 v2 n2 z2 a2 p2 q2 r2 w2 => exact RcAt.tuple_list ⟨_, p1, q1, _, r1⟩ ⟨_, p2, q2, _, r2⟩ hu
    | @tuple l2 o2 v2 n2 z2 a2 p2 q2 r2 w2 =>
      have m1 : v1.size = z1.length := by simpa using ReadsAll.length _ _ _ w1
      have m2 : v2.size = z2.length := by simpa using ReadsAll.length _ _ _ w2
      have each : ∀ j (j1 : j < v1.size) (j2 : j < v2.size), EqAt A.in1 s v1[j] v2[j] (pairEq z1 z2 j) := fun j j1 j2 => by
        have := eqX_all z1 z2 A.in1 s v1.toList v2.toList _ _ w1 w2 hc (by have : (PyData.tuple z1).depth = PyData.depthAll z1 + 1 := rfl; show A.units + 1 + _ < cLine; omega) j (by simpa using j1) (by simpa using j2)
        simpa using this
      have main : RcAt A s (.ref l1) (.ref l2) (PyData.eqvAll z1 z2) := by
        rw [← eqvAll_eq z1 z2, ← m1, ← m2]; exact RcAt.tuples ⟨_, p1, q1, _, r1⟩ ⟨_, p2, q2, _, r2⟩ hu each
      exact main
    | @dict l2 o2 e2 n2 z2 a2 c2 p2 q2 r2 w2 y2 => exact xd_tuple ⟨_, _, _, p2, q2, r2⟩ ⟨_, p1, q1, _, r1⟩ hu
  | @dict l1 o1 e1 n1 z1 a1 c1 p1 q1 r1 w1 y1 =>
    cases rb with
    | none => exact dx_none ⟨_, _, _, p1, q1, r1⟩ hu
    | bool b2 => exact dx_bool b2 ⟨_, _, _, p1, q1, r1⟩ hu
    | int i2 t2 => exact dx_int i2 t2 ⟨_, _, _, p1, q1, r1⟩ hu
    | str x2 t2 => exact dx_str x2 t2 ⟨_, _, _, p1, q1, r1⟩ hu
    | @list l2 o2 v2 n2 z2 a2 p2 q2 r2 w2 => exact dx_list ⟨_, _, _, p1, q1, r1⟩ ⟨_, p2, q2, _, r2⟩ hu
    | @tuple l2 o2 v2 n2 z2 a2 p2 q2 r2 w2 => exact dx_tuple ⟨_, _, _, p1, q1, r1⟩ ⟨_, p2, q2, _, r2⟩ hu
    | @dict l2 o2 e2 n2 z2 a2 c2 p2 q2 r2 w2 y2 => exact (by rcases hc with z | z <;> cases z)
end
end PySem.SeqAt
end
section
set_option Elab.async false
set_option linter.all false
set_option maxRecDepth 100000
set_option maxHeartbeats 4000000
/-! Inequality likewise. -/
namespace PySem.SeqAt
open PySem
theorem ndict_declines {prog : Program} {w : World} {A : Around} {E : Value → Shared → Prop} {s : Shared} {l : Addr} {y : Value} {T : String} {Q : Value → Shared → Prop} (hl : IsDct s.heap l) (hy : s.TypeIs y T) (hT : isSubtype (.type T) (.type "dict") = pure false) (h : Q .notImplemented s) :
    wpAny (model prog w) A (call (.builtin "dict.__ne__") [.ref l, y]) Q E s := by
  refine wpAny_call_entry PySem.F.slot_dict_ne hl.type PySem.F.entry_dict_ne ?_ (PySem.F.args_dict_ne_2 _ _)
  show wpAny _ _ (Builtin.Dict.dictSlotArgs "__ne__" ⟨[.ref l, y], []⟩ >>= _) _ _ s
  refine wpAny_bind ?_
  unfold Builtin.Dict.dictSlotArgs; refine wpAny_bind (wpAny_notOrdered_dict hl.type ?_)
  show wpAny _ _ (pure (Value.ref l, y)) _ _ s
  refine wpAny_pure ?_
  refine wpAny_bind (wpAny_isInstance (T := T) hy hT ?_)
  simp only [Bool.not_false, if_true]
  exact wpAny_bind (wpAny_rule (wpAny_pure ⟨_, rfl, h⟩))
theorem ndq_bool (b : Bool) (l : Addr) (es : Array DictEntry) (n : Nat) (dd : Option Addr) (sl : Array (Option Value)) : Meets (Builtin.«int.__ne__» ⟨[.bool b, .ref l], []⟩) (fun _ R s => s.heap.get? l = some { cls := .type "dict", dict := dd, data := .dict es n, slots := sl } ∧ R (.ok (.ret .notImplemented)) s) := .of_wp fun prog w A R s h => by obtain ⟨hp, g, d, tk, os⟩ := s; obtain ⟨hq0, h⟩ := h; wp_walk using AutoSeq1.wpAny_loadPart' hq0, wpAny_load hq0; exact ⟨_, rfl, h⟩
theorem ndq_int (b : Int) (u : Tok) (l : Addr) (es : Array DictEntry) (n : Nat) (dd : Option Addr) (sl : Array (Option Value)) : Meets (Builtin.«int.__ne__» ⟨[.int b u, .ref l], []⟩) (fun _ R s => s.heap.get? l = some { cls := .type "dict", dict := dd, data := .dict es n, slots := sl } ∧ R (.ok (.ret .notImplemented)) s) := .of_wp fun prog w A R s h => by obtain ⟨hp, g, d, tk, os⟩ := s; obtain ⟨hq0, h⟩ := h; wp_walk using AutoSeq1.wpAny_loadPart' hq0, wpAny_load hq0; exact ⟨_, rfl, h⟩
theorem ndq_str (b : Str) (u : Tok) (l : Addr) (es : Array DictEntry) (n : Nat) (dd : Option Addr) (sl : Array (Option Value)) : Meets (Builtin.«str.__ne__» ⟨[.str b u, .ref l], []⟩) (fun _ R s => s.heap.get? l = some { cls := .type "dict", dict := dd, data := .dict es n, slots := sl } ∧ R (.ok (.ret .notImplemented)) s) := .of_wp fun prog w A R s h => by obtain ⟨hp, g, d, tk, os⟩ := s; obtain ⟨hq0, h⟩ := h; wp_walk using AutoSeq1.wpAny_loadPart' hq0, wpAny_load hq0; exact ⟨_, rfl, h⟩
theorem ndq_list (b l : Addr) (es : Array DictEntry) (n : Nat) (dd : Option Addr) (sl : Array (Option Value)) (vs : Array Value) (m : Nat) (d2 : Option Addr) (s2 : Array (Option Value)) : Meets (Builtin.«list.__ne__» ⟨[.ref b, .ref l], []⟩) (fun _ R s => s.heap.get? b = some { cls := .type "list", dict := d2, data := .seq vs m, slots := s2 } ∧ s.heap.get? l = some { cls := .type "dict", dict := dd, data := .dict es n, slots := sl } ∧ R (.ok (.ret .notImplemented)) s) := .of_wp fun prog w A R s h => by obtain ⟨hp, g, d, tk, os⟩ := s; obtain ⟨hq0, hq1, h⟩ := h; have f1 := F.sub_dict_list; wp_walk using AutoSeq1.wpAny_loadPart' hq0, AutoSeq1.wpAny_loadPart' hq1; exact ⟨_, rfl, h⟩
theorem ndq_tuple (b l : Addr) (es : Array DictEntry) (n : Nat) (dd : Option Addr) (sl : Array (Option Value)) (vs : Array Value) (m : Nat) (d2 : Option Addr) (s2 : Array (Option Value)) : Meets (Builtin.«tuple.__ne__» ⟨[.ref b, .ref l], []⟩) (fun _ R s => s.heap.get? b = some { cls := .type "tuple", dict := d2, data := .seq vs m, slots := s2 } ∧ s.heap.get? l = some { cls := .type "dict", dict := dd, data := .dict es n, slots := sl } ∧ R (.ok (.ret .notImplemented)) s) := .of_wp fun prog w A R s h => by obtain ⟨hp, g, d, tk, os⟩ := s; obtain ⟨hq0, hq1, h⟩ := h; have f1 := F.sub_dict_tuple; wp_walk using AutoSeq1.wpAny_loadPart' hq0, AutoSeq1.wpAny_loadPart' hq1; exact ⟨_, rfl, h⟩
section
variable {A : Around} {s : Shared}
theorem ndx_none {l : Addr} (hl : IsDct s.heap l) (hu : A.units < cLine) : RcNeAt A s (.ref l) .none true := fun prog w E Q h => by exact rc_ne_decline_or (k := false) hl.type rfl (by decide) F.sub_NoneType_dict F.slot_dict_ne F.slot_NoneType_ne_refl (fun _ q => ndict_declines hl rfl F.sub_NoneType_dict q) (fun _ q => call_gives F.slot_NoneType_ne_refl rfl F.entry_NoneType_ne (F.args_NoneType_ne_2 _ _) (NoneType___ne___none_ref_0 l) q) (fun _ q => wpAny_of_eq (rfl : isSame (.ref l) .none = pure false) q) (.inr hu) h
theorem nxd_none {l : Addr} (hl : IsDct s.heap l) (hu : A.units < cLine) : RcNeAt A s .none (.ref l) true := fun prog w E Q h => by exact rc_ne_decline_or (k := false) rfl hl.type (by decide) F.sub_dict_NoneType F.slot_NoneType_ne F.slot_dict_ne_refl (fun _ q => call_gives F.slot_NoneType_ne rfl F.entry_NoneType_ne (F.args_NoneType_ne_2 _ _) (NoneType___ne___none_ref_0 l) q) (fun _ q => ndict_declines hl rfl F.sub_NoneType_dict q) (fun _ q => wpAny_of_eq (rfl : isSame .none (.ref l) = pure false) q) (.inr hu) h
theorem ndx_bool (b : Bool) {l : Addr} (hl : IsDct s.heap l) (hu : A.units < cLine) : RcNeAt A s (.ref l) (.bool b) true := fun prog w E Q h => by obtain ⟨⟨cls, dd, data, sl⟩, es, n, ho, hc, hd⟩ := id hl; simp only at hc hd; subst hc hd; exact rc_ne_decline_or (k := false) hl.type rfl (by decide) F.sub_bool_dict F.slot_dict_ne F.slot_bool_ne_refl (fun _ q => ndict_declines hl rfl F.sub_bool_dict q) (fun _ q => call_meets F.slot_bool_ne_refl rfl F.entry_int_ne (F.args_int_ne_2 _ _) (ndq_bool b l es n dd sl) ⟨ho, q⟩) (fun _ q => wpAny_of_eq (rfl : isSame (.ref l) (.bool b) = pure false) q) (.inr hu) h
theorem nxd_bool (b : Bool) {l : Addr} (hl : IsDct s.heap l) (hu : A.units < cLine) : RcNeAt A s (.bool b) (.ref l) true := fun prog w E Q h => by obtain ⟨⟨cls, dd, data, sl⟩, es, n, ho, hc, hd⟩ := id hl; simp only at hc hd; subst hc hd; exact rc_ne_decline_or (k := false) rfl hl.type (by decide) F.sub_dict_bool F.slot_bool_ne F.slot_dict_ne_refl (fun _ q => call_meets F.slot_bool_ne rfl F.entry_int_ne (F.args_int_ne_2 _ _) (ndq_bool b l es n dd sl) ⟨ho, q⟩) (fun _ q => ndict_declines hl rfl F.sub_bool_dict q) (fun _ q => wpAny_of_eq (rfl : isSame (.bool b) (.ref l) = pure false) q) (.inr hu) h
theorem ndx_int (b : Int) (u : Tok) {l : Addr} (hl : IsDct s.heap l) (hu : A.units < cLine) : RcNeAt A s (.ref l) (.int b u) true := fun prog w E Q h => by obtain ⟨⟨cls, dd, data, sl⟩, es, n, ho, hc, hd⟩ := id hl; simp only at hc hd; subst hc hd; exact rc_ne_decline_or (k := false) hl.type (typeIs_int s b u) (by decide) F.sub_int_dict F.slot_dict_ne F.slot_int_ne_refl (fun _ q => ndict_declines hl (typeIs_int s b u) F.sub_int_dict q) (fun _ q => call_meets F.slot_int_ne_refl (typeIs_int s b u) F.entry_int_ne (F.args_int_ne_2 _ _) (ndq_int b u l es n dd sl) ⟨ho, q⟩) (fun _ q => wpAny_of_eq (rfl : isSame (.ref l) (.int b u) = pure false) q) (.inr hu) h
theorem nxd_int (b : Int) (u : Tok) {l : Addr} (hl : IsDct s.heap l) (hu : A.units < cLine) : RcNeAt A s (.int b u) (.ref l) true := fun prog w E Q h => by obtain ⟨⟨cls, dd, data, sl⟩, es, n, ho, hc, hd⟩ := id hl; simp only at hc hd; subst hc hd; exact rc_ne_decline_or (k := false) (typeIs_int s b u) hl.type (by decide) F.sub_dict_int F.slot_int_ne F.slot_dict_ne_refl (fun _ q => call_meets F.slot_int_ne (typeIs_int s b u) F.entry_int_ne (F.args_int_ne_2 _ _) (ndq_int b u l es n dd sl) ⟨ho, q⟩) (fun _ q => ndict_declines hl (typeIs_int s b u) F.sub_int_dict q) (fun _ q => wpAny_of_eq (rfl : isSame (.int b u) (.ref l) = pure false) q) (.inr hu) h
theorem ndx_str (b : Str) (u : Tok) {l : Addr} (hl : IsDct s.heap l) (hu : A.units < cLine) : RcNeAt A s (.ref l) (.str b u) true := fun prog w E Q h => by obtain ⟨⟨cls, dd, data, sl⟩, es, n, ho, hc, hd⟩ := id hl; simp only at hc hd; subst hc hd; exact rc_ne_decline_or (k := false) hl.type (typeIs_str s b u) (by decide) F.sub_str_dict F.slot_dict_ne F.slot_str_ne_refl (fun _ q => ndict_declines hl (typeIs_str s b u) F.sub_str_dict q) (fun _ q => call_meets F.slot_str_ne_refl (typeIs_str s b u) F.entry_str_ne (F.args_str_ne_2 _ _) (ndq_str b u l es n dd sl) ⟨ho, q⟩) (fun _ q => wpAny_of_eq (rfl : isSame (.ref l) (.str b u) = pure false) q) (.inr hu) h
theorem nxd_str (b : Str) (u : Tok) {l : Addr} (hl : IsDct s.heap l) (hu : A.units < cLine) : RcNeAt A s (.str b u) (.ref l) true := fun prog w E Q h => by obtain ⟨⟨cls, dd, data, sl⟩, es, n, ho, hc, hd⟩ := id hl; simp only at hc hd; subst hc hd; exact rc_ne_decline_or (k := false) (typeIs_str s b u) hl.type (by decide) F.sub_dict_str F.slot_str_ne F.slot_dict_ne_refl (fun _ q => call_meets F.slot_str_ne (typeIs_str s b u) F.entry_str_ne (F.args_str_ne_2 _ _) (ndq_str b u l es n dd sl) ⟨ho, q⟩) (fun _ q => ndict_declines hl (typeIs_str s b u) F.sub_str_dict q) (fun _ q => wpAny_of_eq (rfl : isSame (.str b u) (.ref l) = pure false) q) (.inr hu) h
theorem ndx_list {l b : Addr} {vs : Array Value} (hl : IsDct s.heap l) (hb : s.heap.IsList b vs) (hu : A.units < cLine) : RcNeAt A s (.ref l) (.ref b) true := fun prog w E Q h => by
  obtain ⟨⟨cls, dd, data, sl⟩, es, n, ho, hc, hd⟩ := id hl; obtain ⟨⟨c2, d2, a2, s2⟩, o2, k2, m, e2⟩ := id hb; simp only at hc hd k2 e2; subst hc hd k2 e2; have hne : l ≠ b := fun z => by subst z; rw [ho] at o2; exact absurd (congrArg Obj.cls (Option.some.inj o2)) (by simp)
  exact rc_ne_decline_or (k := false) hl.type ⟨_, o2, rfl⟩ (by decide) F.sub_list_dict F.slot_dict_ne F.slot_list_ne_refl (fun _ q => ndict_declines hl ⟨_, o2, rfl⟩ F.sub_list_dict q) (fun _ q => call_meets F.slot_list_ne_refl ⟨_, o2, rfl⟩ F.entry_list_ne (F.args_list_ne_2 _ _) (ndq_list b l es n dd sl vs m d2 s2) ⟨o2, ho, q⟩) (fun _ q => wpAny_isSame_ref_other hne ho o2 (by simp) q) (.inr hu) h
theorem nxd_list {l b : Addr} {vs : Array Value} (hl : IsDct s.heap l) (hb : s.heap.IsList b vs) (hu : A.units < cLine) : RcNeAt A s (.ref b) (.ref l) true := fun prog w E Q h => by
  obtain ⟨⟨cls, dd, data, sl⟩, es, n, ho, hc, hd⟩ := id hl; obtain ⟨⟨c2, d2, a2, s2⟩, o2, k2, m, e2⟩ := id hb; simp only at hc hd k2 e2; subst hc hd k2 e2; have hne : b ≠ l := fun z => by subst z; rw [ho] at o2; exact absurd (congrArg Obj.cls (Option.some.inj o2)) (by simp)
  exact rc_ne_decline_or (k := false) ⟨_, o2, rfl⟩ hl.type (by decide) F.sub_dict_list F.slot_list_ne F.slot_dict_ne_refl (fun _ q => call_meets F.slot_list_ne ⟨_, o2, rfl⟩ F.entry_list_ne (F.args_list_ne_2 _ _) (ndq_list b l es n dd sl vs m d2 s2) ⟨o2, ho, q⟩) (fun _ q => ndict_declines hl ⟨_, o2, rfl⟩ F.sub_list_dict q) (fun _ q => wpAny_isSame_ref_other hne o2 ho (by simp) q) (.inr hu) h
theorem ndx_tuple {l b : Addr} {vs : Array Value} (hl : IsDct s.heap l) (hb : s.heap.IsTuple b vs) (hu : A.units < cLine) : RcNeAt A s (.ref l) (.ref b) true := fun prog w E Q h => by
  obtain ⟨⟨cls, dd, data, sl⟩, es, n, ho, hc, hd⟩ := id hl; obtain ⟨⟨c2, d2, a2, s2⟩, o2, k2, m, e2⟩ := id hb; simp only at hc hd k2 e2; subst hc hd k2 e2; have hne : l ≠ b := fun z => by subst z; rw [ho] at o2; exact absurd (congrArg Obj.cls (Option.some.inj o2)) (by simp)
  exact rc_ne_decline_or (k := false) hl.type ⟨_, o2, rfl⟩ (by decide) F.sub_tuple_dict F.slot_dict_ne F.slot_tuple_ne_refl (fun _ q => ndict_declines hl ⟨_, o2, rfl⟩ F.sub_tuple_dict q) (fun _ q => call_meets F.slot_tuple_ne_refl ⟨_, o2, rfl⟩ F.entry_tuple_ne (F.args_tuple_ne_2 _ _) (ndq_tuple b l es n dd sl vs m d2 s2) ⟨o2, ho, q⟩) (fun _ q => wpAny_isSame_ref_other hne ho o2 (by simp) q) (.inr hu) h
theorem nxd_tuple {l b : Addr} {vs : Array Value} (hl : IsDct s.heap l) (hb : s.heap.IsTuple b vs) (hu : A.units < cLine) : RcNeAt A s (.ref b) (.ref l) true := fun prog w E Q h => by
  obtain ⟨⟨cls, dd, data, sl⟩, es, n, ho, hc, hd⟩ := id hl; obtain ⟨⟨c2, d2, a2, s2⟩, o2, k2, m, e2⟩ := id hb; simp only at hc hd k2 e2; subst hc hd k2 e2; have hne : b ≠ l := fun z => by subst z; rw [ho] at o2; exact absurd (congrArg Obj.cls (Option.some.inj o2)) (by simp)
  exact rc_ne_decline_or (k := false) ⟨_, o2, rfl⟩ hl.type (by decide) F.sub_dict_tuple F.slot_tuple_ne F.slot_dict_ne_refl (fun _ q => call_meets F.slot_tuple_ne ⟨_, o2, rfl⟩ F.entry_tuple_ne (F.args_tuple_ne_2 _ _) (ndq_tuple b l es n dd sl vs m d2 s2) ⟨o2, ho, q⟩) (fun _ q => ndict_declines hl ⟨_, o2, rfl⟩ F.sub_tuple_dict q) (fun _ q => wpAny_isSame_ref_other' hne o2 ho (by simp) q) (.inr hu) h
theorem rcNeX (da db : PyData) (A : Around) (s : Shared) (a b : Value) (as bs : List Addr) (ra : Reads s.heap a da as) (rb : Reads s.heap b db bs) (hc : da.canLay0 = true ∨ db.canLay0 = true) (hd : A.units + da.depth < cLine) : RcNeAt A s a b (!PyData.eqv da db) := by
  have hu : A.units < cLine := by omega
  cases ra with
  | none =>
    cases rb with
    | none => exact RcNeAt.none_none
    | bool b2 => exact RcNeAt.none_bool b2
    | int i2 t2 => exact RcNeAt.none_int i2 t2
    | str x2 t2 => exact RcNeAt.none_str x2 t2
    | @list l2 o2 v2 n2 z2 a2 p2 q2 r2 w2 => exact RcNeAt.none_list ⟨_, p2, q2, _, r2⟩ hu
    | @tuple l2 o2 v2 n2 z2 a2 p2 q2 r2 w2 => exact RcNeAt.none_tuple ⟨_, p2, q2, _, r2⟩ hu
    | @dict l2 o2 e2 n2 z2 a2 c2 p2 q2 r2 w2 y2 => exact nxd_none ⟨_, _, _, p2, q2, r2⟩ hu
  | bool b1 =>
    cases rb with
    | none => exact RcNeAt.bool_none b1
    | bool b2 => exact RcNeAt.bool_bool b1 b2
    | int i2 t2 => exact RcNeAt.bool_int b1 i2 t2
    | str x2 t2 => exact RcNeAt.bool_str b1 x2 t2
    | @list l2 o2 v2 n2 z2 a2 p2 q2 r2 w2 => exact RcNeAt.bool_list b1 ⟨_, p2, q2, _, r2⟩ hu
    | @tuple l2 o2 v2 n2 z2 a2 p2 q2 r2 w2 => exact RcNeAt.bool_tuple b1 ⟨_, p2, q2, _, r2⟩ hu
    | @dict l2 o2 e2 n2 z2 a2 c2 p2 q2 r2 w2 y2 => exact nxd_bool b1 ⟨_, _, _, p2, q2, r2⟩ hu
  | int i1 t1 =>
    cases rb with
    | none => exact RcNeAt.int_none i1 t1
    | bool b2 => exact RcNeAt.int_bool i1 t1 b2
    | int i2 t2 => exact RcNeAt.int_int i1 t1 i2 t2
    | str x2 t2 => exact RcNeAt.int_str i1 t1 x2 t2
    | @list l2 o2 v2 n2 z2 a2 p2 q2 r2 w2 => exact RcNeAt.int_list i1 t1 ⟨_, p2, q2, _, r2⟩ hu
    | @tuple l2 o2 v2 n2 z2 a2 p2 q2 r2 w2 => exact RcNeAt.int_tuple i1 t1 ⟨_, p2, q2, _, r2⟩ hu
    | @dict l2 o2 e2 n2 z2 a2 c2 p2 q2 r2 w2 y2 => exact nxd_int i1 t1 ⟨_, _, _, p2, q2, r2⟩ hu
  | str x1 t1 =>
    cases rb with
    | none => exact RcNeAt.str_none x1 t1
    | bool b2 => exact RcNeAt.str_bool x1 t1 b2
    | int i2 t2 => exact RcNeAt.str_int x1 t1 i2 t2
    | str x2 t2 => exact RcNeAt.str_str x1 t1 x2 t2
    | @list l2 o2 v2 n2 z2 a2 p2 q2 r2 w2 => exact RcNeAt.str_list x1 t1 ⟨_, p2, q2, _, r2⟩ hu
    | @tuple l2 o2 v2 n2 z2 a2 p2 q2 r2 w2 => exact RcNeAt.str_tuple x1 t1 ⟨_, p2, q2, _, r2⟩ hu
    | @dict l2 o2 e2 n2 z2 a2 c2 p2 q2 r2 w2 y2 => exact nxd_str x1 t1 ⟨_, _, _, p2, q2, r2⟩ hu
  | @list l1 o1 v1 n1 z1 a1 p1 q1 r1 w1 =>
    cases rb with
    | none => exact RcNeAt.list_none ⟨_, p1, q1, _, r1⟩ hu
    | bool b2 => exact RcNeAt.list_bool b2 ⟨_, p1, q1, _, r1⟩ hu
    | int i2 t2 => exact RcNeAt.list_int i2 t2 ⟨_, p1, q1, _, r1⟩ hu
    | str x2 t2 => exact RcNeAt.list_str x2 t2 ⟨_, p1, q1, _, r1⟩ hu
    | @list l2 o2 v2 n2 z2 a2 p2 q2 r2 w2 =>
      have m1 : v1.size = z1.length := by simpa using ReadsAll.length _ _ _ w1
      have m2 : v2.size = z2.length := by simpa using ReadsAll.length _ _ _ w2
      have each : ∀ j (j1 : j < v1.size) (j2 : j < v2.size), EqAt A.in1 s v1[j] v2[j] (pairEq z1 z2 j) := fun j j1 j2 => by
        have := eqX_all z1 z2 A.in1 s v1.toList v2.toList _ _ w1 w2 hc (by have : (PyData.list z1).depth = PyData.depthAll z1 + 1 := rfl; show A.units + 1 + _ < cLine; omega) j (by simpa using j1) (by simpa using j2)
        simpa using this
      have main : RcNeAt A s (.ref l1) (.ref l2) (!PyData.eqvAll z1 z2) := by
        by_cases hz : v1.size = v2.size
        · rw [← eqvAll_same_length (xs := z1) (ys := z2) (by omega), ← m1]; exact RcNeAt.lists ⟨_, p1, q1, _, r1⟩ ⟨_, p2, q2, _, r2⟩ hz hu each
        · rw [eqvAll_other_length (xs := z1) (ys := z2) (by omega)]; exact RcNeAt.lists_lengths ⟨_, p1, q1, _, r1⟩ ⟨_, p2, q2, _, r2⟩ (by simpa using hz) hu
      exact main
    | @tuple l2 o2 v2 n2 z2 a2 p2 q2 r2 w2 => exact RcNeAt.list_tuple ⟨_, p1, q1, _, r1⟩ ⟨_, p2, q2, _, r2⟩ hu
    | @dict l2 o2 e2 n2 z2 a2 c2 p2 q2 r2 w2 y2 => exact nxd_list ⟨_, _, _, p2, q2, r2⟩ ⟨_, p1, q1, _, r1⟩ hu
  | @tuple l1 o1 v1 n1 z1 a1 p1 q1 r1 w1 =>
    cases rb with
    | none => exact RcNeAt.tuple_none ⟨_, p1, q1, _, r1⟩ hu
    | bool b2 => exact RcNeAt.tuple_bool b2 ⟨_, p1, q1, _, r1⟩ hu
    | int i2 t2 => exact RcNeAt.tuple_int i2 t2 ⟨_, p1, q1, _, r1⟩ hu
    | str x2 t2 => exact RcNeAt.tuple_str x2 t2 ⟨_, p1, q1, _, r1⟩ hu
    | @list l2 o2 v2 n2 z2 a2 p2 q2 r2 w2 => exact RcNeAt.tuple_list ⟨_, p1, q1, _, r1⟩ ⟨_, p2, q2, _, r2⟩ hu
    | @tuple l2 o2 v2 n2 z2 a2 p2 q2 r2 w2 =>
      have m1 : v1.size = z1.length := by simpa using ReadsAll.length _ _ _ w1
      have m2 : v2.size = z2.length := by simpa using ReadsAll.length _ _ _ w2
      have each : ∀ j (j1 : j < v1.size) (j2 : j < v2.size), EqAt A.in1 s v1[j] v2[j] (pairEq z1 z2 j) := fun j j1 j2 => by
        have := eqX_all z1 z2 A.in1 s v1.toList v2.toList _ _ w1 w2 hc (by have : (PyData.tuple z1).depth = PyData.depthAll z1 + 1 := rfl; show A.units + 1 + _ < cLine; omega) j (by simpa using j1) (by simpa using j2)
        simpa using this
      have main : RcNeAt A s (.ref l1) (.ref l2) (!PyData.eqvAll z1 z2) := by
        rw [← eqvAll_eq z1 z2, ← m1, ← m2]; exact RcNeAt.tuples ⟨_, p1, q1, _, r1⟩ ⟨_, p2, q2, _, r2⟩ hu each
      exact main
    | @dict l2 o2 e2 n2 z2 a2 c2 p2 q2 r2 w2 y2 => exact nxd_tuple ⟨_, _, _, p2, q2, r2⟩ ⟨_, p1, q1, _, r1⟩ hu
  | @dict l1 o1 e1 n1 z1 a1 c1 p1 q1 r1 w1 y1 =>
    cases rb with
    | none => exact ndx_none ⟨_, _, _, p1, q1, r1⟩ hu
    | bool b2 => exact ndx_bool b2 ⟨_, _, _, p1, q1, r1⟩ hu
    | int i2 t2 => exact ndx_int i2 t2 ⟨_, _, _, p1, q1, r1⟩ hu
    | str x2 t2 => exact ndx_str x2 t2 ⟨_, _, _, p1, q1, r1⟩ hu
    | @list l2 o2 v2 n2 z2 a2 p2 q2 r2 w2 => exact ndx_list ⟨_, _, _, p1, q1, r1⟩ ⟨_, p2, q2, _, r2⟩ hu
    | @tuple l2 o2 v2 n2 z2 a2 p2 q2 r2 w2 => exact ndx_tuple ⟨_, _, _, p1, q1, r1⟩ ⟨_, p2, q2, _, r2⟩ hu
    | @dict l2 o2 e2 n2 z2 a2 c2 p2 q2 r2 w2 y2 => exact (by rcases hc with z | z <;> cases z)
end
end PySem.SeqAt
end
section
set_option Elab.async false
set_option linter.all false
set_option maxRecDepth 100000
set_option maxHeartbeats 4000000
/-! Membership of what may have dicts in it, in what has none; and data with dicts read off the heap. -/
namespace PySem.SeqAt
open PySem
section
variable {prog : Program} {w : World} {A : Around} {E : Value → Shared → Prop} {s : Shared}
theorem itemsX {vs : Array Value} {xs : List PyData} {as bs : List Addr} {x : Value} {d : PyData} (rs : ReadsAll s.heap vs.toList xs as) (rx : Reads s.heap x d bs) (hxs : PyData.canLayAll0 xs = true) (hu : A.units + 1 + PyData.depthAll xs < cLine) :
    ∀ y, y ∈ vs → EqAt A.in1 s y x (PyData.eqv (readOf s.heap y) d) := fun y hy => by
  obtain ⟨dy, cs, ry, hcy, hle⟩ := readsAll_mem xs _ _ hxs rs y (by simpa using hy)
  rw [readOf_eq hcy ry]
  exact eqX dy d A.in1 s y x _ _ ry rx (.inl hcy) (by show A.units + 1 + dy.depth < cLine; omega)
theorem in_listX {c x : Value} {xs : List PyData} {d : PyData} {as bs : List Addr} {Q : Value → Shared → Prop} (rc : Reads s.heap c (.list xs) as) (rx : Reads s.heap x d bs) (hxs : PyData.canLayAll0 xs = true) (hu : A.units + 1 + PyData.depthAll xs < cLine) (h : Q (.bool (xs.any fun y => PyData.eqv y d)) s) : wpAny (model prog w) A (compareOp .In x c) Q E s := by
  cases rc with
  | list a b e f => exact in_listAt _ ⟨_, a, b, _, e⟩ (itemsX f rx hxs hu) (by rw [any_by_data f hxs]; exact h)
theorem notIn_listX {c x : Value} {xs : List PyData} {d : PyData} {as bs : List Addr} {Q : Value → Shared → Prop} (rc : Reads s.heap c (.list xs) as) (rx : Reads s.heap x d bs) (hxs : PyData.canLayAll0 xs = true) (hu : A.units + 1 + PyData.depthAll xs < cLine) (h : Q (.bool (!xs.any fun y => PyData.eqv y d)) s) : wpAny (model prog w) A (compareOp .NotIn x c) Q E s := by
  cases rc with
  | list a b e f => exact notIn_listAt _ ⟨_, a, b, _, e⟩ (itemsX f rx hxs hu) (by rw [any_by_data f hxs]; exact h)
theorem in_tupleX {c x : Value} {xs : List PyData} {d : PyData} {as bs : List Addr} {Q : Value → Shared → Prop} (rc : Reads s.heap c (.tuple xs) as) (rx : Reads s.heap x d bs) (hxs : PyData.canLayAll0 xs = true) (hu : A.units + 1 + PyData.depthAll xs < cLine) (h : Q (.bool (xs.any fun y => PyData.eqv y d)) s) : wpAny (model prog w) A (compareOp .In x c) Q E s := by
  cases rc with
  | tuple a b e f => exact in_tupleAt _ ⟨_, a, b, _, e⟩ (itemsX f rx hxs hu) (by rw [any_by_data f hxs]; exact h)
theorem notIn_tupleX {c x : Value} {xs : List PyData} {d : PyData} {as bs : List Addr} {Q : Value → Shared → Prop} (rc : Reads s.heap c (.tuple xs) as) (rx : Reads s.heap x d bs) (hxs : PyData.canLayAll0 xs = true) (hu : A.units + 1 + PyData.depthAll xs < cLine) (h : Q (.bool (!xs.any fun y => PyData.eqv y d)) s) : wpAny (model prog w) A (compareOp .NotIn x c) Q E s := by
  cases rc with
  | tuple a b e f => exact notIn_tupleAt _ ⟨_, a, b, _, e⟩ (itemsX f rx hxs hu) (by rw [any_by_data f hxs]; exact h)
end
end PySem.SeqAt
namespace Ev
open PySem PySem.Spec PyProof.Rows L2
mutual
/-- data, empty dicts in them -/
inductive Dx (K : PySem.W.Frag) (H : Hp) : V → PyData → Prop
  | non : Dx K H .non .none
  | bl (b : Bool) : Dx K H (.bl b) (.bool b)
  | int (i : Int) : Dx K H (.int i) (.int i)
  | str (x : Str) : Dx K H (.str x) (.str x)
  | lst {a : Addr} {xs : List V} {ds : List PyData} : SqL K H a xs → DxAll K H xs ds → Dx K H (.ref a) (.list ds)
  | tup {a : Addr} {xs : List V} {ds : List PyData} : SqT K H a xs → DxAll K H xs ds → Dx K H (.ref a) (.tuple ds)
  | dct {a : Addr} : H a = some (.dT []) → Dx K H (.ref a) (.dict [])
inductive DxAll (K : PySem.W.Frag) (H : Hp) : List V → List PyData → Prop
  | nil : DxAll K H [] []
  | cons {v : V} {vs : List V} {d : PyData} {ds : List PyData} : Dx K H v d → DxAll K H vs ds → DxAll K H (v :: vs) (d :: ds)
end
section
variable {K : PySem.W.Frag} {H : Hp}
mutual
theorem Dx.dp : ∀ {v : V} {d : PyData}, Dx K H v d → d.canLay0 = true → Dp K H v d
  | _, _, .non, _ => .non
  | _, _, .bl b, _ => .bl b
  | _, _, .int i, _ => .int i
  | _, _, .str x, _ => .str x
  | _, _, .lst h r, c => .lst h (DxAll.dp r (by simpa [PyData.canLay0] using c))
  | _, _, .tup h r, c => .tup h (DxAll.dp r (by simpa [PyData.canLay0] using c))
  | _, _, .dct _, c => by cases c
theorem DxAll.dp : ∀ {v : List V} {d : List PyData}, DxAll K H v d → PyData.canLayAll0 d = true → DpAll K H v d
  | _, _, .nil, _ => .nil
  | _, _, .cons h r, c => by
    have c' := c
    simp only [PyData.canLayAll0, Bool.and_eq_true] at c'
    exact .cons (Dx.dp h c'.1) (DxAll.dp r c'.2)
end
end
section
variable {X : Cx} {pins : List (Addr × Obj)} {σ : L2.St} {H : Hp} {s : Shared}
mutual
theorem Dx.reads (I : Inv X pins σ H s) : ∀ {v : V} {d : PyData} {u : Value}, Dx X.K H v d → RelV v u → ∃ as, Reads s.heap u d as
  | _, _, _, .non, r => by cases r; exact ⟨_, .none⟩
  | _, _, _, .bl b, r => by cases r; exact ⟨_, .bool b⟩
  | _, _, _, .int i, r => by obtain ⟨t, rfl⟩ := r; exact ⟨_, .int i t⟩
  | _, _, _, .str x, r => by obtain ⟨t, rfl⟩ := r; exact ⟨_, .str x t⟩
  | _, _, u, @Dx.lst _ _ a xs ds h q, r => by
    cases (show u = Value.ref a from r)
    obtain ⟨its, rv, p, _⟩ := I.list h
    obtain ⟨as, rs⟩ := DxAll.reads I q rv
    obtain ⟨o, h1, h2, n, h3⟩ := p.isList
    exact ⟨_, .list h1 h2 h3 (by simpa using rs)⟩
  | _, _, u, @Dx.tup _ _ a xs ds h q, r => by
    cases (show u = Value.ref a from r)
    obtain ⟨its, rv, p, _⟩ := I.tuple h
    obtain ⟨as, rs⟩ := DxAll.reads I q rv
    obtain ⟨o, h1, h2, n, h3⟩ := p
    exact ⟨_, .tuple h1 h2 h3 (by simpa using rs)⟩
  | _, _, u, @Dx.dct _ _ a h, r => by
    cases (show u = Value.ref a from r)
    obtain ⟨_, _, xs, pr, o, es, ep, h1, h2, h3, h4, _⟩ := (show ObjOk X.prog X.w H s.heap a (.dT []) from I.hok a _ h)
    cases pr
    have he : es.toList = [] := h4
    refine ⟨_, .dict (kvs := []) (as := []) (bs := []) h1 h2.1 h3 ?_ ?_⟩
    · rw [he]; exact .nil
    · rw [he]; exact .nil
theorem DxAll.reads (I : Inv X pins σ H s) : ∀ {v : List V} {d : List PyData} {u : List Value}, DxAll X.K H v d → Vals v u → ∃ as, ReadsAll s.heap u d as
  | _, _, _, .nil, r => by cases r; exact ⟨_, .nil⟩
  | _, _, _, .cons h q, r => by
    cases r with
    | cons r1 r2 =>
      obtain ⟨as, a⟩ := Dx.reads I h r1
      obtain ⟨bs, b⟩ := DxAll.reads I q r2
      exact ⟨_, .cons a b⟩
end
end
end Ev
end
section
set_option Elab.async false
set_option linter.all false
set_option maxRecDepth 100000
set_option maxHeartbeats 4000000
/-! A tuple times a number: any number, any tuple. -/
namespace Ev
open PySem PySem.Spec PyProof.Rows L2
theorem tuple_mul1 (l : Addr) (items : Array Value) (n : Nat) (dd : Option Addr) (sl : Array (Option Value)) (x : Int) (u : Tok) (c0 : (decide (x < -(2 ^ 63)) || decide (x ≥ 2 ^ 63)) = false) (c1 : (items.isEmpty || x == 1) = true) :
    Meets (Builtin.«tuple.__mul__» ⟨[.ref l, .int x u], []⟩) (fun _ R s => s.heap.get? l = some { cls := .type "tuple", dict := dd, data := .seq items n, slots := sl } ∧
      R (.ok (.ret (Value.ref l))) s) :=
  .of_wp fun prog w A R s h => by
    obtain ⟨hp, g, d, tk, os⟩ := s
    obtain ⟨hl, h⟩ := h
    have f1 := AutoSeq1.idx_int
    wp_walk using wpAny_loadPart' hl
    repeat (first
      | (refine wpAny_ite_false (decide_eq_false (by rw [c0]; exact Bool.false_ne_true)) ?_; wp_walk using wpAny_loadPart' hl)
      | (refine wpAny_ite_true (decide_eq_true c1) ?_; wp_walk using wpAny_loadPart' hl))
    exact ⟨_, rfl, h⟩
theorem tuple_mul0 (l : Addr) (items : Array Value) (n : Nat) (dd : Option Addr) (sl : Array (Option Value)) (x : Int) (u : Tok) (c0 : (decide (x < -(2 ^ 63)) || decide (x ≥ 2 ^ 63)) = false) (c1 : (items.isEmpty || x == 1) = false) (c2 : (decide (x ≤ 0) || items.isEmpty) = true) :
    Meets (Builtin.«tuple.__mul__» ⟨[.ref l, .int x u], []⟩) (fun _ R s => s.heap.get? l = some { cls := .type "tuple", dict := dd, data := .seq items n, slots := sl } ∧
      R (.ok (.ret (Value.ref s.heap.objs.size))) { s with heap := s.heap.push { cls := Value.type "tuple", data := Data.seq #[] }, toks := s.toks }) :=
  .of_wp fun prog w A R s h => by
    obtain ⟨hp, g, d, tk, os⟩ := s
    obtain ⟨hl, h⟩ := h
    have f1 := AutoSeq1.idx_int
    wp_walk using wpAny_loadPart' hl
    repeat (first
      | (refine wpAny_ite_false (decide_eq_false (by rw [c0]; exact Bool.false_ne_true)) ?_; wp_walk using wpAny_loadPart' hl)
      | (refine wpAny_ite_false (decide_eq_false (by rw [c1]; exact Bool.false_ne_true)) ?_; wp_walk using wpAny_loadPart' hl)
      | (refine wpAny_ite_true (decide_eq_true c2) ?_; wp_walk using wpAny_loadPart' hl))
    exact ⟨_, rfl, h⟩
def rMulT (K : PySem.W.Frag) : R2 := fun x y H Q => ∃ l k xs, x = .ref l ∧ y = .int k ∧ SqT K H l xs ∧ -1000 ≤ k ∧ k ≤ 1000 ∧ xs.length ≤ 1000 ∧ ((xs = [] ∨ k = 1) → Q (.ref l) H) ∧ (¬ (xs = [] ∨ k = 1) → ∀ p, H p = none → Q (.ref p) (upd H p (.tup (List.replicate k.toNat xs).flatten)))
section
variable {X : Cx}
theorem op_mulT : OpR X (binaryOp .Mult) (rMulT X.K) := by
  intro pins s σ H x y v u Q I rx ry h
  obtain ⟨l, k, xs, rfl, rfl, hT, hk1, hk2, hz, q1, q2⟩ := h
  by_cases hbig : xs ≠ [] ∧ 2 ≤ k
  · have hn : ¬ (xs = [] ∨ k = 1) := fun z => by rcases z with z | z; exact hbig.1 z; omega
    exact op_repT pins s σ H _ _ v u Q I rx ry ⟨l, k, xs, rfl, rfl, hT, hbig.1, hbig.2, hk2, hz, q2 hn⟩
  · cases rx
    obtain ⟨t, rfl⟩ := ry
    obtain ⟨its, r, ⟨⟨cls, dd, data, sl⟩, ho, hc, n, hd⟩, hs⟩ := I.tuple hT
    simp only at hc hd
    subst hc hd
    have hle : its.length = xs.length := r.length.symm
    have c0 : (decide (k < -(2 ^ 63)) || decide (k ≥ 2 ^ 63)) = false := by
      rw [decide_eq_false (by omega), decide_eq_false (by omega)] <;> rfl
    by_cases hone : xs = [] ∨ k = 1
    · have c1 : (its.toArray.isEmpty || k == 1) = true := by
        rcases hone with z | z
        · subst z
          have : its = [] := List.eq_nil_of_length_eq_zero hle
          subst this; rfl
        · subst z; simp
      refine wpAny_binaryOp_repeat_ref (T := "tuple") (U := "int") (by decide) ⟨_, ho, rfl⟩ (fun s' => typeIs_int s' k t) noFill_tuple_mul F.fills_int_mul F.slot_int_rmul repeat_tuple F.slot_int_index.lookup
        (call_meets F.slot_int_rmul (typeIs_int s k t) F.entry_int_rmul (F.args_int_rmul_2 _ _) (int_rmul_tuple k t l its.toArray n dd sl)
          ⟨ho, rfl, ⟨_, ho, rfl⟩, call_meets F.slot_tuple_mul ⟨_, ho, rfl⟩ F.entry_tuple_mul (F.args_tuple_mul_2 _ _) (tuple_mul1 l its.toArray n dd sl k t c0 c1) ⟨ho, ?_⟩⟩)
      exact ⟨.ref l, H, I, rfl, q1 hone⟩
    · have hne : xs ≠ [] := fun z => hone (.inl z)
      have hk0 : k ≤ 0 := by
        have h1 : ¬ 2 ≤ k := fun z => hbig ⟨hne, z⟩
        have h2 : k ≠ 1 := fun z => hone (.inr z)
        omega
      have hi : its.toArray.isEmpty = false := by
        cases its with
        | nil => exact absurd (List.eq_nil_of_length_eq_zero hle.symm) hne
        | cons a b => rfl
      have c1 : (its.toArray.isEmpty || k == 1) = false := by
        rw [hi, Bool.false_or]
        exact beq_eq_false_iff_ne.mpr (by omega)
      have c2 : (decide (k ≤ 0) || its.toArray.isEmpty) = true := by
        rw [decide_eq_true hk0]; rfl
      refine wpAny_binaryOp_repeat_ref (T := "tuple") (U := "int") (by decide) ⟨_, ho, rfl⟩ (fun s' => typeIs_int s' k t) noFill_tuple_mul F.fills_int_mul F.slot_int_rmul repeat_tuple F.slot_int_index.lookup
        (call_meets F.slot_int_rmul (typeIs_int s k t) F.entry_int_rmul (F.args_int_rmul_2 _ _) (int_rmul_tuple k t l its.toArray n dd sl)
          ⟨ho, rfl, ⟨_, ho, rfl⟩, call_meets F.slot_tuple_mul ⟨_, ho, rfl⟩ F.entry_tuple_mul (F.args_tuple_mul_2 _ _) (tuple_mul0 l its.toArray n dd sl k t c0 c1 c2) ⟨ho, ?_⟩⟩)
      have he : (List.replicate k.toNat xs).flatten = [] := by
        rw [show k.toNat = 0 by omega]; rfl
      have hq := q2 hone s.heap.objs.size (I.hok.fresh (Nat.le_refl _))
      rw [he] at hq
      refine ⟨.ref s.heap.objs.size, _, I.laid (t' := s.toks) (o := .tup []) (fun b ob q => Heap.get?_push_of_some _ q) (Nat.le_refl _) ?_, rfl, hq⟩
      exact ⟨by show 0 ≤ sizeLine; omega, [], .nil, IsTup.new _ _⟩
end
theorem flat_one {α : Type} {k : Int} {xs : List α} (h : xs = [] ∨ k = 1) : (List.replicate k.toNat xs).flatten = xs := by
  rcases h with rfl | rfl
  · induction k.toNat with
    | zero => rfl
    | succ n ih => rw [List.replicate_succ, List.flatten_cons, ih]; rfl
  · show (List.replicate 1 xs).flatten = xs
    simp
end Ev
end
section
set_option Elab.async false
set_option linter.all false
set_option maxRecDepth 100000
set_option maxHeartbeats 4000000
/-! Operations on values. -/
namespace Ev
open PySem PySem.Spec PyProof.Rows L2

section
variable {K : PySem.W.Frag} {H : Hp} {m : List Addr} {S : Sto}
theorem le_size {n : Nat} (h : n ≤ 100000) : n ≤ sizeLine := Nat.le_trans h (by decide)
theorem lt_size {n : Nat} (h : n < 100000) : n < sizeLine := Nat.lt_of_lt_of_le h (by decide)
/-- a datum as a whole, read off the heap -/
theorem dx_of (r : RS K H m S) : ∀ (k : Nat) (d : D) (p : PyData) (v : V), pyD k S d = some p → RV K H m d v → Dx K H v p ∧ p.depth ≤ k := by
  have scal : ∀ (k : Nat) (d : D) (p : PyData) (v : V), (match d with | .tup _ => false | .ref _ => false | _ => true) = true → pyD k S d = some p → RV K H m d v → Dx K H v p ∧ p.depth ≤ k := by
    intro k d p v hd e q
    cases d with
    | non => cases q; simp only [pyD] at e; cases e; exact ⟨.non, by simp [PyData.depth]⟩
    | bl b => cases q; simp only [pyD] at e; cases e; exact ⟨.bl b, by simp [PyData.depth]⟩
    | int i => cases q; simp only [pyD] at e; cases e; exact ⟨.int i, by simp [PyData.depth]⟩
    | str s =>
      cases q; simp only [pyD] at e
      split at e
      · rename_i h; cases e; exact ⟨.str s, by simp [PyData.depth]⟩
      · cases e
    | tup _ => cases hd
    | ref _ => cases hd
  intro k
  induction k with
  | zero =>
    intro d p v e q
    cases d with
    | tup _ => simp [pyD] at e
    | ref _ => simp [pyD] at e
    | _ => exact scal 0 _ p v rfl e q
  | succ k ih =>
    have all : ∀ (xs : List D) (ps : List PyData) (vs : List V), optAll (xs.map (pyD k S)) = some ps → RVs K H m xs vs → DxAll K H vs ps ∧ PyData.depthAll ps ≤ k := by
      intro xs
      induction xs with
      | nil => intro ps vs e q; cases q; cases e; exact ⟨.nil, by simp [PyData.depthAll]⟩
      | cons x xs ihx =>
        intro ps vs e q
        cases q with
        | cons q1 q2 =>
          rw [List.map_cons] at e
          cases hx : pyD k S x with
          | none => rw [hx] at e; cases e
          | some p =>
            rw [hx, optAll] at e
            cases hr : optAll (xs.map (pyD k S)) with
            | none => rw [hr] at e; cases e
            | some rs =>
              rw [hr] at e; cases e
              obtain ⟨a1, a3⟩ := ih x p _ hx q1
              obtain ⟨b1, b3⟩ := ihx rs _ hr q2
              exact ⟨.cons a1 b1, by simp [PyData.depthAll]; omega⟩
    intro d p v e q
    cases d with
    | tup xs =>
      cases q with
      | tup hs hr =>
        simp only [pyD] at e
        cases hx : optAll (xs.map (pyD k S)) with
        | none => rw [hx] at e; cases e
        | some ps =>
          rw [hx] at e; cases e
          obtain ⟨a1, a3⟩ := all xs ps _ hx hr
          exact ⟨.tup hs a1, by simp [PyData.depth]; omega⟩
    | ref n =>
      cases q with
      | ref ea =>
        simp only [pyD] at e
        split at e
        · rename_i hS
          cases e
          obtain ⟨vs, q1, q2⟩ := r.obj n _ _ ea hS
          cases q2
          exact ⟨.dct q1, by simp [PyData.depth, PyData.depthKv]⟩
        · cases hi : itemsAt S n with
          | none => rw [hi] at e; cases e
          | some xs =>
            rw [hi] at e
            simp only [Option.bind_some] at e
            cases hx : optAll (xs.map (pyD k S)) with
            | none => rw [hx] at e; cases e
            | some ps =>
              rw [hx] at e; cases e
              obtain ⟨vs, hs, hr⟩ := r.items ea hi
              obtain ⟨a1, a3⟩ := all xs ps _ hx hr
              exact ⟨.lst hs a1, by simp [PyData.depth]; omega⟩
    | _ => exact scal (k + 1) _ p v rfl e q
theorem dp_of (r : RS K H m S) (k : Nat) (d : D) (p : PyData) (v : V) (h : pyD k S d = some p) (q : RV K H m d v) (c : p.canLay0 = true) : Dp K H v p ∧ p.canLay0 = true ∧ p.depth ≤ k := by
  obtain ⟨a, b⟩ := dx_of r k d p v h q
  exact ⟨a.dp c, c, b⟩
theorem shaped_of {k : Nat} {p : PyData} (h1 : p.canLay0 = true) (h2 : p.depth ≤ k) (hk : k ≤ 64 := by decide) : SeqAt.shaped p = true := by
  unfold SeqAt.shaped
  rw [h1, Bool.true_and]
  exact decide_eq_true (by omega)
/-- a new tuple, a new list -/
theorem pv_newT (r : RS K H m S) {xs : List D} {vs : List V} (q : RVs K H m xs vs) {p : Addr} (h : H p = none) : PV K m H S (.tup xs) (.ref p) (upd H p (.tup vs)) :=
  ⟨m, List.prefix_refl m, TK.new h, r.tup h, .tup (SqT.of upd_same) (q.mono (TK.new h) (List.prefix_refl m))⟩
theorem pv_newL (r : RS K H m S) {xs : List D} {vs : List V} (q : RVs K H m xs vs) {p : Addr} (h : H p = none) : PV K m H (S ++ [.lst xs]) (.ref S.length) (.ref p) (upd H p (.lst vs)) :=
  ⟨m ++ [p], List.prefix_append _ _, TK.new h, r.new h ⟨vs, upd_same, q.mono (TK.new h) (List.prefix_append _ _)⟩, .ref (by rw [← r.len, List.getElem?_append_right (Nat.le_refl _)]; simp)⟩
end

section
variable {X : Cx} {k : Nat}
theorem RVs.rep {K : PySem.W.Frag} {H : Hp} {m : List Addr} {ds : List D} {vs : List V} (h : RVs K H m ds vs) : ∀ k : Nat, RVs K H m (List.replicate k ds).flatten (List.replicate k vs).flatten
  | 0 => .nil
  | k + 1 => by
    rw [List.replicate_succ, List.replicate_succ, List.flatten_cons, List.flatten_cons]
    exact h.append (RVs.rep h k)
theorem so_bin (op : Operator) : SO X (binaryOp op) (fun S x y => binD S op x y) := by
  intro S x y d S' e m H vx vy r qx qy
  replace e : binD S op x y = some (d, S') := e
  unfold binD at e
  split at e
  · cases e; cases qx; cases qy
    exact WO.of op_add ⟨_, _, rfl, rfl, .here r (.int _)⟩
  · split at e
    · cases e; cases qx; cases qy
      exact WO.of op_add_str ⟨_, _, rfl, rfl, le_size (by assumption), .here r (.str _)⟩
    · cases e
  · unfold newT at e
    split at e
    · rename_i hz
      cases e
      cases qx with
      | @tup a vs xs hs hr =>
        cases qy with
        | @tup b us ys hs' hr' =>
          refine WO.of op_catA ⟨a, b, vs, us, rfl, rfl, hs, hs', ?_, fun z => ?_, fun _ z => ?_, fun _ _ p hp => ?_⟩
          · rw [← hr.length, ← hr'.length, ← List.length_append]; exact le_size hz
          · subst z; cases hr; exact .here r (.tup hs' hr')
          · subst z; cases hr'; rw [List.append_nil]; exact .here r (.tup hs hr)
          · exact pv_newT r (hr.append hr') hp
    · cases e
  · split at e
    · rename_i x1 x2 n1 n2 xs ys h1 h2
      unfold newL at e
      split at e
      · rename_i hz
        cases e
        cases qx with
        | @ref _ a ea =>
          cases qy with
          | @ref _ b eb =>
            obtain ⟨vs, hv, hr⟩ := r.obj _ a _ ea h1
            obtain ⟨us, hu, hr'⟩ := r.obj _ b _ eb h2
            refine WO.of op_cat ⟨a, b, vs, us, rfl, rfl, hv, hu, ?_, fun p hp => ?_⟩
            · rw [← hr.length, ← hr'.length, ← List.length_append]; exact le_size hz
            · exact pv_newL r (hr.append hr') hp
      · cases e
    · cases e
  · cases e; cases qx; cases qy
    exact WO.of op_sub ⟨_, _, rfl, rfl, .here r (.int _)⟩
  · split at e
    · rename_i hz
      cases e; cases qx; cases qy
      exact WO.of op_mul ⟨_, _, rfl, rfl, hz, .here r (.int _)⟩
    · cases e
  · split at e
    · rename_i xs j hz
      unfold newT at e
      split at e
      · cases e
        cases qx with
        | @tup a vs _ hs hr =>
          cases qy
          refine WO.of op_mulT ⟨a, j, vs, rfl, rfl, hs, hz.1, hz.2.1, by rw [← hr.length]; exact hz.2.2, fun z => ?_, fun _ p hp => ?_⟩
          · have hx : xs = [] ∨ j = 1 := by
              rcases z with z | z
              · left; subst z; cases hr; rfl
              · exact .inr z
            rw [flat_one hx]
            exact .here r (.tup hs hr)
          · exact pv_newT r (hr.rep j.toNat) hp
      · cases e
    · cases e
  · split at e
    · rename_i hz
      cases e; cases qx; cases qy
      exact WO.of op_fdiv ⟨_, _, rfl, rfl, hz, .here r (.int _)⟩
    · cases e
  · split at e
    · rename_i hz
      cases e; cases qx; cases qy
      exact WO.of op_mod ⟨_, _, rfl, rfl, hz, .here r (.int _)⟩
    · cases e
  · split at e
    · rename_i hz
      cases e; cases qx; cases qy
      exact WO.of op_pow ⟨_, _, rfl, rfl, hz, .here r (.int _)⟩
    · cases e
  · cases e

/-- a comparison's answer -/
def SC (X : Cx) (op : CmpOp) (g : Sto → D → D → Option Bool) : Prop := ∀ S x y k, g S x y = some k → ∀ m H vx vy, RS X.K H m S → RV X.K H m x vx → RV X.K H m y vy → ∀ Q : VK, Q (.bl k) H → WO X (compareOp op) vx vy H Q
theorem SC.so {op : CmpOp} {g : Sto → D → D → Option Bool} (h : SC X op g) : SO X (compareOp op) (fun S x y => (g S x y).map fun k => (.bl k, S)) := by
  intro S x y d S' e m H vx vy r qx qy
  replace e : (g S x y).map (fun k => (D.bl k, S)) = some (d, S') := e
  cases hg : g S x y with
  | none => rw [hg] at e; cases e
  | some k => rw [hg] at e; cases e; exact h S x y k hg m H vx vy r qx qy _ (.here r (.bl k))
theorem opt_not {o : Option Bool} {k : Bool} (h : o.map (!·) = some k) : o = some (!k) := by
  cases o with
  | none => cases h
  | some b => cases h; simp
theorem units64 {n : Nat} {A : Around} (hr : Room n A) : A.units + 66 < cLine := by have := hr.un; omega
theorem op_eqX (hr : Room k X.A) : OpR X (compareOp .Eq) (fun x y H Q => ∃ d e, Dx X.K H x d ∧ Dx X.K H y e ∧ (d.canLay0 = true ∨ e.canLay0 = true) ∧ d.depth ≤ 60 ∧ Q (.bl (PyData.eqv d e)) H) := by
  intro pins s σ H x y v u Q I rx ry h
  obtain ⟨d, e, hx, hy, hc, hd, q⟩ := h
  obtain ⟨as, r1⟩ := hx.reads I rx
  obtain ⟨bs, r2⟩ := hy.reads I ry
  have := units64 hr
  exact SeqAt.rcX d e X.A s v u as bs r1 r2 hc (by omega) X.prog X.w _ _ ⟨.bl _, H, I, rfl, q⟩
theorem op_neX (hr : Room k X.A) : OpR X (compareOp .NotEq) (fun x y H Q => ∃ d e, Dx X.K H x d ∧ Dx X.K H y e ∧ (d.canLay0 = true ∨ e.canLay0 = true) ∧ d.depth ≤ 60 ∧ Q (.bl (!PyData.eqv d e)) H) := by
  intro pins s σ H x y v u Q I rx ry h
  obtain ⟨d, e, hx, hy, hc, hd, q⟩ := h
  obtain ⟨as, r1⟩ := hx.reads I rx
  obtain ⟨bs, r2⟩ := hy.reads I ry
  have := units64 hr
  exact SeqAt.rcNeX d e X.A s v u as bs r1 r2 hc (by omega) X.prog X.w _ _ ⟨.bl _, H, I, rfl, q⟩
theorem sc_eq (hr : Room k X.A) : SC X .Eq eqD := by
  intro S x y b e m H vx vy r qx qy Q q
  unfold eqD at e
  split at e
  · rename_i p1 p2 h1 h2
    split at e
    · rename_i hc
      cases e
      obtain ⟨a1, a3⟩ := dx_of r 60 x p1 vx h1 qx
      obtain ⟨b1, b3⟩ := dx_of r 60 y p2 vy h2 qy
      exact WO.of (op_eqX hr) ⟨p1, p2, a1, b1, by simpa using hc, a3, q⟩
    · cases e
  · cases e
theorem sc_ne (hr : Room k X.A) : SC X .NotEq (fun S x y => (eqD S x y).map (!·)) := by
  intro S x y b e m H vx vy r qx qy Q q
  replace e := opt_not e
  unfold eqD at e
  split at e
  · rename_i p1 p2 h1 h2
    split at e
    · rename_i hc
      have e := Option.some.inj e
      obtain ⟨a1, a3⟩ := dx_of r 60 x p1 vx h1 qx
      obtain ⟨b1, b3⟩ := dx_of r 60 y p2 vy h2 qy
      refine WO.of (op_neX hr) ⟨p1, p2, a1, b1, by simpa using hc, a3, ?_⟩
      rw [e, Bool.not_not]; exact q
    · cases e
  · cases e
/-- a < b of data that are alike -/
theorem op_ltD (hr : Room k X.A) : OpR X (compareOp .Lt) (fun x y H Q => ∃ d e, Dp X.K H x d ∧ Dp X.K H y e ∧ d ≠ .none ∧ d.depth ≤ 60 ∧ PySem.W.alike d e = true ∧ Q (.bl (PySem.W.dataLt d e)) H) := by
  intro pins s σ H x y v u Q I rx ry h
  obtain ⟨d, e, hx, hy, hn, hd, ha, q⟩ := h
  obtain ⟨as, r1⟩ := Dp.reads I d x v hx rx
  obtain ⟨bs, r2⟩ := Dp.reads I e y u hy ry
  have := units64 hr
  have z := PySem.W.rcLt_alike d e X.A s v u as bs r1 r2 ha hn (by have := Nat.min_le_left d.depth e.depth; omega)
  exact z X.prog X.w _ _ ⟨.bl _, H, I, rfl, q⟩
theorem sc_lt (hr : Room k X.A) : SC X .Lt ltD := by
  intro S x y b e m H vx vy r qx qy Q q
  unfold ltD at e
  split at e
  · cases e; cases qx; cases qy
    exact WO.of op_lt ⟨_, _, rfl, rfl, q⟩
  · split at e
    · rename_i p1 p2 h1 h2
      split at e
      · rename_i hal
        cases e
        obtain ⟨a1, a2, a3⟩ := dp_of r 60 x p1 vx h1 qx hal.2.2.1
        obtain ⟨b1, b2, b3⟩ := dp_of r 60 y p2 vy h2 qy hal.2.2.2
        exact WO.of (op_ltD hr) ⟨p1, p2, a1, b1, hal.2.1, a3, hal.1, q⟩
      · cases e
    · cases e
theorem op_inLX (hr : Room k X.A) : OpR X (compareOp .In) (fun x y H Q => ∃ d ds, Dx X.K H x d ∧ Dx X.K H y (.list ds) ∧ PyData.canLayAll0 ds = true ∧ PyData.depthAll ds ≤ 60 ∧ Q (.bl (ds.any fun z => PyData.eqv z d)) H) := by
  intro pins s σ H x y v u Q I rx ry h
  obtain ⟨d, ds, hd, he, hc, hl, q⟩ := h
  obtain ⟨as, r1⟩ := hd.reads I rx
  obtain ⟨bs, r2⟩ := he.reads I ry
  have := units64 hr
  exact SeqAt.in_listX r2 r1 hc (by omega) ⟨.bl _, H, I, rfl, q⟩
theorem op_inTX (hr : Room k X.A) : OpR X (compareOp .In) (fun x y H Q => ∃ d ds, Dx X.K H x d ∧ Dx X.K H y (.tuple ds) ∧ PyData.canLayAll0 ds = true ∧ PyData.depthAll ds ≤ 60 ∧ Q (.bl (ds.any fun z => PyData.eqv z d)) H) := by
  intro pins s σ H x y v u Q I rx ry h
  obtain ⟨d, ds, hd, he, hc, hl, q⟩ := h
  obtain ⟨as, r1⟩ := hd.reads I rx
  obtain ⟨bs, r2⟩ := he.reads I ry
  have := units64 hr
  exact SeqAt.in_tupleX r2 r1 hc (by omega) ⟨.bl _, H, I, rfl, q⟩
theorem op_notInLX (hr : Room k X.A) : OpR X (compareOp .NotIn) (fun x y H Q => ∃ d ds, Dx X.K H x d ∧ Dx X.K H y (.list ds) ∧ PyData.canLayAll0 ds = true ∧ PyData.depthAll ds ≤ 60 ∧ Q (.bl (!ds.any fun z => PyData.eqv z d)) H) := by
  intro pins s σ H x y v u Q I rx ry h
  obtain ⟨d, ds, hd, he, hc, hl, q⟩ := h
  obtain ⟨as, r1⟩ := hd.reads I rx
  obtain ⟨bs, r2⟩ := he.reads I ry
  have := units64 hr
  exact SeqAt.notIn_listX r2 r1 hc (by omega) ⟨.bl _, H, I, rfl, q⟩
theorem op_notInTX (hr : Room k X.A) : OpR X (compareOp .NotIn) (fun x y H Q => ∃ d ds, Dx X.K H x d ∧ Dx X.K H y (.tuple ds) ∧ PyData.canLayAll0 ds = true ∧ PyData.depthAll ds ≤ 60 ∧ Q (.bl (!ds.any fun z => PyData.eqv z d)) H) := by
  intro pins s σ H x y v u Q I rx ry h
  obtain ⟨d, ds, hd, he, hc, hl, q⟩ := h
  obtain ⟨as, r1⟩ := hd.reads I rx
  obtain ⟨bs, r2⟩ := he.reads I ry
  have := units64 hr
  exact SeqAt.notIn_tupleX r2 r1 hc (by omega) ⟨.bl _, H, I, rfl, q⟩
theorem sign_of {x : Str} {c : Nat} (h : x.cps.toList = [c]) : x = ⟨#[c]⟩ := by
  obtain ⟨⟨l⟩⟩ := x
  simp at h
  subst h
  rfl
theorem sc_in (hr : Room k X.A) : SC X .In inD := by
  intro S x y b e m H vx vy r qx qy Q q
  unfold inD at e
  split at e
  · split at e
    · rename_i hc
      cases e; cases qx; cases qy
      exact WO.of op_in_sign ⟨_, _, by rw [sign_of hc], rfl, q⟩
    · cases e
  · split at e
    · rename_i p ps h1 h2
      split at e
      · rename_i hc
        cases e
        obtain ⟨a1, a3⟩ := dx_of r 60 x p vx h1 qx
        obtain ⟨b1, b3⟩ := dx_of r 60 y _ vy h2 qy
        exact WO.of (op_inLX hr) ⟨p, ps, a1, b1, hc, by simp [PyData.depth] at b3; omega, q⟩
      · cases e
    · rename_i p ps h1 h2
      split at e
      · rename_i hc
        cases e
        obtain ⟨a1, a3⟩ := dx_of r 60 x p vx h1 qx
        obtain ⟨b1, b3⟩ := dx_of r 60 y _ vy h2 qy
        exact WO.of (op_inTX hr) ⟨p, ps, a1, b1, hc, by simp [PyData.depth] at b3; omega, q⟩
      · cases e
    · cases e
theorem sc_notIn (hr : Room k X.A) : SC X .NotIn (fun S x y => (inD S x y).map (!·)) := by
  intro S x y b e m H vx vy r qx qy Q q
  replace e := opt_not e
  unfold inD at e
  split at e
  · split at e
    · rename_i hc
      have e := Option.some.inj e
      cases qx; cases qy
      refine WO.of op_notIn_sign ⟨_, _, by rw [sign_of hc], rfl, ?_⟩
      rw [e, Bool.not_not]; exact q
    · cases e
  · split at e
    · rename_i p ps h1 h2
      split at e
      · rename_i hc
        have e := Option.some.inj e
        obtain ⟨a1, a3⟩ := dx_of r 60 x p vx h1 qx
        obtain ⟨b1, b3⟩ := dx_of r 60 y _ vy h2 qy
        refine WO.of (op_notInLX hr) ⟨p, ps, a1, b1, hc, by simp [PyData.depth] at b3; omega, ?_⟩
        rw [e, Bool.not_not]; exact q
      · cases e
    · rename_i p ps h1 h2
      split at e
      · rename_i hc
        have e := Option.some.inj e
        obtain ⟨a1, a3⟩ := dx_of r 60 x p vx h1 qx
        obtain ⟨b1, b3⟩ := dx_of r 60 y _ vy h2 qy
        refine WO.of (op_notInTX hr) ⟨p, ps, a1, b1, hc, by simp [PyData.depth] at b3; omega, ?_⟩
        rw [e, Bool.not_not]; exact q
      · cases e
    · cases e
theorem sc_is : SC X .Is (fun _ x y => isD x y) := by
  intro S x y b e m H vx vy r qx qy Q q
  replace e : isD x y = some b := e
  unfold isD at e
  split at e
  · have e := Option.some.inj e
    cases qy
    refine WO.of op_isN ⟨rfl, ?_⟩
    cases qx <;> (subst e; exact q)
  · cases e; cases qx; cases qy
    exact WO.of op_isBl ⟨_, _, rfl, rfl, q⟩
  · cases e
theorem sc_isNot : SC X .IsNot (fun _ x y => (isD x y).map (!·)) := by
  intro S x y b e m H vx vy r qx qy Q q
  replace e := opt_not e
  unfold isD at e
  split at e
  · have e := Option.some.inj e
    have e2 : b = !!b := by simp
    rw [← e] at e2
    cases qy
    refine WO.of op_notN ⟨rfl, ?_⟩
    cases qx <;> (subst e2; exact q)
  · have e := Option.some.inj e
    cases qx; cases qy
    refine WO.of op_notBl ⟨_, _, rfl, rfl, ?_⟩
    rw [e, Bool.not_not]; exact q
  · cases e
theorem sc_cmp (hr : Room k X.A) (op : CmpOp) : SC X op (fun S x y => cmpD S op x y) := by
  intro S x y b e m H vx vy r qx qy Q q
  replace e : cmpD S op x y = some b := e
  unfold cmpD at e
  split at e
  · exact sc_eq hr S x y b e m H vx vy r qx qy Q q
  · exact sc_ne hr S x y b e m H vx vy r qx qy Q q
  · exact sc_lt hr S x y b e m H vx vy r qx qy Q q
  · cases e; cases qx; cases qy; exact WO.of op_gt ⟨_, _, rfl, rfl, q⟩
  · cases e; cases qx; cases qy; exact WO.of op_le ⟨_, _, rfl, rfl, q⟩
  · cases e; cases qx; cases qy; exact WO.of op_ge ⟨_, _, rfl, rfl, q⟩
  · exact sc_is S x y b e m H vx vy r qx qy Q q
  · exact sc_isNot S x y b e m H vx vy r qx qy Q q
  · exact sc_in hr S x y b e m H vx vy r qx qy Q q
  · exact sc_notIn hr S x y b e m H vx vy r qx qy Q q
  · cases e
theorem so_cmp (hr : Room k X.A) (op : CmpOp) : SO X (compareOp op) (fun S x y => (cmpD S op x y).map fun k => (.bl k, S)) := (sc_cmp hr op).so
end
end Ev
end
section
set_option Elab.async false
set_option linter.all false
set_option maxRecDepth 100000
set_option maxHeartbeats 4000000
/-! Calls of built-ins, methods, subscripts, slices. -/
namespace Ev
open PySem PySem.Spec PyProof.Rows L2

section
variable {X : Cx} {k : Nat}
def WC (X : Cx) (f : Value) (xs : List V) (H : Hp) (Q : VK) : Prop := ∀ (pins : List (Addr × Obj)) (s : Shared) (σ : L2.St) (us : List Value), Inv X pins σ H s → Vals xs us → wpAny (model X.prog X.w) X.A (call f us) (EP X pins σ Q) X.xe s
theorem cr_W (f : Value) : CallR X f (WC X f) := fun pins s σ H xs us Q I r h => h pins s σ us I r
theorem WC.of {f : Value} {r : List V → Hp → VK → Prop} {xs : List V} {H : Hp} {Q : VK} (h : CallR X f r) (q : r xs H Q) : WC X f xs H Q := fun pins s σ us I rv => h pins s σ H xs us Q I rv q
theorem WC.mono {f : Value} {xs : List V} {H : Hp} {Q Q' : VK} (h : WC X f xs H Q) (z : ∀ v H', Q v H' → Q' v H') : WC X f xs H Q' := fun pins s σ us I rv =>
  thn (h pins s σ us I rv) fun u s' ⟨v, H', I', r, q⟩ => ⟨v, H', I', r, z v H' q⟩
/-- a built-in of one argument does as g does -/
def SB (X : Cx) (f : Value) (g : Sto → D → R D) : Prop := ∀ S x d S', g S x = some (d, S') → ∀ m H vx, RS X.K H m S → RV X.K H m x vx → WC X f [vx] H (PV X.K m H S' d)
def SB2 (X : Cx) (f : Value) (g : Sto → D → D → R D) : Prop := ∀ S x y d S', g S x y = some (d, S') → ∀ m H vx vy, RS X.K H m S → RV X.K H m x vx → RV X.K H m y vy → WC X f [vx, vy] H (PV X.K m H S' d)

theorem seq_sq {K : PySem.W.Frag} {H : Hp} {m : List Addr} {S : Sto} (r : RS K H m S) {d : D} {v : V} {xs : List D} (q : RV K H m d v) (h : seqD S d = some xs) : ∃ a vs, v = .ref a ∧ (SqL K H a vs ∨ SqT K H a vs) ∧ RVs K H m xs vs := by
  cases q with
  | @tup a vs ds hs hr => cases h; exact ⟨a, vs, rfl, .inr hs, hr⟩
  | @ref n a e =>
    obtain ⟨vs, h1, h2⟩ := r.items e h
    exact ⟨a, vs, rfl, .inl h1, h2⟩
  | _ => cases h
theorem sb_len : SB X (.builtin "len") (fun S x => b1D S .len x) := by
  intro S x d S' e m H vx r q
  replace e : (lenD S x).map (fun n => (D.int n, S)) = some (d, S') := e
  cases hl : lenD S x with
  | none => rw [hl] at e; cases e
  | some n =>
    rw [hl] at e; cases e
    refine WC.of call_len ⟨vx, n, rfl, ?_, .here r (.int _)⟩
    cases q with
    | str s =>
      simp only [lenD] at hl
      split at hl
      · cases hl; exact ⟨le_size (by assumption), rfl⟩
      · cases hl
    | @tup a vs ds hs hr => cases hl; exact .inr ⟨vs, hs, hr.length⟩
    | @ref n a e =>
      simp only [lenD] at hl
      cases hi : itemsAt S n with
      | none => rw [hi] at hl; cases hl
      | some xs =>
        rw [hi] at hl; cases hl
        obtain ⟨vs, h1, h2⟩ := r.items e hi
        exact .inl ⟨vs, h1, h2.length⟩
    | _ => cases hl
theorem sb_tuple : SB X (.type "tuple") (fun S x => b1D S .tuple x) := by
  intro S x d S' e m H vx r q
  cases q with
  | @tup a vs ds hs hr =>
    cases (show some (D.tup ds, S) = some (d, S') from e)
    exact WC.of call_tuple_of ⟨a, vs, rfl, .inr ⟨hs, .here r (.tup hs hr)⟩⟩
  | @ref n a ea =>
    replace e : (itemsAt S n).map (fun xs => (D.tup xs, S)) = some (d, S') := e
    cases hi : itemsAt S n with
    | none => rw [hi] at e; cases e
    | some xs =>
      rw [hi] at e; cases e
      obtain ⟨vs, h1, h2⟩ := r.items ea hi
      exact WC.of call_tuple_of ⟨a, vs, rfl, .inl ⟨h1, fun l hl => pv_newT r h2 hl⟩⟩
  | _ => cases e
theorem key_rv {K : PySem.W.Frag} {H : Hp} {m : List Addr} : ∀ k : List Key, RVs K H m (k.map keyD) (k.map kV)
  | [] => .nil
  | .inl i :: r => .cons (.int i) (key_rv r)
  | .inr x :: r => .cons (.str x) (key_rv r)
theorem keys_rv {K : PySem.W.Frag} {H : Hp} {m : List Addr} : ∀ {kvs : List (List Key × D)} {vs : List (List Key × V)} {bs : List Addr}, RKs K H m kvs vs → IsKeys H vs bs → RVs K H m (kvs.map fun kv => .tup (kv.1.map keyD)) (bs.map V.ref)
  | _, _, _, .nil, .nil => .nil
  | _, _, _, .cons _ h, .cons q r => .cons (.tup (SqT.of q) (key_rv _)) (keys_rv h r)
theorem sb_list (hc : X.calm = true) : SB X (.type "list") (fun S x => b1D S .list x) := by
  intro S x d S' e m H vx r q
  replace e : (match keysAt S x with
    | some ks => newL S ks
    | none => (seqD S x).bind fun xs => newL S xs) = some (d, S') := by cases x <;> exact e
  cases hk : keysAt S x with
  | some ks =>
    rw [hk] at e
    replace e : newL S ks = some (d, S') := e
    unfold newL at e
    split at e
    · cases e
      cases q with
      | @ref n a ea =>
        unfold keysAt at hk
        simp only at hk
        split at hk
        · rename_i kvs hS
          cases hk
          obtain ⟨vs, h1, h2⟩ := r.obj n a _ ea hS
          refine WC.of (call_list_dT hc) ⟨a, vs, rfl, Rd.of h1, fun p bs hp hb => pv_newL r ?_ hp⟩
          exact keys_rv h2 hb
        · cases hk
      | _ => cases hk
    · cases e
  | none =>
  rw [hk] at e
  replace e : (seqD S x).bind (fun xs => newL S xs) = some (d, S') := e
  cases hi : seqD S x with
  | none => rw [hi] at e; cases e
  | some xs =>
    rw [hi] at e
    replace e : newL S xs = some (d, S') := e
    unfold newL at e
    split at e
    · cases e
      obtain ⟨a, vs, rfl, h1, h2⟩ := seq_sq r q hi
      exact WC.of call_list_of ⟨a, vs, rfl, h1, fun l hl => pv_newL r h2 hl⟩
    · cases e
theorem bls_of {K : PySem.W.Frag} {H : Hp} {m : List Addr} : ∀ {xs : List D} {vs : List V} {bs : List Bool}, RVs K H m xs vs → boolsOf xs = some bs → vs = bs.map V.bl
  | [], _, _, h, e => by cases h; cases e; rfl
  | .bl b :: xs, _, _, .cons h1 h2, e => by
    cases h1
    simp only [boolsOf] at e
    cases hb : boolsOf xs with
    | none => rw [hb] at e; cases e
    | some cs => rw [hb] at e; cases e; rw [bls_of h2 hb]; rfl
  | .non :: xs, _, _, _, e => by cases e
  | .int _ :: xs, _, _, _, e => by cases e
  | .str _ :: xs, _, _, _, e => by cases e
  | .tup _ :: xs, _, _, _, e => by cases e
  | .ref _ :: xs, _, _, _, e => by cases e
theorem sb_all (hc : X.calm = true) : SB X (.builtin "all") (fun S x => b1D S .all x) := by
  intro S x d S' e m H vx r q
  cases q with
  | @ref n a ea =>
    replace e : ((itemsAt S n).bind fun xs => (boolsOf xs).map fun bs => (D.bl (bs.all id), S)) = some (d, S') := e
    cases hi : itemsAt S n with
    | none => rw [hi] at e; cases e
    | some xs =>
      rw [hi] at e
      replace e : ((boolsOf xs).map fun bs => (D.bl (bs.all id), S)) = some (d, S') := e
      cases hb : boolsOf xs with
      | none => rw [hb] at e; cases e
      | some bs =>
        rw [hb] at e; cases e
        obtain ⟨vs, h1, h2⟩ := r.items ea hi
        rw [bls_of h2 hb] at h1
        exact WC.of (cr_all hc) ⟨a, bs, rfl, h1, .here r (.bl _)⟩
  | _ => cases e
theorem sb_int : SB X (.type "int") (fun S x => b1D S .int x) := by
  intro S x d S' e m H vx r q
  cases q with
  | int i => cases (show some (D.int i, S) = some (d, S') from e); exact WC.of call_int1 (.inl ⟨i, rfl, .here r (.int i)⟩)
  | bl b => cases (show some (D.int (if b then 1 else 0), S) = some (d, S') from e); exact WC.of call_int1 (.inr ⟨b, rfl, .here r (.int _)⟩)
  | _ => cases e
theorem sb_max (hc : X.calm = true) : SB2 X (.builtin "max") (fun S x y => b2D S .max x y) := by
  intro S x y d S' e m H vx vy r qx qy
  cases qx with
  | int i =>
    cases qy with
    | int j => cases (show some (D.int (if j > i then j else i), S) = some (d, S') from e); exact WC.of (call_max2 hc) ⟨i, j, rfl, .here r (.int _)⟩
    | _ => cases e
  | _ => cases e
theorem sb_min (hc : X.calm = true) : SB2 X (.builtin "min") (fun S x y => b2D S .min x y) := by
  intro S x y d S' e m H vx vy r qx qy
  cases qx with
  | int i =>
    cases qy with
    | int j => cases (show some (D.int (if j < i then j else i), S) = some (d, S') from e); exact WC.of (call_min2 hc) ⟨i, j, rfl, .here r (.int _)⟩
    | _ => cases e
  | _ => cases e
theorem sb_divmod : SB2 X (.builtin "divmod") (fun S x y => b2D S .divmod x y) := by
  intro S x y d S' e m H vx vy r qx qy
  cases qx with
  | int i =>
    cases qy with
    | int j =>
      simp only [b2D] at e
      split at e
      · rename_i hc
        cases e
        exact WC.of call_divmod ⟨i, j, rfl, hc, fun p hp => ⟨m, List.prefix_refl m, TK.new hp, r.tup hp, .tup (SqT.of upd_same) (.cons (.int _) (.cons (.int _) .nil))⟩⟩
      · cases e
    | _ => cases e
  | _ => cases e
end
end Ev
end
section
set_option Elab.async false
set_option linter.all false
set_option maxRecDepth 100000
set_option maxHeartbeats 4000000
/-! sorted, isinstance, methods. -/
namespace Ev
open PySem PySem.Spec PyProof.Rows L2

section
variable {X : Cx} {k : Nat}
theorem each_of {K : PySem.W.Frag} {H : Hp} {m : List Addr} : ∀ {xs : List D} {vs : List V} {its : List Value}, RVs K H m xs vs → Vals vs its → PySem.W.EachIs (fun u d => ∃ v, RelV v u ∧ RV K H m d v) its xs
  | _, _, _, .nil, .nil => .nil
  | _, _, _, .cons h1 h2, .cons r1 r2 => .cons ⟨_, r1, h1⟩ (each_of h2 r2)
theorem of_each {K : PySem.W.Frag} {H : Hp} {m : List Addr} : ∀ {xs : List D} {its : List Value}, PySem.W.EachIs (fun u d => ∃ v, RelV v u ∧ RV K H m d v) its xs → ∃ vs, Vals vs its ∧ RVs K H m xs vs
  | _, _, .nil => ⟨[], .nil, .nil⟩
  | _, _, .cons ⟨v, r, q⟩ t => by
    obtain ⟨vs, h1, h2⟩ := of_each t
    exact ⟨v :: vs, .cons r h1, .cons q h2⟩
theorem reads_of {pins : List (Addr × Obj)} {σ : L2.St} {H : Hp} {s : Shared} {m : List Addr} {S : Sto} (I : Inv X pins σ H s) (r : RS X.K H m S) : ∀ {xs : List D} {vs : List V} {its : List Value}, RVs X.K H m xs vs → Vals vs its → (∀ d ∈ xs, ∃ p, pyD 60 S d = some p ∧ p.canLay0 = true) →
    PySem.W.EachIs (fun u d => ∃ as, Reads s.heap u (pyT S d) as) its xs
  | _, _, _, .nil, .nil, _ => .nil
  | _, _, _, .cons (d := d) h1 h2, .cons r1 r2, h => by
    refine .cons ?_ (reads_of I r h2 r2 fun d hd => h d (by simp [hd]))
    obtain ⟨p, hp, hc⟩ := h d (by simp)
    have e : pyT S d = p := by unfold pyT; rw [hp]; rfl
    rw [e]
    exact Dp.reads I p _ _ (dp_of r 60 d p _ hp h1 hc).1 r1
theorem sortable_ok {ds : List PyData} (h : sortable ds = true) : PySem.W.Sortable ds := by
  unfold sortable at h
  rcases Bool.or_eq_true_iff.mp h with h | h
  · left
    intro d hd
    have := List.all_eq_true.mp h d hd
    split at this
    · exact ⟨_, _, rfl⟩
    · cases this
  · right
    intro d hd
    have := List.all_eq_true.mp h d hd
    split at this
    · cases this
    · cases this
    · rename_i h1 h2
      exact ⟨h1, h2⟩
theorem sb_sorted (hr : Room k X.A) : SB X (.builtin "sorted") (fun S x => b1D S .sorted x) := by
  intro S x d S' e m H vx r q
  cases q with
  | @ref n a ea =>
    replace e : ((itemsAt S n).bind fun xs => sortD S xs) = some (d, S') := e
    cases hi : itemsAt S n with
    | none => rw [hi] at e; cases e
    | some xs =>
      rw [hi] at e
      replace e : sortD S xs = some (d, S') := e
      unfold sortD at e
      split at e
      · rename_i hc
        obtain ⟨hlen, hall, hal, hso⟩ := hc
        have hall' : ∀ d ∈ xs, ∃ p, pyD 60 S d = some p ∧ p.canLay0 = true := fun d hd => by
          have z := List.all_eq_true.mp hall d hd
          cases hp : pyD 60 S d with
          | none => rw [hp] at z; cases z
          | some p => rw [hp] at z; exact ⟨p, rfl, z⟩
        unfold newL at e
        split at e
        · cases e
          obtain ⟨vs, h1, h2⟩ := r.items ea hi
          intro pins s σ us I rv
          obtain ⟨its, r1, pl, hz⟩ := I.list h1
          rw [Vals.ref1 rv]
          refine PySem.W.sorted_data (enc := pyT S) (bs := xs) pl.isList (each_of h2 r1) (reads_of I r h2 r1 hall') ?_ (sortable_ok hso) (le_size hlen) ?_ fun out ho hE => ?_
          · intro p hp q hq
            have z := List.all_eq_true.mp hal p hp
            exact List.all_eq_true.mp z q hq
          · intro b hb
            obtain ⟨p, hp, hcp⟩ := hall' b hb
            have eb : pyT S b = p := by unfold pyT; rw [hp]; rfl
            obtain ⟨v, hv, hv2⟩ : ∃ v, v ∈ vs ∧ RV X.K H m b v := by
              obtain ⟨i, hi', e1⟩ := List.mem_iff_getElem.mp hb
              obtain ⟨v, e2, q2⟩ := h2.get (i := i) (d := b) (by rw [List.getElem?_eq_getElem hi', e1])
              exact ⟨v, List.mem_iff_getElem?.mpr ⟨i, e2⟩, q2⟩
            have z := (dp_of r 60 b p v hp hv2 hcp).2.2
            rw [eb]
            have := units64 hr
            have := hr.un
            omega
          · obtain ⟨ws, w1, w2⟩ := of_each hE
            obtain ⟨ep, he'⟩ := PyProof.Rows.sortedAll_at s.heap its out.toArray
            have hl2 : ws.length ≤ sizeLine := by
              rw [← w2.length, List.length_mergeSort]; exact le_size hlen
            refine ⟨.ref _, upd H (s.heap.objs.size + 1) (.lst ws), I.laid (t' := s.toks) (fun _ _ => PyProof.Rows.sortedAll_old) (Nat.le_succ _) ⟨hl2, out, ep, w1, he'⟩, rfl, ?_⟩
            exact pv_newL r w2 (I.hok.fresh (Nat.le_succ _))
        · cases e
      · cases e
  | _ => cases e
/-! ### isinstance -/
def Ty.nm : Ty → String
  | .int => "int" | .bool => "bool" | .str => "str" | .tuple => "tuple" | .list => "list" | .dict => "dict"
theorem ty_tup {K : PySem.W.Frag} {H : Hp} {a : Addr} {vs : List V} (h : SqT K H a vs) : TyX K H (.ref a) (.type "tuple") := by
  rcases h with (h | ⟨o, h⟩) | ⟨o, its, n, h, c, _⟩
  · exact .base (.tup h)
  · exact .fTuple h
  · exact .kTuple h c
theorem isi_ok {K : PySem.W.Frag} {H : Hp} {m : List Addr} {S : Sto} (r : RS K H m S) {x : D} {vx : V} {t : Ty} {b : Bool} (q : RV K H m x vx) (e : isiD S x t = some b) : ∃ c : String, TyX K H vx (.type c) ∧ kitB c t.nm = some b := by
  cases q with
  | non => cases e; exact ⟨_, .base .non, by cases t <;> decide +kernel⟩
  | bl z => cases e; exact ⟨_, .base (.bl z), by cases t <;> decide +kernel⟩
  | int i => cases e; exact ⟨_, .base (.int i), by cases t <;> decide +kernel⟩
  | str s => cases e; exact ⟨_, .base (.str s), by cases t <;> decide +kernel⟩
  | tup hs hr => cases e; exact ⟨_, ty_tup hs, by cases t <;> decide +kernel⟩
  | @ref n a ea =>
    simp only [isiD] at e
    split at e
    · rename_i ds h
      obtain ⟨vs, q, _⟩ := r.obj n a _ ea h
      cases e; exact ⟨_, .base (.lst q), by cases t <;> decide +kernel⟩
    · rename_i ds h
      obtain ⟨o, vs, q, _⟩ := r.obj n a _ ea h
      cases e; exact ⟨_, .base (.frz q), by cases t <;> decide +kernel⟩
    · rename_i ds h
      obtain ⟨vs, q, _⟩ := r.obj n a _ ea h
      cases e; exact ⟨_, .base (.dT q), by cases t <;> decide +kernel⟩
    · cases e
end
section
variable {X : Cx} {pins : List (Addr × Obj)} {σ : L2.St} {H : Hp} {s : Shared}
/-! ### repr -/
/-- a value shows a datum; several show several -/
def Shw (X : Cx) (h : Heap) (d : PyData) (u : Value) : Prop := ∃ bs, ReadAtMost h d.depth bs ∧ ReprK X.prog X.w bs h d.depth u d.shown
def Shws (X : Cx) (h : Heap) (ds : List PyData) (us : List Value) : Prop := ∃ bs, ReadAtMost h (PyData.depthAll ds) bs ∧ ReprAllK X.prog X.w bs h (PyData.depthAll ds) us (PyData.shownAll ds)
theorem Shw.atom {X : Cx} {h : Heap} {d : PyData} {u : Value} (q : ReprK X.prog X.w [] h d.depth u d.shown) : Shw X h d u := ⟨[], nofun, q⟩
theorem Shws.nil {X : Cx} {h : Heap} : Shws X h [] [] := ⟨[], nofun, by rw [PyData.shownAll]; exact .nil⟩
theorem Shws.cons {X : Cx} {h : Heap} {d : PyData} {ds : List PyData} {u : Value} {us : List Value} : Shw X h d u → Shws X h ds us → Shws X h (d :: ds) (u :: us)
  | ⟨bs, r1, q1⟩, ⟨cs, r2, q2⟩ => by
    have e : PyData.depthAll (d :: ds) = max d.depth (PyData.depthAll ds) := by simp only [PyData.depthAll]
    refine ⟨bs ++ cs, e ▸ (r1.mono (Nat.le_max_left ..)).append (r2.mono (Nat.le_max_right ..)), ?_⟩
    rw [e, PyData.shownAll]
    exact .cons ((q1.more fun _ z => List.mem_append_left _ z).level_le (Nat.le_max_left ..)) (q2.more_le (fun _ z => List.mem_append_right _ z) (Nat.le_max_right ..))
theorem deeper {h : Heap} {a : Addr} {d : PyData} {as bs : List Addr} {n : Nat} (hd : d.depth = n + 1) (r : Reads h (.ref a) d as) (q : ReadAtMost h n bs) : a ∉ bs ∧ ReadAtMost h d.depth (a :: bs) :=
  ⟨not_mem_of_deeper r (by omega) q, ReadAtMost.cons r (by omega) q⟩
theorem Shws.list {X : Cx} {h : Heap} {ds : List PyData} {its : List Value} {a : Addr} {o : Obj} {n : Nat} {as : List Addr} (h1 : h.get? a = some o) (h2 : o.cls = .type "list") (h3 : o.data = .seq its.toArray n) (rs : ReadsAll h its ds as) : Shws X h ds its → Shw X h (.list ds) (.ref a)
  | ⟨bs, r, q⟩ => by
    obtain ⟨g1, g2⟩ := deeper (by rw [PyData.depth]) (.list h1 h2 h3 (by simpa using rs)) r
    refine ⟨a :: bs, g2, ?_⟩
    rw [PyData.depth, PyData.shown]
    cases its with
    | nil => cases rs; rw [PyData.shownAll, listText_nil]; exact .listEmpty h1 h2 h3
    | cons y l => exact .list h1 h2 h3 g1 (by simpa using q.length_eq) fun i z e => q.item i z (by simpa using e)
theorem Shws.tuple {X : Cx} {h : Heap} {ds : List PyData} {its : List Value} {a : Addr} {o : Obj} {n : Nat} {as : List Addr} (h1 : h.get? a = some o) (h2 : o.cls = .type "tuple") (h3 : o.data = .seq its.toArray n) (rs : ReadsAll h its ds as) : Shws X h ds its → Shw X h (.tuple ds) (.ref a)
  | ⟨bs, r, q⟩ => by
    obtain ⟨g1, g2⟩ := deeper (by rw [PyData.depth]) (.tuple h1 h2 h3 (by simpa using rs)) r
    refine ⟨a :: bs, g2, ?_⟩
    rw [PyData.depth, PyData.shown]
    exact .tuple h1 h2 h3 g1 (by simpa using q)
theorem short_all {t : Str} {ts : List Str} {f : List Str → Str} (le : ∀ {t}, t ∈ ts → t.length ≤ (f ts).length) (hz : (f ts).length ≤ sizeLine) : ∀ t ∈ ts, t.length ≤ sizeLine := fun _ ht => Nat.le_trans (le ht) hz
mutual
theorem Dx.repr (I : Inv X pins σ H s) : ∀ {v : V} {d : PyData} {u : Value}, Dx X.K H v d → RelV v u → d.showable = true → d.shown.length ≤ sizeLine → Shw X s.heap d u
  | _, _, _, .non, r, _, _ => by cases r; exact .atom (by rw [PyData.shown]; exact .of_is .none _ _ _)
  | _, _, _, .bl b, r, _, _ => by cases r; exact .atom (by rw [PyData.shown]; exact .of_is (.bool b) _ _ _)
  | _, _, _, .int i, r, hs, _ => by obtain ⟨t, rfl⟩ := r; exact .atom (by rw [PyData.shown]; exact .of_is (.int t (by simpa [PyData.showable] using hs)) _ _ _)
  | _, _, _, .str x, r, _, hz => by obtain ⟨t, rfl⟩ := r; rw [PyData.shown] at hz; exact .atom (by rw [PyData.shown]; exact .of_is (.str x t hz) _ _ _)
  | _, _, u, @Dx.lst _ _ a xs ds h q, r, hs, hz => by
    cases (show u = Value.ref a from r)
    rw [PyData.showable] at hs
    rw [PyData.shown] at hz
    obtain ⟨its, rv, p, _⟩ := I.list h
    obtain ⟨o, h1, h2, n, h3⟩ := p.isList
    obtain ⟨_, rs⟩ := DxAll.reads I q rv
    exact Shws.list h1 h2 h3 rs (DxAll.repr I q rv hs (short_all (t := Str.empty) listText_mem_le hz))
  | _, _, u, @Dx.tup _ _ a xs ds h q, r, hs, hz => by
    cases (show u = Value.ref a from r)
    rw [PyData.showable] at hs
    rw [PyData.shown] at hz
    obtain ⟨its, rv, ⟨o, h1, h2, n, h3⟩, _⟩ := I.tuple h
    obtain ⟨_, rs⟩ := DxAll.reads I q rv
    exact Shws.tuple h1 h2 h3 rs (DxAll.repr I q rv hs (short_all (t := Str.empty) tupleText_mem_le hz))
  | _, _, u, @Dx.dct _ _ a h, r, _, _ => by
    obtain ⟨as, rd⟩ := Dx.reads I (.dct h) r
    cases (show u = Value.ref a from r)
    obtain ⟨_, hsys, _, pr, o, es, ep, h1, h2, h3, h4, _⟩ := (show ObjOk X.prog X.w H s.heap a (.dT []) from I.hok a _ h)
    cases pr
    obtain ⟨g1, g2⟩ := deeper (n := 0) (bs := []) rfl rd nofun
    exact ⟨[a], g2, by rw [PyData.shown, PyData.shownKv]; exact .dict h1 h2.1 h3 hsys g1 (by rw [show es.toList = [] from h4]; exact .nil)⟩
theorem DxAll.repr (I : Inv X pins σ H s) : ∀ {v : List V} {d : List PyData} {u : List Value}, DxAll X.K H v d → Vals v u → PyData.showableAll d = true → (∀ t ∈ PyData.shownAll d, t.length ≤ sizeLine) → Shws X s.heap d u
  | _, _, _, .nil, r, _, _ => by cases r; exact .nil
  | _, _, _, .cons h q, .cons r1 r2, hs, hz => by
    rw [PyData.showableAll, Bool.and_eq_true] at hs
    rw [PyData.shownAll] at hz
    exact Shws.cons (Dx.repr I h r1 hs.1 (hz _ (List.mem_cons_self ..))) (DxAll.repr I q r2 hs.2 fun t ht => hz t (List.mem_cons_of_mem _ ht))
end
end
section
variable {X : Cx} {k : Nat}
theorem sb_repr (hr : Room k X.A) (hgd : X.A.guards = some []) : SB X (.builtin "repr") (fun S x => b1D S .repr x) := by
  intro S x d S' e m H vx r q
  simp only [b1D] at e
  split at e
  · rename_i p hp
    split at e
    · rename_i hz
      cases e
      obtain ⟨dx, hdep⟩ := dx_of r 60 x p vx hp q
      have hsz : p.shown.length ≤ sizeLine := Nat.le_trans hz.2 (by decide)
      have hu := units64 hr
      intro pins s σ us I rv
      cases dx with
      | non =>
        cases rv with
        | cons r1 r2 =>
          cases r2; cases r1
          refine P.repr_of_none ?_
          simp only [PyData.shown]
          exact ⟨.str "None", H, I.tok _, ⟨_, rfl⟩, .here r (.str _)⟩
      | bl b =>
        cases rv with
        | cons r1 r2 =>
          cases r2; cases r1
          refine P.repr_of_bool ?_
          simp only [PyData.shown]
          exact ⟨.str (if b = true then "True" else "False"), H, I.tok _, ⟨_, rfl⟩, .here r (.str _)⟩
      | int i =>
        cases rv with
        | cons r1 r2 =>
          cases r2; obtain ⟨t, rfl⟩ := r1
          refine P.repr_of_int (by simpa [PyData.showable] using hz.1) ?_
          simp only [PyData.shown]
          exact ⟨.str (toString i), H, I.tok _, ⟨_, rfl⟩, .here r (.str _)⟩
      | str x =>
        cases rv with
        | cons r1 r2 =>
          cases r2; obtain ⟨t, rfl⟩ := r1
          refine P.repr_of_str ?_ (by simpa only [PyData.shown] using hsz)
          simp only [PyData.shown]
          exact ⟨.str (reprText x), H, I.tok _, ⟨_, rfl⟩, .here r (.str _)⟩
      | @lst a xs ds h qq =>
        rw [Vals.ref1 rv]
        obtain ⟨its, rv', p, _⟩ := I.list h
        obtain ⟨as, rs⟩ := DxAll.reads I qq rv'
        obtain ⟨o, h1, h2, n, h3⟩ := p.isList
        have hz' : (listText (PyData.shownAll ds)).length ≤ sizeLine := by rw [PyData.shown] at hsz; exact hsz
        obtain ⟨bs, hb, hk⟩ := DxAll.repr I qq rv' (by simpa [PyData.showable] using hz.1) (short_all (t := Str.empty) listText_mem_le hz')
        have hna := (deeper (by rw [PyData.depth]) (.list h1 h2 h3 (by simpa using rs)) hb).1
        simp only [PyData.depth] at hdep
        cases its with
        | nil =>
          cases rs
          refine call_repr_slot (by omega) ⟨_, h1, h2⟩ F.slot_list_repr.toG (call_list_repr_empty ⟨o, h1, h2⟩ h1 h3 ?_)
          refine ⟨_, s.toks, rfl, .str (PyData.shown (.list [])), H, I.tok _, ⟨s.toks, ?_⟩, .here r (.str _)⟩
          simp only [PyData.shown, PyData.shownAll, listText_nil]
        | cons x l =>
          refine call_repr_slot (by omega) ⟨_, h1, h2⟩ F.slot_list_repr.toG (call_list_reprK h1 h2 h3 hna (by simpa using hk.length_eq) (fun i y e => hk.item i y (by simpa using e)) (g := []) hgd (fun b _ => Clear.nil b) (by show X.A.units + 1 + _ < cLine; omega) (fun _ _ e => e) (fun h' u tk hkeep => ?_) hz')
          refine ⟨_, u, rfl, .str (PyData.shown (.list ds)), H, I.un (Un.kept hkeep) (I.hok.kept hkeep), ⟨u, ?_⟩, .here r (.str _)⟩
          simp only [PyData.shown]
      | @tup a xs ds h qq =>
        rw [Vals.ref1 rv]
        obtain ⟨its, rv', p, _⟩ := I.tuple h
        obtain ⟨as, rs⟩ := DxAll.reads I qq rv'
        obtain ⟨o, h1, h2, n, h3⟩ := p
        have hz' : (tupleText (PyData.shownAll ds)).length ≤ sizeLine := by rw [PyData.shown] at hsz; exact hsz
        obtain ⟨bs, hb, hk⟩ := DxAll.repr I qq rv' (by simpa [PyData.showable] using hz.1) (short_all (t := Str.empty) tupleText_mem_le hz')
        have hna := (deeper (by rw [PyData.depth]) (.tuple h1 h2 h3 (by simpa using rs)) hb).1
        simp only [PyData.depth] at hdep
        refine call_repr_slot (by omega) ⟨_, h1, h2⟩ F.slot_tuple_repr (call_tuple_reprK h1 h2 h3 hna (by simpa using hk) (g := []) hgd (fun b _ => Clear.nil b) (by show X.A.units + 1 + _ < cLine; omega) (fun _ _ e => e) (fun h' u tk hkeep => ?_) hz')
        refine ⟨_, u, rfl, .str (PyData.shown (.tuple ds)), H, I.un (Un.kept hkeep) (I.hok.kept hkeep), ⟨u, ?_⟩, .here r (.str _)⟩
        simp only [PyData.shown]
      | @dct a h =>
        rw [Vals.ref1 rv]
        obtain ⟨_, hsys, xs, pr, o, es, ep, h1, h2, h3, h4, _⟩ := (show ObjOk X.prog X.w H s.heap a (.dT []) from I.hok a _ h)
        cases pr
        have he : es.toList = [] := h4
        have hz' : (dictText []).length ≤ sizeLine := by simpa only [PyData.shown, PyData.shownKv] using hsz
        refine call_repr_slot (by omega) ⟨_, h1, h2.1⟩ F.slot_dict_repr (call_dict_reprK (d := 0) (as := []) h1 h2.1 h3 hsys (by simp) (by rw [he]; exact .nil) (g := []) hgd (fun b _ => Clear.nil b) (by show X.A.units + 1 + _ < cLine; omega) (fun _ _ e => e) (fun h' u tk hkeep => ?_) hz')
        refine ⟨_, u, rfl, .str (PyData.shown (.dict [])), H, I.un (Un.kept hkeep) (I.hok.kept hkeep), ⟨u, ?_⟩, .here r (.str _)⟩
        simp only [PyData.shown, PyData.shownKv]
    · cases e
  · cases e
end
end Ev
end
section
set_option Elab.async false
set_option linter.all false
set_option maxRecDepth 100000
set_option maxHeartbeats 4000000
/-! Expressions, one construct after another. -/
namespace Ev
open PySem PySem.Spec PyProof.Rows L2

def isStar : Expr → Bool
  | .Starred _ _ => true
  | _ => false
theorem ns_of {e : Expr} (h : isStar e = false) (es : List Expr) (env : PySem.Env) : starEach (e :: es) env = (false, eval e env) :: starEach es env := by
  cases e <;> first | rfl | cases h
theorem ns_all : ∀ {es : List Expr} (pos : Pos) (env : PySem.Env), es.any isStar = false → (backTo pos (starEach es env)).any (·.1) = false
  | [], _, _, _ => rfl
  | e :: es, pos, env, h => by
    rw [List.any_cons, Bool.or_eq_false_iff] at h
    rw [ns_of h.1]
    have ih := ns_all (es := es) pos env h.2
    simp only [backTo, List.map_cons, List.any_cons, Bool.false_or]
    simpa only [backTo] using ih

section
variable {X : Cx} {k : Nat} {a b c : Expr} {pos : Pos} {fa fb fc : Env → Sto → R D}
theorem se_var {i : Nat} {x : Str} (hN : X.N[i]? = some x) (hv : Vis X.env.scope x) (hd : (x == ("__debug__" : Str)) = false) (hcd : (x == ("__classdict__" : Str)) = false) : SE X (.Name x pos) (fun ρ S => match ρ[i]? with
    | some (some d) => some (d, S)
    | _ => none) := by
  intro ρ S d S' e m σ H he hs
  refine WE.of (pe_var hN hv hd hcd) ?_
  cases hi : ρ[i]? with
  | none => simp only [hi] at e; cases e
  | some o =>
    cases o with
    | none => simp only [hi] at e; cases e
    | some d' =>
      simp only [hi] at e; cases e
      obtain ⟨v, e1, q⟩ := he.get i d hi
      exact ⟨v, e1, .here hs q⟩
theorem se_c {e : Expr} {d : D} {v : V} (h : PE X e (tC v)) (q : ∀ H m, RV X.K H m d v) : SE X e (fun _ S => some (d, S)) := by
  intro ρ S d' S' e m σ H he hs
  cases (show some (d, S) = some (d', S') from e)
  exact WE.of h (.here hs (q _ _))
theorem sa_nil : SA X [] (fun _ S => some ([], S)) := by
  intro ρ S d S' e m σ H he hs
  cases (show some (([] : List D), S) = some (d, S') from e)
  exact WA.of pa_nil ⟨m, List.prefix_refl m, TK.refl H, hs, .nil⟩
theorem sa_cons {es : List Expr} {fr : Env → Sto → R (List D)} (hst : isStar a = false) (ha : SE X a fa) (hr : SA X es fr) : SA X (a :: es) (fun ρ S => bnd (fa ρ S) fun d S1 => bnd (fr ρ S1) fun ds S2 => some (d :: ds, S2)) := by
  intro ρ S d S' e m σ H he hs
  obtain ⟨x, S1, e1, e⟩ := bnd_eq e
  obtain ⟨xs, S2, e2, e⟩ := bnd_eq e
  cases e
  refine WA.of (pa_cons (pe_W a) (pa_W es) (ns_of hst _ _)) ((ha ρ S x S1 e1 m σ H he hs).mono fun v H1 ⟨m1, p1, t1, r1, q1⟩ => ?_)
  refine (hr ρ S1 xs _ e2 m1 σ H1 (he.mono t1 p1) r1).mono fun vs H2 ⟨m2, p2, t2, r2, q2⟩ => ?_
  exact ⟨m2, p1.trans p2, t1.trans t2, r2, .cons (q1.mono t2 p2) q2⟩
theorem se_tup {es : List Expr} {n : Nat} {fs : Env → Sto → R (List D)} (ha : SA X es fs) : SE X (.Tuple es n pos) (fun ρ S => bnd (fs ρ S) fun ds S1 => newT S1 ds) := by
  intro ρ S d S' e m σ H he hs
  obtain ⟨xs, S1, e1, e⟩ := bnd_eq e
  unfold newT at e
  split at e
  · rename_i hz
    cases e
    refine WE.of (pe_tup (pa_W es)) ((ha ρ S xs _ e1 m σ H he hs).mono fun vs H1 ⟨m1, p1, t1, r1, q1⟩ => ⟨by rw [← q1.length]; exact le_size hz, fun p hp => (pv_newT r1 q1 hp).up p1 t1⟩)
  · cases e
theorem se_lst {es : List Expr} {fs : Env → Sto → R (List D)} (ha : SA X es fs) : SE X (.List es pos) (fun ρ S => bnd (fs ρ S) fun ds S1 => newL S1 ds) := by
  intro ρ S d S' e m σ H he hs
  obtain ⟨xs, S1, e1, e⟩ := bnd_eq e
  unfold newL at e
  split at e
  · rename_i hz
    cases e
    refine WE.of (pe_lst (pa_W es)) ((ha ρ S xs _ e1 m σ H he hs).mono fun vs H1 ⟨m1, p1, t1, r1, q1⟩ => ⟨by rw [← q1.length]; exact le_size hz, fun p hp => (pv_newL r1 q1 hp).up p1 t1⟩)
  · cases e
theorem se_neg (ha : SE X a fa) : SE X (.UnaryOp .USub a pos) (fun ρ S => bnd (fa ρ S) fun x S1 => match x with
    | .int i => some (.int (-i), S1)
    | _ => none) := by
  intro ρ S d S' e m σ H he hs
  obtain ⟨x, S1, e1, e⟩ := bnd_eq e
  refine WE.of (pe_un un_neg (pe_W a)) ((ha ρ S x S1 e1 m σ H he hs).mono fun v H1 ⟨m1, p1, t1, r1, q1⟩ => ?_)
  cases q1 with
  | int i => cases (show some (D.int (-i), S1) = some (d, S') from e); exact ⟨i, rfl, m1, p1, t1, r1, .int _⟩
  | _ => cases e
/-- two, then an operation -/
theorem se_two {e : Expr} {f : Value → Value → Sem Value} {g : Sto → D → D → R D} (hp : PE X e (tOp (WO X f) (WE X a) (WE X b))) (ha : SE X a fa) (hb : SE X b fb) (ho : SO X f g) : SE X e (fun ρ S => bnd (fa ρ S) fun x S1 => bnd (fb ρ S1) fun y S2 => g S2 x y) := fun ρ S d S' e m σ H he hs => by
  obtain ⟨x, S1, e1, e⟩ := bnd_eq e
  obtain ⟨y, S2, e2, e⟩ := bnd_eq e
  refine WE.of hp ((ha ρ S x S1 e1 m σ H he hs).mono fun v H1 ⟨m1, p1, t1, r1, q1⟩ => ?_)
  refine (hb ρ S1 y S2 e2 m1 σ H1 (he.mono t1 p1) r1).mono fun u H2 ⟨m2, p2, t2, r2, q2⟩ => ?_
  exact (ho S2 x y d S' e m2 H2 v u r2 (q1.mono t2 p2) q2).mono fun w H3 h => h.up (p1.trans p2) (t1.trans t2)
theorem se_cmp (hr : Room k X.A) {op : CmpOp} (hm : behindInMarks op b = false) (ha : SE X a fa) (hb : SE X b fb) : SE X (.Compare a [op] [b] pos) (fun ρ S => bnd (fa ρ S) fun x S1 => bnd (fb ρ S1) fun y S2 => (cmpD S2 op x y).map fun k => (.bl k, S2)) :=
  se_two (pe_cmpR (or_W _) (pe_W a) (pe_W b) hm) ha hb (so_cmp hr op)
theorem st_cmp (hr : Room k X.A) {op : CmpOp} (hm : behindInMarks op b = false) (ha : SE X a fa) (hb : SE X b fb) : ST X (.Compare a [op] [b] pos) (fun ρ S => bnd (fa ρ S) fun x S1 => bnd (fb ρ S1) fun y S2 => (cmpD S2 op x y).map fun k => (.bl k, S2)) := by
  intro ρ S d S' e z hz m σ H he hs
  obtain ⟨x, S1, e1, e⟩ := bnd_eq e
  obtain ⟨y, S2, e2, e⟩ := bnd_eq e
  refine WT.of (pt_cmpR (or_W _) (pe_W a) (pe_W b) hm) ((ha ρ S x S1 e1 m σ H he hs).mono fun v H1 ⟨m1, p1, t1, r1, q1⟩ => ?_)
  refine (hb ρ S1 y S2 e2 m1 σ H1 (he.mono t1 p1) r1).mono fun u H2 ⟨m2, p2, t2, r2, q2⟩ => ?_
  refine (so_cmp hr op S2 x y d S' e m2 H2 v u r2 (q1.mono t2 p2) q2).mono fun w H3 h => ?_
  obtain ⟨m3, p3, t3, r3, q3⟩ := h
  cases hc : cmpD S2 op x y with
  | none => rw [hc] at e; cases e
  | some b' =>
    rw [hc] at e; cases e
    cases q3
    cases hz
    exact ⟨z, rfl, rfl, m3, (p1.trans p2).trans p3, (t1.trans t2).trans t3, r3, trivial⟩
theorem chain_core (hr : Room k X.A) {op op' : CmpOp} (ha : SE X a fa) (hb : SE X b fb) (hc : SE X c fc) {ρ : Env} {S S' : Sto} {d : D} (e : (bnd (fa ρ S) fun x S1 => bnd (fb ρ S1) fun y S2 => match cmpD S2 op x y with
    | some true => bnd (fc ρ S2) fun z S3 => (cmpD S3 op' y z).map fun k => (D.bl k, S3)
    | some false => some (.bl false, S2)
    | none => none) = some (d, S')) {m : List Addr} {σ : L2.St} {H : Hp} (he : RE X.K H m ρ σ) (hs : RS X.K H m S) {Q : VK} (hQ : ∀ v H', (∃ q, d = .bl q) → PV X.K m H S' d v H' → Q v H') :
    tChain (WO X (compareOp op)) (WO X (compareOp op')) (WE X a) (WE X b) (WE X c) σ H Q := by
  obtain ⟨x, S1, e1, e⟩ := bnd_eq e
  obtain ⟨y, S2, e2, e⟩ := bnd_eq e
  refine (ha ρ S x S1 e1 m σ H he hs).mono fun v H1 ⟨m1, p1, t1, r1, q1⟩ => ?_
  refine (hb ρ S1 y S2 e2 m1 σ H1 (he.mono t1 p1) r1).mono fun u H2 ⟨m2, p2, t2, r2, q2⟩ => ?_
  cases h1 : cmpD S2 op x y with
  | none => rw [h1] at e; cases e
  | some b1 =>
    refine sc_cmp hr op S2 x y b1 h1 m2 H2 v u r2 (q1.mono t2 p2) q2 _ ⟨b1, rfl, ?_⟩
    rw [h1] at e
    cases b1 with
    | false => cases e; exact hQ _ _ ⟨false, rfl⟩ ⟨m2, p1.trans p2, t1.trans t2, r2, .bl _⟩
    | true =>
      obtain ⟨z, S3, e3, e⟩ := bnd_eq e
      show WE X c σ H2 _
      refine (hc ρ S2 z S3 e3 m2 σ H2 (he.mono (t1.trans t2) (p1.trans p2)) r2).mono fun w H3 ⟨m3, p3, t3, r3, q3⟩ => ?_
      refine (so_cmp hr op' S3 y z d S' e m3 H3 u w r3 (q2.mono t3 p3) q3).mono fun w' H4 h => hQ _ _ ?_ (h.up ((p1.trans p2).trans p3) ((t1.trans t2).trans t3))
      cases h2 : cmpD S3 op' y z with
      | none => rw [h2] at e; cases e
      | some b2 => rw [h2] at e; cases e; exact ⟨b2, rfl⟩
theorem se_chain (hr : Room k X.A) {op op' : CmpOp} (hm : lastMarks [op, op'] [b, c] = false) (ha : SE X a fa) (hb : SE X b fb) (hc : SE X c fc) : SE X (.Compare a [op, op'] [b, c] pos) (fun ρ S => bnd (fa ρ S) fun x S1 => bnd (fb ρ S1) fun y S2 => match cmpD S2 op x y with
    | some true => bnd (fc ρ S2) fun z S3 => (cmpD S3 op' y z).map fun k => (D.bl k, S3)
    | some false => some (.bl false, S2)
    | none => none) := fun ρ S d S' e m σ H he hs =>
  WE.of (pe_chain (or_W _) (or_W _) (pe_W a) (pe_W b) (pe_W c) hm) (chain_core hr ha hb hc e he hs fun v H' _ h => h)
theorem st_chain (hr : Room k X.A) {op op' : CmpOp} (hm : lastMarks [op, op'] [b, c] = false) (ha : SE X a fa) (hb : SE X b fb) (hc : SE X c fc) : ST X (.Compare a [op, op'] [b, c] pos) (fun ρ S => bnd (fa ρ S) fun x S1 => bnd (fb ρ S1) fun y S2 => match cmpD S2 op x y with
    | some true => bnd (fc ρ S2) fun z S3 => (cmpD S3 op' y z).map fun k => (D.bl k, S3)
    | some false => some (.bl false, S2)
    | none => none) := fun ρ S d S' e z hz m σ H he hs => by
  refine WT.of (pt_chain (or_W _) (or_W _) (pe_W a) (pe_W b) (pe_W c) hm) (chain_core hr ha hb hc e he hs fun v H' ⟨q, hq⟩ h => ?_)
  subst hq
  obtain ⟨m3, p3, t3, r3, q3⟩ := h
  cases q3
  cases hz
  exact ⟨z, rfl, rfl, m3, p3, t3, r3, trivial⟩
/-! ### and, or, not, if -/
def SW (X : Cx) (e : Expr) (f : Env → Sto → R D) : Prop := ∀ (whole : Sem Value) ρ S d S', f ρ S = some (d, S') → ∀ k, truthD S' d = some k → ∀ m σ H, RE X.K H m ρ σ → RS X.K H m S →
  ∀ (pins : List (Addr × Obj)) (s : Shared), Inv X pins σ H s → wpAny (model X.prog X.w) X.A (isTrue e X.env whole) (TP X pins σ (fun b H' => b = k ∧ PH X.K m H S' (fun _ _ => True) H')) X.xe s
theorem SW.st (h : SW X a fa) : ST X a fa := fun ρ S d S' e k hk m σ H he hs pins s I => h _ ρ S d S' e k hk m σ H he hs pins s I
theorem sw_one {op : BoolOp} (h : ST X a fa) : SW X (.BoolOp op [a] pos) fa := fun wh ρ S d S' e k hk m σ H he hs pins s I => by
  cases op with
  | And => exact (pw_and1 (pt_W a)).run wh pins s σ H _ I (h ρ S d S' e k hk m σ H he hs)
  | Or => exact (pw_or1 (pt_W a)).run wh pins s σ H _ I (h ρ S d S' e k hk m σ H he hs)
theorem se_one {op : BoolOp} (h : SE X a fa) : SE X (.BoolOp op [a] pos) fa := fun ρ S d S' e m σ H he hs => WE.of (pe_one (pe_W a)) (h ρ S d S' e m σ H he hs)
def fAnd (fa fb : Env → Sto → R D) : Env → Sto → R D := fun ρ S => bnd (fa ρ S) fun x S1 => match truthD S1 x with
  | some true => fb ρ S1
  | some false => some (x, S1)
  | none => none
def fOr (fa fb : Env → Sto → R D) : Env → Sto → R D := fun ρ S => bnd (fa ρ S) fun x S1 => match truthD S1 x with
  | some true => some (x, S1)
  | some false => fb ρ S1
  | none => none
variable {rest : List Expr}
theorem se_and (ha : SE X a fa) (hb : SE X (.BoolOp .And (b :: rest) pos) fb) : SE X (.BoolOp .And (a :: b :: rest) pos) (fAnd fa fb) := by
  intro ρ S d S' e m σ H he hs
  obtain ⟨x, S1, e1, e⟩ := bnd_eq e
  refine WE.of (pe_andT (pe_W a) (pe_W _)) ((ha ρ S x S1 e1 m σ H he hs).mono fun v H1 ⟨m1, p1, t1, r1, q1⟩ => ?_)
  cases hk : truthD S1 x with
  | none => simp only [hk] at e; cases e
  | some k =>
    simp only [hk] at e
    refine ⟨k, tru_RV r1 q1 hk, ?_⟩
    cases k with
    | true => exact (hb ρ S1 d S' e m1 σ H1 (he.mono t1 p1) r1).mono fun w H3 h => h.up p1 t1
    | false => cases e; exact ⟨m1, p1, t1, r1, q1⟩
theorem se_or (ha : SE X a fa) (hb : SE X (.BoolOp .Or (b :: rest) pos) fb) : SE X (.BoolOp .Or (a :: b :: rest) pos) (fOr fa fb) := by
  intro ρ S d S' e m σ H he hs
  obtain ⟨x, S1, e1, e⟩ := bnd_eq e
  refine WE.of (pe_orT (pe_W a) (pe_W _)) ((ha ρ S x S1 e1 m σ H he hs).mono fun v H1 ⟨m1, p1, t1, r1, q1⟩ => ?_)
  cases hk : truthD S1 x with
  | none => simp only [hk] at e; cases e
  | some k =>
    simp only [hk] at e
    refine ⟨k, tru_RV r1 q1 hk, ?_⟩
    cases k with
    | false => exact (hb ρ S1 d S' e m1 σ H1 (he.mono t1 p1) r1).mono fun w H3 h => h.up p1 t1
    | true => cases e; exact ⟨m1, p1, t1, r1, q1⟩
/-- a test, its answer, then another -/
theorem PH.up {K : PySem.W.Frag} {m m1 : List Addr} {H H1 H' : Hp} {S' : Sto} (h : PH K m1 H1 S' (fun _ _ => True) H') (p : m <+: m1) (t : TK H H1) : PH K m H S' (fun _ _ => True) H' := PH.imp h p t fun _ _ _ z => z
def pw_W (wb : TT) (e : Expr) (h : ∀ (whole : Sem Value) (pins : List (Addr × Obj)) (s : Shared) (σ : L2.St) (H : Hp) (Q : Bool → Hp → Prop), Inv X pins σ H s → wb σ H Q → wpAny (model X.prog X.w) X.A (isTrue e X.env whole) (TP X pins σ Q) X.xe s) : PW X e wb := ⟨h⟩
def WW (X : Cx) (e : Expr) (σ : L2.St) (H : Hp) (Q : Bool → Hp → Prop) : Prop := ∀ (whole : Sem Value) (pins : List (Addr × Obj)) (s : Shared), Inv X pins σ H s → wpAny (model X.prog X.w) X.A (isTrue e X.env whole) (TP X pins σ Q) X.xe s
theorem ww_W (e : Expr) : PW X e (WW X e) := ⟨fun wh pins s _ _ _ I h => h wh pins s I⟩
theorem WW.mono {Q Q' : Bool → Hp → Prop} {σ : L2.St} {H : Hp} (h : WW X a σ H Q) (z : ∀ v H', Q v H' → Q' v H') : WW X a σ H Q' := fun wh pins s I =>
  thn (h wh pins s I) fun u s' ⟨H', I', q⟩ => ⟨H', I', z u H' q⟩
theorem SW.ww (h : SW X a fa) {ρ : Env} {S S' : Sto} {d : D} (e : fa ρ S = some (d, S')) {k : Bool} (hk : truthD S' d = some k) {m : List Addr} {σ : L2.St} {H : Hp} (he : RE X.K H m ρ σ) (hs : RS X.K H m S) : WW X a σ H (fun b H' => b = k ∧ PH X.K m H S' (fun _ _ => True) H') :=
  fun wh pins s I => h wh ρ S d S' e k hk m σ H he hs pins s I
theorem sw_and (ha : ST X a fa) (hb : SW X (.BoolOp .And (b :: rest) pos) fb) : SW X (.BoolOp .And (a :: b :: rest) pos) (fAnd fa fb) := by
  intro wh ρ S d S' e k hk m σ H he hs pins s I
  obtain ⟨x, S1, e1, e⟩ := bnd_eq e
  refine (pw_and (pt_W a) (ww_W _)).run wh pins s σ H _ I ?_
  cases hk1 : truthD S1 x with
  | none => simp only [hk1] at e; cases e
  | some k1 =>
    simp only [hk1] at e
    refine (ha ρ S x S1 e1 k1 hk1 m σ H he hs).mono fun b1 H1 ⟨eb, m1, p1, t1, r1, _⟩ => ?_
    subst eb
    cases b1 with
    | true => exact (hb.ww e hk (he.mono t1 p1) r1).mono fun b2 H2 h => ⟨h.1, h.2.up p1 t1⟩
    | false =>
      cases e
      rw [hk1] at hk
      cases hk
      exact ⟨rfl, m1, p1, t1, r1, trivial⟩
theorem sw_or (ha : ST X a fa) (hb : SW X (.BoolOp .Or (b :: rest) pos) fb) : SW X (.BoolOp .Or (a :: b :: rest) pos) (fOr fa fb) := by
  intro wh ρ S d S' e k hk m σ H he hs pins s I
  obtain ⟨x, S1, e1, e⟩ := bnd_eq e
  refine (pw_or (pt_W a) (ww_W _)).run wh pins s σ H _ I ?_
  cases hk1 : truthD S1 x with
  | none => simp only [hk1] at e; cases e
  | some k1 =>
    simp only [hk1] at e
    refine (ha ρ S x S1 e1 k1 hk1 m σ H he hs).mono fun b1 H1 ⟨eb, m1, p1, t1, r1, _⟩ => ?_
    subst eb
    cases b1 with
    | false => exact (hb.ww e hk (he.mono t1 p1) r1).mono fun b2 H2 h => ⟨h.1, h.2.up p1 t1⟩
    | true =>
      cases e
      rw [hk1] at hk
      cases hk
      exact ⟨rfl, m1, p1, t1, r1, trivial⟩
def fNot (fa : Env → Sto → R D) : Env → Sto → R D := fun ρ S => bnd (fa ρ S) fun x S1 => (truthD S1 x).map fun k => (.bl (!k), S1)
theorem se_not (ha : SE X a fa) : SE X (.UnaryOp .Not a pos) (fNot fa) := by
  intro ρ S d S' e m σ H he hs
  obtain ⟨x, S1, e1, e⟩ := bnd_eq e
  refine WE.of (pe_notT (pe_W a)) ((ha ρ S x S1 e1 m σ H he hs).mono fun v H1 ⟨m1, p1, t1, r1, q1⟩ => ?_)
  cases hk : truthD S1 x with
  | none => simp only [hk] at e; cases e
  | some k =>
    simp only [hk] at e
    cases e
    exact ⟨k, tru_RV r1 q1 hk, m1, p1, t1, r1, .bl _⟩
theorem st_not (ha : ST X a fa) : ST X (.UnaryOp .Not a pos) (fNot fa) := by
  intro ρ S d S' e k hk m σ H he hs
  obtain ⟨x, S1, e1, e⟩ := bnd_eq e
  cases hk1 : truthD S1 x with
  | none => simp only [hk1] at e; cases e
  | some k1 =>
    simp only [hk1] at e
    cases e
    cases hk
    refine WT.of (pt_not (pt_W a)) ((ha ρ S x _ e1 k1 hk1 m σ H he hs).mono fun b1 H1 h => ?_)
    exact ⟨by rw [h.1], h.2⟩
theorem se_ite (hc : ST X c fc) (ha : SE X a fa) (hb : SE X b fb) : SE X (.IfExp c a b pos) (fun ρ S => bnd (fc ρ S) fun x S1 => match truthD S1 x with
    | some true => fa ρ S1
    | some false => fb ρ S1
    | none => none) := by
  intro ρ S d S' e m σ H he hs
  obtain ⟨x, S1, e1, e⟩ := bnd_eq e
  cases hk1 : truthD S1 x with
  | none => simp only [hk1] at e; cases e
  | some k1 =>
    simp only [hk1] at e
    refine WE.of (pe_ifExp (pt_W c) (pe_W a) (pe_W b)) ((hc ρ S x S1 e1 k1 hk1 m σ H he hs).mono fun b1 H1 ⟨eb, m1, p1, t1, r1, _⟩ => ?_)
    subst eb
    cases b1 with
    | true => exact (ha ρ S1 d S' e m1 σ H1 (he.mono t1 p1) r1).mono fun w H3 h => h.up p1 t1
    | false => exact (hb ρ S1 d S' e m1 σ H1 (he.mono t1 p1) r1).mono fun w H3 h => h.up p1 t1
end
end Ev
end
section
set_option Elab.async false
set_option linter.all false
set_option maxRecDepth 100000
set_option maxHeartbeats 4000000
/-! Calls, subscripts, slices. -/
namespace Ev
open PySem PySem.Spec PyProof.Rows L2

/-- a def's promise: it does as g does -/
def SpG (K : PySem.W.Frag) (np : Nat) (g : List D → Sto → R D) : List V → Hp → VK → Prop := fun vs H Q => vs.length = np ∧ ∃ m S ds d S', RS K H m S ∧ RVs K H m ds vs ∧ g ds S = some (d, S') ∧ ∀ v H', PV K m H S' d v H' → Q v H'

section
variable {X : Cx} {k : Nat} {a b c : Expr} {pos p : Pos} {fa fb fc : Env → Sto → R D}
theorem se_call {x : Str} {f : Addr} {fd : FuncData} {ps : List Str} {np : Nat} {g : List D → Sto → R D} {es : List Expr} {fs : Env → Sto → R (List D)} (F : FnG X.prog X.w X.K X.mg X.base k f fd ps (SpG X.K np g)) (hr : Room k X.A) (hgd : X.A.guards = some []) (hg : Gl X x) (hm : X.mg x = some (.ref f))
    (hk : PySem.W.keepIn X.K (.ref f) = true) (hb : Binds X.K fd ps []) (hgl : ∀ ds S r, g ds S = some r → ds.length = np) (hdb : (x == ("__debug__" : Str)) = false) (hst : es.any isStar = false) (hne : es ≠ []) (ha : SA X es fs) :
    SE X (.Call (.Name x p) es [] pos) (fun ρ S => bnd (fs ρ S) fun ds S1 => g ds S1) := by
  intro ρ S d S' e m σ H he hs
  obtain ⟨ds, S1, e1, e⟩ := bnd_eq e
  have hA := ha ρ S ds S1 e1 m σ H he hs
  cases es with
  | nil => exact absurd rfl hne
  | cons e0 es =>
    rw [List.any_cons, Bool.or_eq_false_iff] at hst
    intro pins s I
    refine wpAny_Call_Name_kw (ld_glob I hg hm (PySem.W.callWith_K (h₀ := X.base) I.ok.mod.kin hk (thn (hA pos pins s I) fun us s1 h => ?_) (ns_of hst.1 _ _) (ns_all _ _ hst.2)) hdb)
    obtain ⟨vs, H1, I1, rv, m1, p1, t1, r1, q1⟩ := h
    exact ⟨I1.kIn, runG F hr hgd hb I1 rv ⟨by rw [← q1.length]; exact hgl ds S1 _ e, m1, S1, ds, d, S', r1, q1, e, fun v H' h => h.up p1 t1⟩⟩
theorem se_b1 {x : Str} {id : String} {g : Sto → D → R D} (h : SB X (.builtin id) g) (hg : Gl X x) (hm : X.mg x = none) (hv : bootBuiltins x = some (.builtin id)) (hn : x ≠ "__name__") (hdb : (x == ("__debug__" : Str)) = false) (hst : isStar a = false) (ha : SE X a fa) :
    SE X (.Call (.Name x p) [a] [] pos) (fun ρ S => bnd (fa ρ S) fun y S1 => g S1 y) := by
  intro ρ S d S' e m σ H he hs
  obtain ⟨y, S1, e1, e⟩ := bnd_eq e
  refine WE.of (pe_callB (cr_W _) hg hm hv (pa_cons (pe_W a) pa_nil (ns_of hst _ _)) hn hdb (ns_of hst _ _) rfl) ((ha ρ S y S1 e1 m σ H he hs).mono fun v H1 ⟨m1, p1, t1, r1, q1⟩ => ?_)
  exact (h S1 y d S' e m1 H1 v r1 q1).mono fun w H3 z => z.up p1 t1
theorem se_t1 {x : Str} {id : String} {g : Sto → D → R D} (h : SB X (.type id) g) (hg : Gl X x) (hm : X.mg x = none) (hv : bootBuiltins x = some (.type id)) (hn : x ≠ "__name__") (hdb : (x == ("__debug__" : Str)) = false) (hst : isStar a = false) (ha : SE X a fa) :
    SE X (.Call (.Name x p) [a] [] pos) (fun ρ S => bnd (fa ρ S) fun y S1 => g S1 y) := by
  intro ρ S d S' e m σ H he hs
  obtain ⟨y, S1, e1, e⟩ := bnd_eq e
  refine WE.of (pe_callTy (cr_W _) hg hm hv (pa_cons (pe_W a) pa_nil (ns_of hst _ _)) hn hdb (ns_of hst _ _) rfl) ((ha ρ S y S1 e1 m σ H he hs).mono fun v H1 ⟨m1, p1, t1, r1, q1⟩ => ?_)
  exact (h S1 y d S' e m1 H1 v r1 q1).mono fun w H3 z => z.up p1 t1
theorem se_b2 {x : Str} {id : String} {g : Sto → D → D → R D} (h : SB2 X (.builtin id) g) (hg : Gl X x) (hm : X.mg x = none) (hv : bootBuiltins x = some (.builtin id)) (hn : x ≠ "__name__") (hdb : (x == ("__debug__" : Str)) = false) (hst : isStar a = false) (hst' : isStar b = false) (ha : SE X a fa) (hb : SE X b fb) :
    SE X (.Call (.Name x p) [a, b] [] pos) (fun ρ S => bnd (fa ρ S) fun y S1 => bnd (fb ρ S1) fun z S2 => g S2 y z) := by
  intro ρ S d S' e m σ H he hs
  obtain ⟨y, S1, e1, e⟩ := bnd_eq e
  obtain ⟨z, S2, e2, e⟩ := bnd_eq e
  refine WE.of (pe_callB (cr_W _) hg hm hv (pa_cons (pe_W a) (pa_cons (pe_W b) pa_nil (ns_of hst' _ _)) (ns_of hst _ _)) hn hdb (ns_of hst _ _) (ns_all (es := [b]) _ _ (by simp [hst']))) ((ha ρ S y S1 e1 m σ H he hs).mono fun v H1 ⟨m1, p1, t1, r1, q1⟩ => ?_)
  refine (hb ρ S1 z S2 e2 m1 σ H1 (he.mono t1 p1) r1).mono fun u H2 ⟨m2, p2, t2, r2, q2⟩ => ?_
  exact (h S2 y z d S' e m2 H2 v u r2 (q1.mono t2 p2) q2).mono fun w H3 h => h.up (p1.trans p2) (t1.trans t2)
theorem se_isi {x y : Str} {p' : Pos} {t : Ty} (hg : Gl X x) (hm : X.mg x = none) (hx : x = "isinstance") (hgy : Gl X y) (hmy : X.mg y = none) (hy : bootBuiltins y = some (.type t.nm)) (hny : y ≠ "__name__") (hdy : (y == ("__debug__" : Str)) = false) (hst : isStar a = false) (ha : SE X a fa) :
    SE X (.Call (.Name x p) [a, .Name y p'] [] pos) (fun ρ S => bnd (fa ρ S) fun y S1 => (isiD S1 y t).map fun k => (.bl k, S1)) := by
  intro ρ S d S' e m σ H he hs
  obtain ⟨z, S1, e1, e⟩ := bnd_eq e
  cases hk : isiD S1 z t with
  | none => rw [hk] at e; cases e
  | some k =>
    rw [hk] at e; cases e
    subst hx
    refine WE.of (pe_callB call_isi hg hm (by decide +kernel) (pa_cons (pe_W a) (pa_cons (pe_bltn (v := .ty t.nm) hgy hmy hy rfl hny hdy) pa_nil rfl) (ns_of hst _ _)) (by decide) (by decide) (ns_of hst _ _) rfl) ((ha ρ S z _ e1 m σ H he hs).mono fun v H1 ⟨m1, p1, t1, r1, q1⟩ => ?_)
    obtain ⟨c, h1, h2⟩ := isi_ok r1 q1 hk
    exact ⟨v, .ty t.nm, .type c, .type t.nm, k, rfl, .ty _, h1, kit_ty h2, m1, p1, t1, r1, .bl _⟩
/-! ### subscripts, slices -/
def WX (X : Cx) (x y : V) (H : Hp) (Q : VK) : Prop := rIx X.K x y H Q
theorem atI_map {K : PySem.W.Frag} {H : Hp} {m : List Addr} {xs : List D} {vs : List V} {i : Int} {d : D} (h : RVs K H m xs vs) (e : atI xs i = some d) : ∃ v, atI vs i = some v ∧ RV K H m d v := by
  unfold atI at e ⊢
  rw [← h.length]
  cases hj : ixN xs.length i with
  | none => rw [hj] at e; cases e
  | some j =>
    rw [hj] at e
    exact h.get e
theorem ix_rIx {S S' : Sto} {x y d : D} (e : ixD S x y = some (d, S')) {m : List Addr} {H : Hp} {vx vy : V} (r : RS X.K H m S) (qx : RV X.K H m x vx) (qy : RV X.K H m y vy) : rIx X.K vx vy H (PV X.K m H S' d) := by
  unfold ixD at e
  split at e
  · rename_i xs i
    cases h : atI xs i with
    | none => rw [h] at e; cases e
    | some d' =>
      rw [h] at e; cases e
      cases qx with
      | @tup a vs _ hs hr =>
        cases qy
        obtain ⟨v, h1, h2⟩ := atI_map hr h
        exact .inr (.inl ⟨a, vs, i, v, rfl, rfl, hs, h1, .here r h2⟩)
  · rename_i n i
    cases hi : itemsAt S n with
    | none => rw [hi] at e; cases e
    | some xs =>
      rw [hi] at e
      simp only [Option.bind_some] at e
      cases h : atI xs i with
      | none => rw [h] at e; cases e
      | some d' =>
        rw [h] at e; cases e
        cases qx with
        | @ref _ a ea =>
          cases qy
          obtain ⟨vs, h1, h2⟩ := r.items ea hi
          obtain ⟨v, h3, h4⟩ := atI_map h2 h
          exact .inl ⟨a, vs, i, v, rfl, rfl, h1, h3, .here r h4⟩
  · rename_i z i
    split at e
    · rename_i hz
      cases h : atI z.cps.toList i with
      | none => rw [h] at e; cases e
      | some n =>
        rw [h] at e; cases e
        cases qx
        cases qy
        exact .inr (.inr ⟨z, i, n, rfl, rfl, Nat.le_trans hz (by decide), h, .here r (.str _)⟩)
    · cases e
  · cases e
theorem se_ix (hs : PlainIx b) (ha : SE X a fa) (hb : SE X b fb) : SE X (.Subscript a b pos) (fun ρ S => bnd (fa ρ S) fun x S1 => bnd (fb ρ S1) fun y S2 => ixD S2 x y) := by
  intro ρ S d S' e m σ H he hss
  obtain ⟨x, S1, e1, e⟩ := bnd_eq e
  obtain ⟨y, S2, e2, e⟩ := bnd_eq e
  refine WE.of (pe_ix ix_seq (pe_W a) (pe_W b) hs) ((ha ρ S x S1 e1 m σ H he hss).mono fun v H1 ⟨m1, p1, t1, r1, q1⟩ => ?_)
  refine (hb ρ S1 y S2 e2 m1 σ H1 (he.mono t1 p1) r1).mono fun u H2 ⟨m2, p2, t2, r2, q2⟩ => ?_
  have z := ix_rIx e r2 (q1.mono t2 p2) q2
  have up : ∀ w H3, PV X.K m2 H2 S' d w H3 → PV X.K m H S' d w H3 := fun w H3 h => h.up (p1.trans p2) (t1.trans t2)
  rcases z with ⟨pp, xs, i, v', h1, h2, h3, h4, h5⟩ | ⟨pp, xs, i, v', h1, h2, h3, h4, h5⟩ | ⟨z', i, c', h1, h2, h3, h4, h5⟩
  · exact .inl ⟨pp, xs, i, v', h1, h2, h3, h4, up _ _ h5⟩
  · exact .inr (.inl ⟨pp, xs, i, v', h1, h2, h3, h4, up _ _ h5⟩)
  · exact .inr (.inr ⟨z', i, c', h1, h2, h3, h4, up _ _ h5⟩)
def SOo (X : Cx) (e : Option Expr) (f : Env → Sto → R (Option D)) : Prop := ∀ ρ S o S', f ρ S = some (o, S') → ∀ i, oInt o = some i → ∀ m σ H, RE X.K H m ρ σ → RS X.K H m S → ∃ t, PO X e t ∧ ∀ Q : Option Int → Hp → Prop, (∀ H', PH X.K m H S' (fun _ _ => True) H' → Q i H') → t σ H Q
theorem soo_none : SOo X none (fun _ S => some (none, S)) := by
  intro ρ S o S' e i hi m σ H he hs
  cases (show some ((none : Option D), S) = some (o, S') from e)
  cases hi
  exact ⟨_, po_none, fun Q h => h H ⟨m, List.prefix_refl m, TK.refl H, hs, trivial⟩⟩
theorem soo_some (ha : SE X a fa) : SOo X (some a) (fun ρ S => bnd (fa ρ S) fun d S1 => some (some d, S1)) := by
  intro ρ S o S' e i hi m σ H he hs
  obtain ⟨x, S1, e1, e⟩ := bnd_eq e
  cases e
  refine ⟨_, po_some (pe_W a), fun Q h => (ha ρ S x _ e1 m σ H he hs).mono fun v H1 ⟨m1, p1, t1, r1, q1⟩ => ?_⟩
  cases q1 with
  | int j => cases hi; exact ⟨j, rfl, h H1 ⟨m1, p1, t1, r1, trivial⟩⟩
  | _ => cases hi
theorem cut_RVs {K : PySem.W.Frag} {H : Hp} {m : List Addr} {xs : List D} {vs : List V} (h : RVs K H m xs vs) (lo hi : Option Int) : RVs K H m (cutD xs lo hi) (cutV vs lo hi) := by
  unfold cutD cutV
  rw [← h.length]
  exact (h.drop _).take _
end
end Ev
end
section
set_option Elab.async false
set_option linter.all false
set_option maxRecDepth 100000
set_option maxHeartbeats 4000000
/-! Slices, methods, what is walked, targets. -/
namespace Ev
open PySem PySem.Spec PyProof.Rows L2

section
variable {X : Cx} {k : Nat} {a b c : Expr} {pos p : Pos} {fa fb fc : Env → Sto → R D}
theorem cut_whole {xs : List D} {lo hi : Option Int} (h : HT.sIx xs.length 0 lo = 0 ∧ HT.sIx xs.length xs.length hi = xs.length) : cutD xs lo hi = xs := by
  unfold cutD
  rw [h.1, h.2, List.drop_zero, Nat.sub_zero]
  exact List.take_length
theorem se_sl {lo hi : Option Expr} {flo fhi : Env → Sto → R (Option D)} {p2 : Pos} (ha : SE X a fa) (hl : SOo X lo flo) (hh : SOo X hi fhi) : SE X (.Subscript a (.Slice lo hi none p2) pos) (fun ρ S => bnd (fa ρ S) fun x S1 => bnd (flo ρ S1) fun l S2 => bnd (fhi ρ S2) fun h S3 => sl3 S3 x l h) := by
  intro ρ S d S' e m σ H he hs
  obtain ⟨x, S1, e1, e⟩ := bnd_eq e
  obtain ⟨l, S2, e2, e⟩ := bnd_eq e
  obtain ⟨h, S3, e3, e⟩ := bnd_eq e
  unfold sl3 at e
  cases ol : oInt l with
  | none => rw [ol] at e; cases e
  | some il =>
    cases oh : oInt h with
    | none => rw [ol, oh] at e; cases e
    | some ih =>
      rw [ol, oh] at e
      replace e : slD S3 x il ih = some (d, S') := e
      -- the parts, whatever is done then
      have parts : ∀ (r : V → Option Int → Option Int → Hp → VK → Prop), SlR X r → (∀ v m3 H3, m <+: m3 → TK H H3 → RS X.K H3 m3 S3 → RV X.K H3 m3 x v → r v il ih H3 (PV X.K m H S' d)) → WE X (.Subscript a (.Slice lo hi none p2) pos) σ H (PV X.K m H S' d) := by
        intro r hr hk pins s I
        -- the readings of the parts depend on where they start: take them by meaning
        have hlo : PO X lo (fun σ1 H1 Q => ∀ (pins : List (Addr × Obj)) (s : Shared), Inv X pins σ1 H1 s → wpAny (model X.prog X.w) X.A (evalPart lo X.env) (fun u s' => ∃ o H', Inv X pins σ1 H' s' ∧ IsPart u o ∧ Q o H') X.xe s) := ⟨fun pins s _ _ _ I h => h pins s I⟩
        have hhi : PO X hi (fun σ1 H1 Q => ∀ (pins : List (Addr × Obj)) (s : Shared), Inv X pins σ1 H1 s → wpAny (model X.prog X.w) X.A (evalPart hi X.env) (fun u s' => ∃ o H', Inv X pins σ1 H' s' ∧ IsPart u o ∧ Q o H') X.xe s) := ⟨fun pins s _ _ _ I h => h pins s I⟩
        refine (pe_slice hr (pe_W a) hlo hhi).run pins s σ H _ I ?_
        refine (ha ρ S x S1 e1 m σ H he hs).mono fun v H1 ⟨m1, p1, t1, r1, q1⟩ => ?_
        intro pins1 s1 I1
        obtain ⟨t, ht, hq⟩ := hl ρ S1 l S2 e2 il ol m1 σ H1 (he.mono t1 p1) r1
        refine ht.run pins1 s1 σ H1 _ I1 (hq _ fun H2 ⟨m2, p2, t2, r2, _⟩ => ?_)
        intro pins2 s2 I2
        obtain ⟨t', ht', hq'⟩ := hh ρ S2 h S3 e3 ih oh m2 σ H2 (he.mono (t1.trans t2) (p1.trans p2)) r2
        refine ht'.run pins2 s2 σ H2 _ I2 (hq' _ fun H3 ⟨m3, p3, t3, r3, _⟩ => ?_)
        exact hk v m3 H3 ((p1.trans p2).trans p3) ((t1.trans t2).trans t3) r3 (q1.mono (t2.trans t3) (p2.trans p3))
      unfold slD at e
      split at e
      · rename_i xs
        cases e
        refine parts _ sl_tupA fun v m3 H3 p3 t3 r3 q3 => ?_
        cases q3 with
        | @tup a vs _ hs hr =>
          refine ⟨a, vs, rfl, hs, fun z => ?_, fun _ q hq => (pv_newT r3 (cut_RVs hr il ih) hq).up p3 t3⟩
          rw [← hr.length] at z
          rw [cut_whole z]
          exact ⟨m3, p3, t3, r3, .tup hs hr⟩
      · rename_i n _ _
        cases hi : itemsAt S3 n with
        | none => rw [hi] at e; cases e
        | some xs =>
          rw [hi] at e
          simp only [Option.bind_some] at e
          unfold newL at e
          split at e
          · cases e
            refine parts _ sl_list fun v m3 H3 p3 t3 r3 q3 => ?_
            cases q3 with
            | @ref _ a ea =>
              obtain ⟨vs, h1, h2⟩ := r3.items ea hi
              exact ⟨a, vs, rfl, h1, fun q hq => (pv_newL r3 (cut_RVs h2 il ih) hq).up p3 t3⟩
          · cases e
      · cases e
/-! ### methods of a list, the list a name -/
theorem se_meth {x name : Str} {id : String} {px apos cpos : Pos} {g : Sto → D → D → R D} {r : V → List V → Hp → VK → Prop} (slot : Slot "list" name id) (hty : typeOf (.builtin id) = pure (.type "method_descriptor")) (hm : MtR X id r) (hline : (apos.endLine == cpos.line) = true) (hst : isStar b = false)
    (ho : SE X (.Name x px) fa) (hb : SE X b fb)
    (hr : ∀ S n y d S', g S (.ref n) y = some (d, S') → ∀ m H a vy, RS X.K H m S → m[n]? = some a → RV X.K H m y vy → ∀ Q : VK, (∀ v H', PV X.K m H S' d v H' → Q v H') → r (.ref a) [vy] H Q) :
    SE X (.Call (.Attribute (.Name x px) name apos) [b] [] cpos) (fun ρ S => bnd (fa ρ S) fun o S1 => if isL S1 o = true then bnd (fb ρ S1) fun y S2 => g S2 o y else none) := by
  intro ρ S d S' e m σ H he hs
  obtain ⟨o, S1, e1, e⟩ := bnd_eq e
  split at e
  · rename_i hL
    obtain ⟨y, S2, e2, e⟩ := bnd_eq e
    refine WE.of (pe_bm PySem.F.plainAttrs_list slot hty hm (pe_W _) (pa_cons (pe_W b) pa_nil (ns_of hst _ _)) rfl (by
      rw [ns_of hst]; rfl) hline (ns_of hst _ _) rfl) ((ho ρ S _ S1 e1 m σ H he hs).mono fun v H1 ⟨m1, p1, t1, r1, q1⟩ => ?_)
    cases q1 with
    | @ref n a ea =>
      refine ⟨?_, ?_⟩
      · obtain ⟨xs, hx⟩ := Option.isSome_iff_exists.mp hL
        obtain ⟨vs, h1, h2⟩ := r1.items ea hx
        exact .inl ⟨rfl, vs, h1⟩
      · refine (hb ρ S1 y S2 e2 m1 σ H1 (he.mono t1 p1) r1).mono fun u H2 ⟨m2, p2, t2, r2, q2⟩ => ?_
        exact hr S2 n y d S' e m2 H2 a u r2 (pre_get p2 ea) q2 _ fun v H' h => h.up (p1.trans p2) (t1.trans t2)
    | _ => cases hL
  · cases e
theorem pv_set {K : PySem.W.Frag} {H : Hp} {m : List Addr} {S : Sto} (r : RS K H m S) {n : Nat} {a : Addr} {ys : List V} {ds : List D} {vs : List V} {d : D} {v : V} (e : m[n]? = some a) (h : H a = some (.lst ys)) (q : RVs K H m ds vs) (qd : RV K H m d v) : PV K m H (S.set n (.lst ds)) d v (upd H a (.lst vs)) :=
  ⟨m, List.prefix_refl m, TK.lst h, r.write e h q, qd.mono (TK.lst h) (List.prefix_refl m)⟩
theorem mr_append : ∀ S n y d S', m2D S .append (.ref n) y = some (d, S') → ∀ m H a vy, RS X.K H m S → m[n]? = some a → RV X.K H m y vy → ∀ Q : VK, (∀ v H', PV X.K m H S' d v H' → Q v H') → rAppend (.ref a) [vy] H Q := by
  intro S n y d S' e m H a vy r ea qy Q hQ
  simp only [m2D] at e
  split at e
  · rename_i xs hx
    split at e
    · rename_i hz
      cases e
      obtain ⟨vs, h1, h2⟩ := r.obj n a _ ea hx
      exact ⟨a, vs, vy, rfl, rfl, h1, by rw [← h2.length]; exact lt_size hz, hQ _ _ (pv_set r ea h1 (h2.append (.cons qy .nil)) .non)⟩
    · cases e
  · cases e
theorem mr_extend : ∀ S n y d S', m2D S .extend (.ref n) y = some (d, S') → ∀ m H a vy, RS X.K H m S → m[n]? = some a → RV X.K H m y vy → ∀ Q : VK, (∀ v H', PV X.K m H S' d v H' → Q v H') → rExtend (.ref a) [vy] H Q := by
  intro S n y d S' e m H a vy r ea qy Q hQ
  cases qy with
  | @ref k' b eb =>
    simp only [m2D] at e
    split at e
    · rename_i xs ys hx hy
      split at e
      · rename_i hz
        cases e
        obtain ⟨vs, h1, h2⟩ := r.obj n a _ ea hx
        obtain ⟨us, h3, h4⟩ := r.obj k' b _ eb hy
        exact ⟨a, b, vs, us, rfl, rfl, h1, h3, by rw [← h2.length, ← h4.length]; exact le_size hz, hQ _ _ (pv_set r ea h1 (h2.append h4) .non)⟩
      · cases e
    · cases e
  | _ => cases e
theorem mr_pop : ∀ S n y d S', m2D S .pop (.ref n) y = some (d, S') → ∀ m H a vy, RS X.K H m S → m[n]? = some a → RV X.K H m y vy → ∀ Q : VK, (∀ v H', PV X.K m H S' d v H' → Q v H') → rPopAt (.ref a) [vy] H Q := by
  intro S n y d S' e m H a vy r ea qy Q hQ
  cases qy with
  | int i =>
    simp only [m2D] at e
    split at e
    · rename_i xs hx
      split at e
      · rename_i d' hd
        split at e
        · rename_i hz
          cases e
          obtain ⟨vs, h1, h2⟩ := r.obj n a _ ea hx
          obtain ⟨v, h3, h4⟩ := h2.get hd
          have hlt : i.toNat < vs.length := by
            rcases Nat.lt_or_ge i.toNat vs.length with z | z
            · exact z
            · rw [List.getElem?_eq_none z] at h3; cases h3
          exact ⟨a, vs, i, i.toNat, v, rfl, rfl, h1, by omega, by omega, seqIndex_of hz.1 (by omega), h3, hQ _ _ (pv_set r ea h1 (h2.eraseIdx _) h4)⟩
        · cases e
      · cases e
    · cases e
  | _ => cases e
end
end Ev
end
section
set_option Elab.async false
set_option linter.all false
set_option maxRecDepth 100000
set_option maxHeartbeats 4000000
/-! What is walked, targets, comprehensions. -/
namespace Ev
open PySem PySem.Spec PyProof.Rows L2

/-- an iterator yields the items of src, as long as its lists stand -/
structure Wk (K : PySem.W.Frag) (J : It) (m1 : List Addr) (H1 : Hp) (src : Src) : Prop where
  go : ∀ i d, src.items[i]? = some d → ∀ m2 H2 S2, m1 <+: m2 → TK H1 H2 → RS K H2 m2 S2 → src.ok S2 → J.go i H2 ∧ ∀ x H3, J.yld i H2 x H3 → TK H2 H3 ∧ RS K H3 m2 S2 ∧ RV K H3 m2 d x
  stop : ∀ m2 H2 S2, m1 <+: m2 → TK H1 H2 → RS K H2 m2 S2 → src.ok S2 → J.stop src.items.length H2
def SI (X : Cx) (tg iter : Expr) (f : Env → Sto → R Src) : Prop := ∀ ρ S src S', f ρ S = some (src, S') → ∀ m σ H, RE X.K H m ρ σ → RS X.K H m S → WI X tg iter σ H (fun J H1 => ∃ m1, m <+: m1 ∧ TK H H1 ∧ RS X.K H1 m1 S' ∧ Wk X.K J m1 H1 src)
section
variable {X : Cx} {k : Nat} {tg a b c : Expr} {pos p : Pos} {fa fb fc : Env → Sto → R D}
theorem RVs.get2 {K : PySem.W.Frag} {H : Hp} {m : List Addr} {ds : List D} {vs : List V} (h : RVs K H m ds vs) {i : Nat} {d : D} {v : V} (e : ds[i]? = some d) (e' : vs[i]? = some v) : RV K H m d v := by
  obtain ⟨w, h1, h2⟩ := h.get e
  rw [e'] at h1
  cases h1
  exact h2
theorem si_seq (ha : SE X a fa) : SI X tg a (fun ρ S => bnd (fa ρ S) fun d S1 => srcD S1 d) := by
  intro ρ S src S' e m σ H he hs
  obtain ⟨x, S1, e1, e⟩ := bnd_eq e
  unfold srcD at e
  split at e
  · rename_i s
    cases e
    refine WI.of (pi_str (pe_W a)) ((ha ρ S _ _ e1 m σ H he hs).mono fun v H1 ⟨m1, p1, t1, r1, q1⟩ => ?_)
    cases q1
    refine ⟨s, rfl, m1, p1, t1, r1, ⟨fun i d hd m2 H2 S2 p2 t2 r2 _ => ?_, fun m2 H2 S2 p2 t2 r2 _ => ?_⟩⟩
    · have hd' : (s.cps.toList.map fun c => D.str ⟨#[c]⟩)[i]? = some d := hd
      rw [List.getElem?_map] at hd'
      cases hc : s.cps.toList[i]? with
      | none => rw [hc] at hd'; cases hd'
      | some c =>
        rw [hc] at hd'
        cases hd'
        have hi : i < s.cps.size := by
          rcases Nat.lt_or_ge i s.cps.size with z | z
          · exact z
          · rw [List.getElem?_eq_none (by simpa using z)] at hc; cases hc
        refine ⟨hi, fun x H3 hx => ?_⟩
        obtain ⟨rfl, c', h1, rfl⟩ := hx
        have : c' = c := by
          rw [Array.getElem?_toList] at hc
          rw [hc] at h1
          exact (Option.some.inj h1).symm
        subst this
        exact ⟨TK.refl _, r2, .str _⟩
    · show s.cps.size ≤ (signs s).length
      simp [signs]
  · split at e
    · rename_i xs hx
      cases e
      cases x with
      | tup ys =>
        cases hx
        refine WI.of (pi_tup (pe_W a)) ((ha ρ S _ _ e1 m σ H he hs).mono fun v H1 ⟨m1, p1, t1, r1, q1⟩ => ?_)
        cases q1 with
        | @tup a vs _ hq hr =>
          refine ⟨a, rfl, ⟨vs, hq⟩, m1, p1, t1, r1, ⟨fun i d hd m2 H2 S2 p2 t2 r2 _ => ?_, fun m2 H2 S2 p2 t2 r2 _ => ⟨vs, t2.sq hq, by rw [← hr.length]; exact Nat.le_refl _⟩⟩⟩
          obtain ⟨v, h1, h2⟩ := hr.get hd
          refine ⟨⟨vs, v, t2.sq hq, h1⟩, fun y H3 hy => ?_⟩
          obtain ⟨rfl, hy⟩ := hy
          have := hy vs (t2.sq hq)
          rw [h1] at this
          cases this
          exact ⟨TK.refl _, r2, h2.mono t2 p2⟩
      | ref n =>
        refine WI.of (pi_list (pe_W a)) ((ha ρ S _ _ e1 m σ H he hs).mono fun v H1 ⟨m1, p1, t1, r1, q1⟩ => ?_)
        cases q1 with
        | @ref _ a ea =>
          obtain ⟨vs, h1, h2⟩ := r1.items ea hx
          refine ⟨a, rfl, ⟨vs, h1⟩, m1, p1, t1, r1, ⟨fun i d hd m2 H2 S2 p2 t2 r2 ok => ?_, fun m2 H2 S2 p2 t2 r2 ok => ?_⟩⟩
          · obtain ⟨vs2, h3, h4⟩ := r2.items (pre_get p2 ea) (ok (n, xs) (by simp [heldD]))
            obtain ⟨v, h5, h6⟩ := h4.get hd
            refine ⟨⟨vs2, v, h3, h5⟩, fun y H3 hy => ?_⟩
            obtain ⟨rfl, hy⟩ := hy
            have := hy vs2 h3
            rw [h5] at this
            cases this
            exact ⟨TK.refl _, r2, h6⟩
          · obtain ⟨vs2, h3, h4⟩ := r2.items (pre_get p2 ea) (ok (n, xs) (by simp [heldD]))
            exact ⟨vs2, h3, by rw [← h4.length]; exact Nat.le_refl _⟩
      | _ => cases hx
    · cases e
theorem wk_range {K : PySem.W.Frag} {m1 : List Addr} {H1 : Hp} (lo : Int) (n : Nat) : Wk K (Itr lo n) m1 H1 ⟨rangeD lo n, []⟩ := by
  refine ⟨fun i d hd m2 H2 S2 p2 t2 r2 _ => ?_, fun m2 H2 S2 p2 t2 r2 _ => ?_⟩
  · have hi : i < n := by
      rcases Nat.lt_or_ge i n with z | z
      · exact z
      · rw [List.getElem?_eq_none (by simpa [rangeD] using z)] at hd; cases hd
    refine ⟨hi, fun x H3 hy => ?_⟩
    obtain ⟨rfl, rfl⟩ := hy
    have : d = .int (lo + (i : Int)) := by
      simp [rangeD, hi] at hd
      exact hd.symm
    subst this
    exact ⟨TK.refl _, r2, .int _⟩
  · show n ≤ (rangeD lo n).length
    simp [rangeD]
theorem si_r1 {x : Str} (hx : x = "range") (hg : Gl X x) (hm : X.mg x = none) (hst : isStar a = false) (ha : SE X a fa) : SI X tg (.Call (.Name x p) [a] [] pos) (fun ρ S => bnd (fa ρ S) fun d S1 => rng1 S1 d) := by
  subst hx
  intro ρ S src S' e m σ H he hs
  obtain ⟨x, S1, e1, e⟩ := bnd_eq e
  unfold rng1 at e
  split at e
  · rename_i j
    split at e
    · rename_i hj
      cases e
      refine WI.of (pi_range1 hg hm (pa_cons (pe_W a) pa_nil (ns_of hst _ _)) (ns_of hst _ _)) ((ha ρ S _ _ e1 m σ H he hs).mono fun v H1 ⟨m1, p1, t1, r1, q1⟩ => ?_)
      cases q1
      exact ⟨j, rfl, hj.1, hj.2, m1, p1, t1, r1, wk_range 0 _⟩
    · cases e
  · cases e
theorem si_r2 {x : Str} (hx : x = "range") (hg : Gl X x) (hm : X.mg x = none) (hst : isStar a = false) (hst' : isStar b = false) (ha : SE X a fa) (hb : SE X b fb) : SI X tg (.Call (.Name x p) [a, b] [] pos) (fun ρ S => bnd (fa ρ S) fun d S1 => bnd (fb ρ S1) fun e S2 => rng2 S2 d e) := by
  subst hx
  intro ρ S src S' e m σ H he hs
  obtain ⟨x, S1, e1, e⟩ := bnd_eq e
  obtain ⟨y, S2, e2, e⟩ := bnd_eq e
  unfold rng2 at e
  split at e
  · split at e
    · rename_i hj
      cases e
      refine WI.of (pi_range2 hg hm (pa_cons (pe_W a) (pa_cons (pe_W b) pa_nil (ns_of hst' _ _)) (ns_of hst _ _)) (by rw [ns_of hst, ns_of hst']; rfl) (ns_of hst' _ _)) ((ha ρ S _ _ e1 m σ H he hs).mono fun v H1 ⟨m1, p1, t1, r1, q1⟩ => ?_)
      refine (hb ρ S1 _ _ e2 m1 σ H1 (he.mono t1 p1) r1).mono fun u H2 ⟨m2, p2, t2, r2, q2⟩ => ?_
      cases q1
      cases q2
      exact ⟨_, _, rfl, ⟨hj.1.1, hj.1.2, hj.2.1, hj.2.2⟩, m2, p1.trans p2, t1.trans t2, r2, wk_range _ _⟩
    · cases e
  · cases e
theorem zip_get {xs ys : List D} {i : Nat} {d : D} (h : (zip2 xs ys)[i]? = some d) : ∃ x y, xs[i]? = some x ∧ ys[i]? = some y ∧ d = .tup [x, y] := by
  unfold zip2 at h
  rw [List.getElem?_zipWith] at h
  cases hx : xs[i]? with
  | none => rw [hx] at h; cases h
  | some x =>
    cases hy : ys[i]? with
    | none => rw [hx, hy] at h; cases h
    | some y => rw [hx, hy] at h; cases h; exact ⟨x, y, rfl, rfl, rfl⟩
theorem pair_new {K : PySem.W.Frag} {H : Hp} {m : List Addr} {S : Sto} (r : RS K H m S) {x y : D} {vx vy : V} (qx : RV K H m x vx) (qy : RV K H m y vy) {T : Addr} (h : H T = none) : TK H (upd H T (.tup [vx, vy])) ∧ RS K (upd H T (.tup [vx, vy])) m S ∧ RV K (upd H T (.tup [vx, vy])) m (.tup [x, y]) (.ref T) :=
  ⟨TK.new h, r.tup h, .tup (SqT.of upd_same) (.cons (qx.mono (TK.new h) (List.prefix_refl m)) (.cons (qy.mono (TK.new h) (List.prefix_refl m)) .nil))⟩
theorem si_zip {x : Str} {es : List Expr} {kk : Nat} {tpos : Pos} (hx : x = "zip") (hg : Gl X x) (hm : X.mg x = none) (hst : isStar a = false) (hst' : isStar b = false) (ha : SE X a fa) (hb : SE X b fb) :
    SI X (.Tuple es kk tpos) (.Call (.Name x p) [a, b] [] pos) (fun ρ S => bnd (fa ρ S) fun d S1 => bnd (fb ρ S1) fun e S2 => zipD S2 d e) := by
  subst hx
  intro ρ S src S' e m σ H he hs
  obtain ⟨x, S1, e1, e⟩ := bnd_eq e
  obtain ⟨y, S2, e2, e⟩ := bnd_eq e
  refine WI.of (RZ.pi_zipA hg hm (pa_cons (pe_W a) (pa_cons (pe_W b) pa_nil (ns_of hst' _ _)) (ns_of hst _ _)) (ns_of hst _ _) (ns_all (es := [b]) _ _ (by simp [hst']))) ((ha ρ S _ _ e1 m σ H he hs).mono fun v H1 ⟨m1, p1, t1, r1, q1⟩ => ?_)
  refine (hb ρ S1 _ _ e2 m1 σ H1 (he.mono t1 p1) r1).mono fun u H2 ⟨m2, p2, t2, r2, q2⟩ => ?_
  have q1 := q1.mono t2 p2
  unfold zipD at e
  split at e
  · rename_i xs ys
    cases e
    cases q1 with
    | @tup a vs _ ha' hra =>
      cases q2 with
      | @tup b us _ hb' hrb =>
        refine ⟨a, b, vs, us, rfl, .inr ⟨ha', hb', m2, p1.trans p2, t1.trans t2, r2, ⟨fun i d hd m3 H3 S3 p3 t3 r3 _ => ?_, fun m3 H3 S3 p3 t3 r3 _ => ⟨vs, us, t3.sq ha', t3.sq hb', ?_⟩⟩⟩⟩
        · obtain ⟨x, y, hx, hy, rfl⟩ := zip_get hd
          obtain ⟨vx, h1, h2⟩ := hra.get hx
          obtain ⟨vy, h3, h4⟩ := hrb.get hy
          refine ⟨⟨vs, us, vx, vy, t3.sq ha', t3.sq hb', h1, h3⟩, fun z H4 hz => ?_⟩
          obtain ⟨T, x', y', rfl, hT, rfl, f1, f2⟩ := hz
          have e1 := f1 vs (t3.sq ha'); rw [h1] at e1; cases e1
          have e2 := f2 us (t3.sq hb'); rw [h3] at e2; cases e2
          exact pair_new r3 (h2.mono t3 p3) (h4.mono t3 p3) hT
        · rw [← hra.length, ← hrb.length]
          simp only [zip2, List.length_zipWith]
          omega
  · split at e
    · rename_i xs ys hxs hys
      cases e
      cases q1 with
      | @ref _ a ea =>
        cases q2 with
        | @ref _ b eb =>
          obtain ⟨vs, h1, h2⟩ := r2.items ea hxs
          obtain ⟨us, h3, h4⟩ := r2.items eb hys
          refine ⟨a, b, vs, us, rfl, .inl ⟨h1, h3, m2, p1.trans p2, t1.trans t2, r2, ⟨fun i d hd m3 H3 S3 p3 t3 r3 ok => ?_, fun m3 H3 S3 p3 t3 r3 ok => ?_⟩⟩⟩
          · obtain ⟨x, y, hx, hy, rfl⟩ := zip_get hd
            obtain ⟨vs', g1, g2⟩ := r3.items (pre_get p3 ea) (ok (_, xs) (List.mem_cons_self ..))
            obtain ⟨us', g3, g4⟩ := r3.items (pre_get p3 eb) (ok (_, ys) (List.mem_cons_of_mem _ (List.mem_cons_self ..)))
            obtain ⟨vx, k1, k2⟩ := g2.get hx
            obtain ⟨vy, k3, k4⟩ := g4.get hy
            refine ⟨⟨vs', us', vx, vy, g1, g3, k1, k3⟩, fun z H4 hz => ?_⟩
            obtain ⟨T, x', y', rfl, hT, rfl, f1, f2⟩ := hz
            have e1 := f1 vs' g1; rw [k1] at e1; cases e1
            have e2 := f2 us' g3; rw [k3] at e2; cases e2
            exact pair_new r3 k2 k4 hT
          · obtain ⟨vs', g1, g2⟩ := r3.items (pre_get p3 ea) (ok (_, xs) (List.mem_cons_self ..))
            obtain ⟨us', g3, g4⟩ := r3.items (pre_get p3 eb) (ok (_, ys) (List.mem_cons_of_mem _ (List.mem_cons_self ..)))
            refine ⟨vs', us', g1, g3, ?_⟩
            rw [← g2.length, ← g4.length]
            simp only [zip2, List.length_zipWith]
            omega
    · cases e
  · cases e
/-! ### targets -/
def Tg.slots : Tg → List Nat
  | .one i => [i]
  | .many is => is
def WG (X : Cx) (tg : Expr) (v : V) (σ : L2.St) (H : Hp) (Q : L2.St → Hp → Prop) : Prop := ∀ (pins : List (Addr × Obj)) (s : Shared) (u : Value), Inv X pins σ H s → RelV v u → wpAny (model X.prog X.w) X.A (assign tg X.env u) (fun _ s' => ∃ σ' H', Inv X pins σ' H' s' ∧ Q σ' H') X.xe s
theorem pg_W (tg : Expr) : PG X tg (WG X tg) := ⟨fun pins s _ _ _ u _ I r h => h pins s u I r⟩
theorem WG.of {t : TG} {v : V} {σ : L2.St} {H : Hp} {Q : L2.St → Hp → Prop} (h : PG X tg t) (q : t v σ H Q) : WG X tg v σ H Q := fun pins s u I r => h.run pins s σ H v u Q I r q
theorem WG.mono {v : V} {σ : L2.St} {H : Hp} {Q Q' : L2.St → Hp → Prop} (h : WG X tg v σ H Q) (z : ∀ σ' H', Q σ' H' → Q' σ' H') : WG X tg v σ H Q' := fun pins s u I r =>
  thn (h pins s u I r) fun _ s' ⟨σ', H', I', q⟩ => ⟨σ', H', I', z σ' H' q⟩
/-- σ' is σ but at the slots is -/
def But (is : List Nat) (σ σ' : L2.St) : Prop := σ'.length = σ.length ∧ ∀ j, j ∉ is → σ'[j]? = σ[j]?
def SG (X : Cx) (tg : Expr) (t : Tg) : Prop := ∀ d ρ ρ', setT t d ρ = some ρ' → ∀ m σ H v, RE X.K H m ρ σ → RV X.K H m d v → WG X tg v σ H (fun σ' H' => H' = H ∧ RE X.K H m ρ' σ' ∧ But t.slots σ σ')
theorem But.set {i : Nat} {σ : L2.St} {o : Option V} : But [i] σ (σ.set i o) := ⟨by simp, fun j hj => by
  rw [List.getElem?_set_ne]
  intro z
  exact hj (by simp [z])⟩
theorem But.trans {is js : List Nat} {σ σ' σ'' : L2.St} (h : But is σ σ') (h' : But js σ' σ'') : But (is ++ js) σ σ'' := ⟨h'.1.trans h.1, fun j hj => by
  rw [List.mem_append, not_or] at hj
  exact (h'.2 j hj.2).trans (h.2 j hj.1)⟩
theorem sg_one {i : Nat} {x : Str} (hN : X.N.Nodup) (hi : X.N[i]? = some x) (hx : Loc X.env.scope x) (hf : X.fn x = true ∨ X.env.scope.names.lookup x = some .local) : SG X (.Name x p) (.one i) := by
  intro d ρ ρ' e m σ H v he hv
  cases e
  exact WG.of (pg_name hN hi hx hf) ⟨rfl, he.set i hv, .set⟩
/-- several names, one behind another -/
inductive Names (X : Cx) : List Expr → List Nat → Prop
  | nil : Names X [] []
  | cons {x : Str} {p : Pos} {es : List Expr} {i : Nat} {is : List Nat} : X.N[i]? = some x → Loc X.env.scope x → (X.fn x = true ∨ X.env.scope.names.lookup x = some .local) → Names X es is → Names X (.Name x p :: es) (i :: is)
theorem Names.each {es : List Expr} {is : List Nat} (h : Names X es is) : assignEach es X.env = es.map fun e => (false, assign e X.env) := by
  induction h with
  | nil => rfl
  | cons _ _ _ _ ih => rw [List.map_cons, ← ih]; rfl
theorem names_set (hN : X.N.Nodup) {es : List Expr} {is : List Nat} (h : Names X es is) : ∃ t, PGs X es t ∧ ∀ ds ρ ρ', setAll is ds ρ = some ρ' → ∀ m σ H vs, RE X.K H m ρ σ → RVs X.K H m ds vs → ∀ Q : L2.St → Hp → Prop, (∀ σ', RE X.K H m ρ' σ' → But is σ σ' → Q σ' H) → t vs σ H Q := by
  induction h with
  | nil =>
    refine ⟨_, pgs_nil, fun ds ρ ρ' e m σ H vs he hv Q hQ => ?_⟩
    cases ds with
    | nil => cases hv; cases e; exact ⟨rfl, hQ σ he ⟨rfl, fun _ _ => rfl⟩⟩
    | cons _ _ => cases e
  | @cons x p es i is hi hx hf hn ih =>
    obtain ⟨t, ht, hq⟩ := ih
    refine ⟨_, pgs_cons (pg_name hN hi hx hf) ht rfl, fun ds ρ ρ' e m σ H vs he hv Q hQ => ?_⟩
    cases ds with
    | nil => cases e
    | cons d ds =>
      cases hv with
      | @cons _ _ v vs h1 h2 =>
        refine ⟨v, vs, rfl, hq ds _ ρ' e m _ H vs (he.set i h1) h2 Q fun σ' r1 r2 => hQ σ' r1 ?_⟩
        exact But.trans (But.set (i := i)) r2
theorem setAll_len : ∀ {is : List Nat} {ds : List D} {ρ ρ' : Env}, setAll is ds ρ = some ρ' → ds.length = is.length
  | [], [], _, _, _ => rfl
  | [], _ :: _, _, _, h => by cases h
  | _ :: _, [], _, _, h => by cases h
  | _ :: is, _ :: ds, _, _, h => by simp [setAll_len (is := is) (ds := ds) h]
theorem sg_many {es : List Expr} {is : List Nat} {n : Nat} (hc : X.calm = true) (hN : X.N.Nodup) (h : Names X es is) : SG X (.Tuple es n p) (.many is) := by
  intro d ρ ρ' e m σ H v he hv
  cases hv with
  | @tup a vs ds hs hr =>
    obtain ⟨t, ht, hq⟩ := names_set hN h
    have hl : is.length = es.length := by
      clear hq ht e
      induction h with
      | nil => rfl
      | cons _ _ _ _ ih => simp [ih]
    refine WG.of (pg_tup (n := es.length) hc ht (by rw [h.each]; simp) ?_) ⟨a, vs, rfl, hs, ?_, hq ds ρ ρ' e m σ H vs he hr _ fun σ' r1 r2 => ⟨rfl, r1, r2⟩⟩
    · rw [h.each, List.findIdx?_eq_none_iff]
      intro q hq
      obtain ⟨e', _, rfl⟩ := List.mem_map.mp hq
      rfl
    · rw [← hr.length, setAll_len e, hl]
  | _ => cases e
end
end Ev
end
section
set_option Elab.async false
set_option linter.all false
set_option maxRecDepth 100000
set_option maxHeartbeats 4000000
/-! enumerate over lists and tuples. -/
namespace PySem
section
variable {prog : Program} {w : World} {A : Around} {E : Value → Shared → Prop} {s : Shared}
set_option maxHeartbeats 4000000 in
theorem ev_enum_new1 {v : Value} {o : Obj} {H : Heap → Prop} (B : Begins v o H) :
    Meets (Builtin.«enumerate.__new__» ⟨[.type "enumerate", v], []⟩) (fun _ R s => H s.heap ∧
      R (.ok (.ret (.ref (s.heap.push o).objs.size))) { s with heap := (s.heap.push o).push { cls := .type "enumerate", data := .fields #[.none, .bool false, .ref s.heap.objs.size, rawInt 0, .none, .none] } }) :=
  .of_wp fun prog w A R s h => by
    obtain ⟨hp, g, d, tk, os⟩ := s; obtain ⟨h1, h⟩ := h
    have hsub := sub_enumerate
    have q1 : ∀ {A' : Around} {E : Value → Shared → Prop} {Q : Value → Shared → Prop}, Q (.ref hp.objs.size) ⟨hp.push o, g, d, tk, os⟩ → wpAny (model prog w) A' (pyIter v) Q E ⟨hp, g, d, tk, os⟩ :=
      fun q => B.iter prog w _ _ ⟨hp, g, d, tk, os⟩ _ h1 q
    wp_walk using q1
    refine wpAny_stack_any fun st => wpAny_pure ?_
    split
    · rename_i c _ _ _ _ _
      cases (c == Value.type "enumerate")
      · wp_walk using q1
        exact ⟨_, rfl, h⟩
      · wp_walk using q1
        exact ⟨_, rfl, h⟩
    · wp_walk using q1
      exact ⟨_, rfl, h⟩
theorem ev_enum_begins {v : Value} {o : Obj} {H : Heap → Prop} {Q : Value → Shared → Prop} (B : Begins v o H) (h1 : H s.heap)
    (h : ∀ h', IsEnum h' (s.heap.objs.size + 1) s.heap.objs.size 0 .none → h'.get? s.heap.objs.size = some o → h'.objs.size = s.heap.objs.size + 2 →
      (∀ b o, s.heap.get? b = some o → h'.get? b = some o) → Q (.ref (s.heap.objs.size + 1)) { s with heap := h' }) :
    wpAny (model prog w) A (call (.type "enumerate") [v]) Q E s := by
  refine callType_new F.called_enumerate (by decide) (F.typeCall_enumerate_1 _) (F.newCall_enumerate_1 _) (fun obj => F.args_object_init_2 obj _) F.entry_enumerate_new
    (ev_enum_new1 B) ⟨h1, ?_⟩
  have hz : (s.heap.push o).objs.size = s.heap.objs.size + 1 := Heap.size_push ..
  show _ ∧ _
  rw [hz]
  have he : IsEnum ((s.heap.push o).push { cls := .type "enumerate", data := .fields #[.none, .bool false, .ref s.heap.objs.size, rawInt 0, .none, .none] }) (s.heap.objs.size + 1) s.heap.objs.size 0 .none := by
    have := Heap.get?_push_size (s.heap.push o) (o := { cls := .type "enumerate", data := .fields #[.none, .bool false, .ref s.heap.objs.size, rawInt 0, .none, .none] }) rfl
    rw [hz] at this; exact this
  refine ⟨⟨_, he, rfl⟩, h _ he (Heap.get?_push_of_some _ (Heap.get?_push_size _ B.free)) (by rw [Heap.size_push, hz]) fun b o x => Heap.get?_push_of_some _ (Heap.get?_push_of_some _ x)⟩
end
end PySem

namespace Ev
open PySem PySem.Spec PyProof.Rows L2
/-- the tuple at a, each item in a new pair -/
def IteT (K : PySem.W.Frag) (a : Addr) : It :=
  ⟨fun i H => ∃ (xs : List V) (x : V), SqT K H a xs ∧ xs[i]? = some x, fun i H v H' => ∃ T x, v = .ref T ∧ H T = none ∧ H' = upd H T (.tup [.int (i : Nat), x]) ∧ ∀ xs, SqT K H a xs → xs[i]? = some x, fun i H => ∃ xs : List V, SqT K H a xs ∧ xs.length = i⟩
theorem turn_enumT {P : Program} {w : World} {K : PySem.W.Frag} {elts : List Expr} {kk : Nat} {tpos : Pos} (a e it : Addr) :
    Turn P w K (.Tuple elts kk tpos) (IteT K a) [e, it] e (fun i h => (∃ old, IsEnum h e it ((i : Nat) : Int) old) ∧ h.IsTupleIter it a i ∧ e ≠ it ∧ e ≠ a ∧ a ≠ it) where
  mem := by simp
  obj := fun i h st b hb => by
    obtain ⟨⟨old, he⟩, ⟨o, ho, hc, hd⟩, _⟩ := st
    have e' : b = e ∨ b = it := by simpa using hb
    rcases e' with z | z
    · rw [z]; exact ⟨_, he, fun v q => nomatch q⟩
    · rw [z]; exact ⟨o, ho, fun v q => by rw [hd] at q; cases q⟩
  keep := fun i h h' st k => let ⟨⟨old, he⟩, hi, hne⟩ := st; ⟨⟨old, k e (by simp) _ he⟩, hi.at fun o q => k it (by simp) o q, hne⟩
  item := by
    intro X hP hw hK hc i pins s σ H E I hf st hg
    subst hP hw hK
    obtain ⟨⟨old, he⟩, hit, hne, hea, hai⟩ := st
    obtain ⟨xs, x, hq, hx⟩ := hg
    obtain ⟨its, rv, p, hz⟩ := I.tuple hq
    obtain ⟨u, hu, ru⟩ := rv.get hx
    have hel : e < s.heap.objs.size := Heap.lt_size he
    have hil : it < s.heap.objs.size := by obtain ⟨_, q, _⟩ := hit; exact Heap.lt_size q
    have hlt : i < its.toArray.size := by
      rcases Nat.lt_or_ge i its.length with z | z
      · simpa using z
      · rw [List.getElem?_eq_none z] at hu; cases hu
    have Dw : Draws X.prog X.w X.A.in1 it [it, a] its.toArray.size (fun i v => its.toArray[i]? = some v) (fun i h => h.IsTupleIter it a i ∧ h.IsTuple a its.toArray) := Draws.tuple (show X.A.in1.handled = none from I.ok.hd hc) it a hai its.toArray
    refine wpAny_pyNext_enum_itemC Dw he (show s.heap.IsTupleIter it a i ∧ s.heap.IsTuple a its.toArray from ⟨hit, p⟩) hlt hne (by intro z; rcases List.mem_cons.mp z with z | z; exact hne z; exact hea (List.mem_singleton.mp z)) fun y h' tk hy ho hst' hT hsz hk => ?_
    have ey : y = u := by
      have : its[i]? = some y := by simpa using hy
      rw [hu] at this
      exact (Option.some.inj this).symm
    subst ey
    refine ⟨_, rfl, wpAny_letOwnedTupleGo_enum (s := { s with heap := h', toks := tk + 1 }) ho fun h'' he' sb => ?_⟩
    have hT2 : h''.get? s.heap.objs.size = some { cls := .type "tuple", data := .seq #[.int i tk, y] } := (sb.2 _ (Nat.ne_of_gt hel)).trans hT
    have new : ObjOk X.prog X.w (upd H s.heap.objs.size (.tup [.int (i : Nat), x])) h'' s.heap.objs.size (.tup [.int (i : Nat), x]) :=
      ⟨by show 2 ≤ sizeLine; decide, [.int i tk, y], .cons ⟨_, rfl⟩ (.cons ru .nil), ⟨_, hT2, rfl, _, rfl⟩⟩
    have I1 : Inv X pins σ (upd H s.heap.objs.size (.tup [.int (i : Nat), x])) { s with heap := h'', toks := tk + 1 } :=
      I.turnedNew (ch := [e, it]) (fun b ob hb q => (sb.2 b (fun z => hb (by simp [z]))).trans (hk b ob (fun z => hb (by simp [z])) (fun z => hb (by simp [z])) q)) hf (Nat.le_refl _) new
    refine ⟨.ref s.heap.objs.size, _, I1, rfl, ⟨_, x, rfl, I.hok.fresh (Nat.le_refl _), rfl, fun ys hy => by rw [I.tuple_inj hy hq]; exact hx⟩, ⟨⟨y, ?_⟩, hst'.1.at fun o q => (sb.2 it (Ne.symm hne)).trans q, hne, hea, hai⟩, fun b hb => ?_⟩
    · have e1 : ((i + 1 : Nat) : Int) = (i : Int) + 1 := by omega
      rw [e1]; exact he'
    · have hb' : b < s.heap.objs.size := by
        have e' : b = e ∨ b = it := by simpa using hb
        rcases e' with z | z
        · rw [z]; exact hel
        · rw [z]; exact hil
      rw [upd_ne (Nat.ne_of_lt hb')]
      exact (hf b hb).1
  done := by
    intro X hP hw hK hc i pins s σ H E I hf st hg
    subst hP hw hK
    obtain ⟨⟨old, he⟩, hit, hne, hea, hai⟩ := st
    obtain ⟨xs, hq, hx⟩ := hg
    obtain ⟨its, rv, p, hz⟩ := I.tuple hq
    obtain ⟨f0, f1, f2, f3, f4, f5⟩ := hf it (by simp)
    have hl := rv.length
    have hn : i = its.toArray.size := by simp; omega
    have Dw : Draws X.prog X.w X.A.in1 it [it, a] its.toArray.size (fun i v => its.toArray[i]? = some v) (fun i h => h.IsTupleIter it a i ∧ h.IsTuple a its.toArray) := Draws.tuple (show X.A.in1.handled = none from I.ok.hd hc) it a hai its.toArray
    refine wpAny_pyNext_enum_endD Dw he (show s.heap.IsTupleIter it a its.toArray.size ∧ s.heap.IsTuple a its.toArray from ⟨hn ▸ hit, p⟩) fun h' eb => ⟨rfl, I.turned (t' := s.toks) (fun b o hb q => eb b o hb q) f0 f1 f3 f4 f5⟩
  self := fun A i s Q E st h => let ⟨⟨_, he⟩, _⟩ := st; wpAny_pyIter_enum he h
def iEnumT (K : PySem.W.Frag) (ta : TA) : TI := fun σ H R => ta σ H fun vs H1 => ∃ a xs, vs = [.ref a] ∧ SqT K H1 a xs ∧ R (IteT K a) H1
theorem pi_enumT {X : Cx} {e : Expr} {ta : TA} {p pos tpos : Pos} {elts : List Expr} {kk : Nat} (hg : Gl X "enumerate") (hm : X.mg "enumerate" = none) (ha : PA X [e] ta) (hs : starEach [e] X.env = [(false, eval e X.env)] := by rfl) :
    PI X (.Tuple elts kk tpos) (.Call (.Name "enumerate" p) [e] [] pos) (iEnumT X.K ta) := by
  refine ⟨fun pins s σ H R I h => ?_⟩
  refine Call_ (ld_blt I hg hm boot_enumerate (PyProof.Rows.callWith_type1 (thn (ha.run pos pins s σ H _ I h) fun us s1 ⟨vs, H1, I1, r1, q1⟩ => ?_) hs rfl))
  obtain ⟨a, xs, ex, hq, q⟩ := q1
  subst ex
  cases r1 with
  | cons r rr =>
    cases rr
    cases r
    obtain ⟨its, rv, p', hz⟩ := I1.tuple hq
    have hal : a < s1.heap.objs.size := p'.lt
    refine ev_enum_begins (begins_tuple a its.toArray) p' fun h' he hit hsz hk => wpAny_pyIter_enum he ?_
    have I2 : Inv X pins σ H1 { s1 with heap := h' } := I1.kept (t' := s1.toks) hk
    refine ⟨s1.heap.objs.size + 1, [s1.heap.objs.size + 1, s1.heap.objs.size], _, _, H1, rfl, I2, turn_enumT a (s1.heap.objs.size + 1) s1.heap.objs.size, ⟨⟨.none, he⟩, ⟨_, hit, rfl, rfl⟩, Nat.succ_ne_self _, by have := hal; exact Nat.ne_of_gt (Nat.lt_succ_of_lt hal), Nat.ne_of_lt hal⟩, fun b hb => ?_, q⟩
    have e' : b = s1.heap.objs.size + 1 ∨ b = s1.heap.objs.size := by simpa using hb
    have hle : s1.heap.objs.size ≤ b := by
      rcases e' with z | z
      · rw [z]; exact Nat.le_add_right _ _
      · rw [z]; exact Nat.le_refl _
    exact I1.fpOk hle (I1.hok.fresh hle)
/-- of a list or a tuple -/
def iEnumA (K : PySem.W.Frag) (ta : TA) : TI := fun σ H R => ta σ H fun vs H1 => ∃ a xs, vs = [.ref a] ∧ ((SqL K H1 a xs ∧ R (Ite K a) H1) ∨ (SqT K H1 a xs ∧ R (IteT K a) H1))
theorem pi_enumA {X : Cx} {e : Expr} {ta : TA} {p pos tpos : Pos} {elts : List Expr} {kk : Nat} (hg : Gl X "enumerate") (hm : X.mg "enumerate" = none) (ha : PA X [e] ta) (hs : starEach [e] X.env = [(false, eval e X.env)] := by rfl) :
    PI X (.Tuple elts kk tpos) (.Call (.Name "enumerate" p) [e] [] pos) (iEnumA X.K ta) := by
  refine ⟨fun pins s σ H R I h => ?_⟩
  refine Call_ (ld_blt I hg hm boot_enumerate (PyProof.Rows.callWith_type1 (thn (ha.run pos pins s σ H _ I h) fun us s1 ⟨vs, H1, I1, r1, q1⟩ => ?_) hs rfl))
  obtain ⟨a, xs, ex, hq⟩ := q1
  subst ex
  cases r1 with
  | cons r rr =>
    cases rr
    cases r
    rcases hq with ⟨hq, q⟩ | ⟨hq, q⟩
    · obtain ⟨its, rv, p', hz⟩ := I1.list hq
      refine call_enumerate_list p'.isList fun h' he hit hsz hk => wpAny_pyIter_enum he ?_
      have I2 : Inv X pins σ H1 { s1 with heap := h' } := I1.kept (t' := s1.toks) hk
      refine ⟨s1.heap.objs.size + 1, [s1.heap.objs.size + 1, s1.heap.objs.size], _, _, H1, rfl, I2, turn_enum a (s1.heap.objs.size + 1) s1.heap.objs.size, ⟨⟨.none, he⟩, hit, Nat.succ_ne_self _⟩, fun b hb => ?_, q⟩
      have e' : b = s1.heap.objs.size + 1 ∨ b = s1.heap.objs.size := by simpa using hb
      have hle : s1.heap.objs.size ≤ b := by
        rcases e' with z | z
        · rw [z]; exact Nat.le_add_right _ _
        · rw [z]; exact Nat.le_refl _
      exact I1.fpOk hle (I1.hok.fresh hle)
    · obtain ⟨its, rv, p', hz⟩ := I1.tuple hq
      have hal : a < s1.heap.objs.size := p'.lt
      refine ev_enum_begins (begins_tuple a its.toArray) p' fun h' he hit hsz hk => wpAny_pyIter_enum he ?_
      have I2 : Inv X pins σ H1 { s1 with heap := h' } := I1.kept (t' := s1.toks) hk
      refine ⟨s1.heap.objs.size + 1, [s1.heap.objs.size + 1, s1.heap.objs.size], _, _, H1, rfl, I2, turn_enumT a (s1.heap.objs.size + 1) s1.heap.objs.size, ⟨⟨.none, he⟩, ⟨_, hit, rfl, rfl⟩, Nat.succ_ne_self _, Nat.ne_of_gt (Nat.lt_succ_of_lt hal), Nat.ne_of_lt hal⟩, fun b hb => ?_, q⟩
      have e' : b = s1.heap.objs.size + 1 ∨ b = s1.heap.objs.size := by simpa using hb
      have hle : s1.heap.objs.size ≤ b := by
        rcases e' with z | z
        · rw [z]; exact Nat.le_add_right _ _
        · rw [z]; exact Nat.le_refl _
      exact I1.fpOk hle (I1.hok.fresh hle)
theorem enum_get {xs : List D} {i : Nat} {d : D} (h : (enums xs)[i]? = some d) : ∃ x, xs[i]? = some x ∧ d = .tup [.int (i : Int), x] := by
  unfold enums at h
  rw [List.getElem?_zipWith] at h
  cases hx : xs[i]? with
  | none => rw [hx] at h; cases h2 : (List.range xs.length)[i]? <;> rw [h2] at h <;> cases h
  | some x =>
    have hi : i < xs.length := by
      rcases Nat.lt_or_ge i xs.length with z | z
      · exact z
      · rw [List.getElem?_eq_none z] at hx; cases hx
    rw [hx, List.getElem?_range hi] at h
    cases h
    exact ⟨x, rfl, rfl⟩
theorem enums_length (xs : List D) : (enums xs).length = xs.length := by simp [enums]
theorem si_enum {X : Cx} {a : Expr} {fa : Env → Sto → R D} {p pos : Pos} {x : Str} {es : List Expr} {kk : Nat} {tpos : Pos} (hx : x = "enumerate") (hc : X.calm = true) (hg : Gl X x) (hm : X.mg x = none) (hst : isStar a = false) (ha : SE X a fa) :
    SI X (.Tuple es kk tpos) (.Call (.Name x p) [a] [] pos) (fun ρ S => bnd (fa ρ S) fun d S1 => enumD S1 d) := by
  subst hx
  intro ρ S src S' e m σ H he hs
  obtain ⟨x, S1, e1, e⟩ := bnd_eq e
  refine WI.of (pi_enumA hg hm (pa_cons (pe_W a) pa_nil (ns_of hst _ _)) (by rw [ns_of hst]; rfl)) ((ha ρ S _ _ e1 m σ H he hs).mono fun v H1 ⟨m1, p1, t1, r1, q1⟩ => ?_)
  unfold enumD at e
  split at e
  · rename_i ys
    cases e
    cases q1 with
    | @tup a vs _ ha' hra =>
      refine ⟨a, vs, rfl, .inr ⟨ha', m1, p1, t1, r1, ⟨fun i d hd m3 H3 S3 p3 t3 r3 _ => ?_, fun m3 H3 S3 p3 t3 r3 _ => ⟨vs, t3.sq ha', ?_⟩⟩⟩⟩
      · obtain ⟨x, hx, rfl⟩ := enum_get hd
        obtain ⟨vx, h1, h2⟩ := hra.get hx
        refine ⟨⟨vs, vx, t3.sq ha', h1⟩, fun z H4 hz => ?_⟩
        obtain ⟨T, x', rfl, hT, rfl, f1⟩ := hz
        have e1 := f1 vs (t3.sq ha'); rw [h1] at e1; cases e1
        exact pair_new r3 (.int _) (h2.mono t3 p3) hT
      · rw [← hra.length]; exact (enums_length _).symm
  · split at e
    · rename_i xs hxs
      cases e
      cases q1 with
      | @ref _ a ea =>
        obtain ⟨vs, h1, h2⟩ := r1.items ea hxs
        refine ⟨a, vs, rfl, .inl ⟨h1, m1, p1, t1, r1, ⟨fun i d hd m3 H3 S3 p3 t3 r3 ok => ?_, fun m3 H3 S3 p3 t3 r3 ok => ?_⟩⟩⟩
        · obtain ⟨x, hx, rfl⟩ := enum_get hd
          obtain ⟨vs', g1, g2⟩ := r3.items (pre_get p3 ea) (ok (_, xs) (List.mem_cons_self ..))
          obtain ⟨vx, k1, k2⟩ := g2.get hx
          refine ⟨⟨vs', vx, g1, k1⟩, fun z H4 hz => ?_⟩
          obtain ⟨T, x', rfl, hT, rfl, f1⟩ := hz
          have e1 := f1 vs' g1; rw [k1] at e1; cases e1
          exact pair_new r3 (.int _) k2 hT
        · obtain ⟨vs', g1, g2⟩ := r3.items (pre_get p3 ea) (ok (_, xs) (List.mem_cons_self ..))
          exact ⟨vs', g1, by rw [← g2.length]; exact Nat.le_of_eq (enums_length xs).symm⟩
    · cases e
  · cases e
end Ev
end
section
set_option Elab.async false
set_option linter.all false
set_option maxRecDepth 100000
set_option maxHeartbeats 4000000
/-! Comprehensions. -/
namespace Ev
open PySem PySem.Spec PyProof.Rows L2

theorem wipe_get {σ : L2.St} {j : Nat} : ∀ {vs : List Nat}, (wipe σ vs)[j]? = if j ∈ vs ∧ j < σ.length then some none else σ[j]?
  | [] => by simp [wipe]
  | v :: vs => by
    unfold wipe
    have ih := wipe_get (σ := σ) (j := j) (vs := vs)
    by_cases hv : v = j
    · subst hv
      by_cases hl : v < σ.length
      · rw [List.getElem?_set_self (by rw [wipe_length]; exact hl), if_pos ⟨by simp, hl⟩]
      · rw [List.getElem?_eq_none (by rw [List.length_set, wipe_length]; omega), if_neg (fun z => hl z.2), List.getElem?_eq_none (by omega)]
    · rw [List.getElem?_set_ne hv, ih]
      have : (j ∈ v :: vs) ↔ j ∈ vs := by simp [Ne.symm hv]
      simp only [this]
theorem wipeE_get {ρ : Env} {j : Nat} : ∀ {vs : List Nat}, (wipeE ρ vs)[j]? = if j ∈ vs ∧ j < ρ.length then some none else ρ[j]?
  | [] => by simp [wipeE]
  | v :: vs => by
    unfold wipeE
    have ih := wipeE_get (ρ := ρ) (j := j) (vs := vs)
    have hlen : (wipeE ρ vs).length = ρ.length := by
      clear ih
      induction vs with
      | nil => rfl
      | cons w ws ih => unfold wipeE; rw [List.length_set, ih]
    by_cases hv : v = j
    · subst hv
      by_cases hl : v < ρ.length
      · rw [List.getElem?_set_self (by rw [hlen]; exact hl), if_pos ⟨by simp, hl⟩]
      · rw [List.getElem?_eq_none (by rw [List.length_set, hlen]; omega), if_neg (fun z => hl z.2), List.getElem?_eq_none (by omega)]
    · rw [List.getElem?_set_ne hv, ih]
      have : (j ∈ v :: vs) ↔ j ∈ vs := by simp [Ne.symm hv]
      simp only [this]
theorem wipeE_length (ρ : Env) : ∀ vs : List Nat, (wipeE ρ vs).length = ρ.length
  | [] => rfl
  | v :: vs => by unfold wipeE; rw [List.length_set, wipeE_length ρ vs]
theorem RE.wipe {K : PySem.W.Frag} {H : Hp} {m : List Addr} {ρ : Env} {σ : L2.St} (h : RE K H m ρ σ) (vs : List Nat) : RE K H m (wipeE ρ vs) (L2.wipe σ vs) := by
  refine ⟨by rw [wipeE_length, wipe_length, h.len], fun i d e => ?_⟩
  rw [wipeE_get] at e
  split at e
  · cases e
  · rename_i hn
    obtain ⟨v, h1, h2⟩ := h.get i d e
    refine ⟨v, ?_, h2⟩
    rw [wipe_get, if_neg (by rw [← h.len]; exact hn)]
    exact h1
theorem wipe_but {is vs : List Nat} {σ σ2 : L2.St} (h : But is (L2.wipe σ vs) σ2) (hs : ∀ i ∈ is, i ∈ vs) : L2.wipe σ2 vs = L2.wipe σ vs := by
  apply List.ext_getElem?
  intro j
  rw [wipe_get, wipe_get]
  have hl : σ2.length = σ.length := by rw [h.1, wipe_length]
  rw [hl]
  split
  · rfl
  · rename_i hn
    by_cases hj : j ∈ vs
    · have : ¬ j < σ.length := fun z => hn ⟨hj, z⟩
      rw [List.getElem?_eq_none (by omega), List.getElem?_eq_none (by omega)]
    · rw [h.2 j (fun z => hj (hs j z)), wipe_get, if_neg hn]

section
variable {X : Cx} {elt tg iter : Expr} {ifs : List Expr} {scope : Scope} {own : List (Str × Nat)} {pos : Pos}
/-- the block's context -/
abbrev Blk (X : Cx) (scope : Scope) (s : Shared) (H : Hp) (C : Addr) (cl : List (Str × Addr)) (fp : List Addr) : Cx := X.blk s H scope (compEnvC scope cl C X.env) fp
/-- the tests of a comprehension: none, or one -/
def SCo (X : Cx) (ifs : List Expr) (f : Env → Sto → R (Option D)) : Prop := (ifs = [] ∧ f = fun _ S => some (none, S)) ∨ ∃ c fc, ifs = [c] ∧ ST X c fc ∧ f = fun ρ S => bnd (fc ρ S) fun d S1 => some (some d, S1)
def WTs (X : Cx) (ifs : List Expr) (σ : L2.St) (H : Hp) (Q : Bool → Hp → Prop) : Prop := ∃ t, PTs X ifs t ∧ t σ H Q
theorem pts_W (ifs : List Expr) : PTs X ifs (WTs X ifs) := ⟨fun pins s σ H Q I ⟨t, ht, q⟩ => ht.run pins s σ H Q I q⟩
theorem tLc_core {f : Env → Sto → R Src} {fe : Env → Sto → R D} {fc : Env → Sto → R (Option D)} {t : Tg} (hi : SI X tg iter f) (hsl : ∀ i ∈ t.slots, i ∈ own.map (·.2))
    (hg : ∀ s H C cl fp, SG (Blk X scope s H C cl fp) tg t) (ht : ∀ s H C cl fp, SCo (Blk X scope s H C cl fp) ifs fc) (he : ∀ s H C cl fp, SE (Blk X scope s H C cl fp) elt fe)
    {ρ : Env} {S S' : Sto} {d : D} (e : (bnd (f ρ S) fun s S1 => bnd (compL s S1.length (stepC fe fc t (wipeE ρ (own.map (·.2)))) s.items (S1 ++ [.lst []])) fun _ S9 => some (.ref S1.length, S9)) = some (d, S'))
    {m : List Addr} {σ : L2.St} {H : Hp} (hE : RE X.K H m ρ σ) (hS : RS X.K H m S) {Q : VK} (hQ : ∀ v H', PV X.K m H S' d v H' → Q v H') :
    tLc (WI X tg iter) (fun v σ H Q => ∀ s0 H0 C cl fp, WG (Blk X scope s0 H0 C cl fp) tg v σ H Q) (fun σ H Q => ∀ s0 H0 C cl fp, WTs (Blk X scope s0 H0 C cl fp) ifs σ H Q) (fun σ H Q => ∀ s0 H0 C cl fp, WE (Blk X scope s0 H0 C cl fp) elt σ H Q) (own.map (·.2)) σ H Q := by
  obtain ⟨src, S1, e1, e⟩ := bnd_eq e
  obtain ⟨_, S9, e2, e⟩ := bnd_eq e
  cases e
  refine (hi ρ S src S1 e1 m σ H hE hS).mono fun J H1 ⟨m1, p1, t1, r1, wk⟩ => ?_
  intro Dd hD
  have hlen : m1.length = S1.length := r1.len
  have r1' : RS X.K (upd H1 Dd (.lst [])) (m1 ++ [Dd]) (S1 ++ [.lst []]) := r1.new hD ⟨[], upd_same, .nil⟩
  have hDm : (m1 ++ [Dd])[S1.length]? = some Dd := by rw [← hlen, List.getElem?_append_right (Nat.le_refl _)]; simp
  refine ⟨fun i cnt H2 => ∃ S2 m2, cnt = src.items.length - i ∧ i ≤ src.items.length ∧ (m1 ++ [Dd]) <+: m2 ∧ TK (upd H1 Dd (.lst [])) H2 ∧ RS X.K H2 m2 S2 ∧ compL src S1.length (stepC fe fc t (wipeE ρ (own.map (·.2)))) (src.items.drop i) S2 = some ((), S'),
    ⟨_, _, m1 ++ [Dd], rfl, Nat.zero_le _, List.prefix_refl _, TK.refl _, r1', e2⟩, ?_⟩
  rintro i cnt H2 ⟨S2, m2, rfl, hi', p2, t2, r2, e3⟩
  have tk : TK H1 H2 := (TK.new hD).trans t2
  have pp : m1 <+: m2 := (List.prefix_append _ _).trans p2
  rcases Nat.lt_or_ge i src.items.length with hlt | hge
  · -- a turn
    have hd : src.items[i]? = some src.items[i] := List.getElem?_eq_getElem hlt
    rw [List.drop_eq_getElem_cons hlt] at e3
    unfold compL at e3
    split at e3
    · rename_i ok
      obtain ⟨o, S3, e4, e3⟩ := bnd_eq e3
      obtain ⟨g1, g2⟩ := wk.go i _ hd m2 H2 S2 pp tk r2 ok
      refine .inr ⟨g1, fun H' => ∃ S2 m2, i + 1 ≤ src.items.length ∧ (m1 ++ [Dd]) <+: m2 ∧ TK (upd H1 Dd (.lst [])) H' ∧ RS X.K H' m2 S2 ∧ compL src S1.length (stepC fe fc t (wipeE ρ (own.map (·.2)))) (src.items.drop (i + 1)) S2 = some ((), S'),
        fun H' ⟨S2, m2, a1, a2, a3, a4, a5⟩ => ⟨src.items.length - (i + 1), by omega, S2, m2, rfl, a1, a2, a3, a4, a5⟩, fun x H3 hx => ?_⟩
      obtain ⟨t3, r3, q3⟩ := g2 x H3 hx
      unfold stepC at e4
      cases hst : setT t src.items[i] (wipeE ρ (own.map (·.2))) with
      | none => rw [hst] at e4; cases e4
      | some ρ2 =>
        rw [hst] at e4
        intro s0 H0 C cl fp
        have hE2 : RE X.K H3 m2 (wipeE ρ (own.map (·.2))) (L2.wipe σ (own.map (·.2))) := ((hE.mono (t1.trans (tk.trans t3)) (p1.trans pp))).wipe _
        refine (hg s0 H0 C cl fp _ _ ρ2 hst m2 _ H3 x hE2 q3).mono fun σ2 H4 ⟨eH, hE3, hbut⟩ => ?_
        subst eH
        refine ⟨wipe_but hbut hsl, ?_⟩
        intro s1 H10 C1 cl1 fp1
        -- what follows the test, if the item is kept
        have keep : ∀ (S4 : Sto) (y : D) (m4 : List Addr) (H5 : Hp), m2 <+: m4 → TK H4 H5 → RS X.K H5 m4 S4 → fe ρ2 S4 = some (y, S3) → o = some y → ∀ s2 H20 C2 cl2 fp2, WE (Blk X scope s2 H20 C2 cl2 fp2) elt σ2 H5 (fun v H6 => ∃ acc, H6 Dd = some (.lst acc) ∧ acc.length < sizeLine ∧
            ∃ S2 m2, i + 1 ≤ src.items.length ∧ (m1 ++ [Dd]) <+: m2 ∧ TK (upd H1 Dd (.lst [])) (upd H6 Dd (.lst (acc ++ [v]))) ∧ RS X.K (upd H6 Dd (.lst (acc ++ [v]))) m2 S2 ∧ compL src S1.length (stepC fe fc t (wipeE ρ (own.map (·.2)))) (src.items.drop (i + 1)) S2 = some ((), S')) := by
          intro S4 y m4 H5 p4 t4 r4 ey eo s2 H20 C2 cl2 fp2
          subst eo
          refine (he s2 H20 C2 cl2 fp2 ρ2 S4 y S3 ey m4 σ2 H5 (hE3.mono t4 p4) r4).mono fun v H6 ⟨m5, p5, t5, r5, q5⟩ => ?_
          have p25 : m2 <+: m5 := p4.trans p5
          have hDm5 : m5[S1.length]? = some Dd := pre_get (p2.trans p25) hDm
          simp only at e3
          split at e3
          · rename_i acc hacc
            split at e3
            · rename_i hz
              obtain ⟨vs, h1, h2⟩ := r5.obj _ Dd _ hDm5 hacc
              refine ⟨vs, h1, by rw [← h2.length]; exact lt_size hz, S3.set S1.length (.lst (acc ++ [y])), m5, hlt, p2.trans p25, ?_, r5.write hDm5 h1 (h2.append (.cons q5 .nil)), e3⟩
              exact ((t2.trans t3).trans (t4.trans t5)).trans (TK.lst h1)
            · cases e3
          · cases e3
        obtain ⟨c0, S4, e5, e4⟩ := bnd_eq e4
        rcases ht s1 H10 C1 cl1 fp1 with ⟨rfl, rfl⟩ | ⟨c, fcc, rfl, hst', rfl⟩
        · cases e5
          obtain ⟨y, S5, e6, e4⟩ := bnd_eq e4
          cases e4
          exact ⟨_, pts_nil, keep _ y m2 H4 (List.prefix_refl _) (TK.refl _) r3 e6 rfl⟩
        · obtain ⟨dv, S5, e6, e5⟩ := bnd_eq e5
          cases e5
          cases hk : truthD S4 dv with
          | none => simp only [hk] at e4; cases e4
          | some kk =>
            simp only [hk] at e4
            refine ⟨_, pts_one (pt_W c), (hst' ρ2 S2 dv S4 e6 kk hk m2 σ2 H4 hE3 r3).mono fun b H5 ⟨eb, m4, p4, t4, r4, _⟩ => ?_⟩
            subst eb
            cases b with
            | true =>
              simp only at e4
              obtain ⟨y, S6, e7, e4⟩ := bnd_eq e4
              cases e4
              show ∀ s0 H0 C cl fp, _
              exact keep S4 y m4 H5 p4 t4 r4 e7 rfl
            | false =>
              cases e4
              exact ⟨S3, m4, hlt, p2.trans p4, (t2.trans t3).trans t4, r4, e3⟩
    · cases e3
  · -- the end
    have hz : i = src.items.length := by omega
    subst hz
    rw [List.drop_length] at e3
    unfold compL at e3
    split at e3
    · rename_i ok
      cases e3
      refine .inl ⟨wk.stop m2 H2 _ pp tk r2 ok, hQ _ _ ⟨m2, p1.trans pp, t1.trans tk, r2, .ref (pre_get p2 hDm)⟩⟩
    · cases e3
end
end Ev
end
section
set_option Elab.async false
set_option linter.all false
set_option maxRecDepth 100000
set_option maxHeartbeats 4000000
/-! Statements. -/
namespace Ev
open PySem PySem.Spec PyProof.Rows L2

def PN (K : PySem.W.Frag) (m : List Addr) (H : Hp) (S' : Sto) (ρ' : Env) (σ' : L2.St) (H' : Hp) : Prop := PH K m H S' (fun m' H' => RE K H' m' ρ' σ') H'
/-- what is wanted behind a statement that ends by fl -/
structure Wants (K : PySem.W.Frag) (m : List Addr) (H : Hp) (S' : Sto) (fl : Fl) (Dn : Ends) : Prop where
  nx : ∀ ρ' σ' H', fl = .nx ρ' → PN K m H S' ρ' σ' H' → Dn.nx σ' H'
  rt : ∀ d v H', fl = .ret d → PV K m H S' d v H' → Dn.rt v H'
def SS (X : Cx) (st : Stmt) (f : Env → Sto → R Fl) : Prop := ∀ ρ S fl S', f ρ S = some (fl, S') → ∀ m σ H, RE X.K H m ρ σ → RS X.K H m S → ∀ Dn : Ends, Wants X.K m H S' fl Dn → WS X st Dn σ H
def SSs (X : Cx) (sts : List Stmt) (f : Env → Sto → R Fl) : Prop := ∀ ρ S fl S', f ρ S = some (fl, S') → ∀ m σ H, RE X.K H m ρ σ → RS X.K H m S → ∀ Dn : Ends, Wants X.K m H S' fl Dn → WSs X sts Dn σ H
theorem Wants.up {K : PySem.W.Frag} {m m1 : List Addr} {H H1 : Hp} {S' : Sto} {fl : Fl} {Dn : Ends} (w : Wants K m H S' fl Dn) (p : m <+: m1) (t : TK H H1) : Wants K m1 H1 S' fl Dn :=
  ⟨fun ρ' σ' H' e h => w.nx ρ' σ' H' e (PH.imp h p t fun _ _ _ z => z), fun d v H' e h => w.rt d v H' e (h.up p t)⟩

section
variable {X : Cx} {k : Nat} {tg e a b c : Expr} {pos p : Pos} {fa fb fc fe : Env → Sto → R D} {st : Stmt} {body rest : List Stmt}
theorem sss_nil : SSs X [] (fun ρ S => some (.nx ρ, S)) := by
  intro ρ S fl S' e m σ H he hs Dn w
  cases (show some (Fl.nx ρ, S) = some (fl, S') from e)
  exact WSs.of pss_nil (w.nx ρ σ H rfl ⟨m, List.prefix_refl m, TK.refl H, hs, he⟩)
def fSeq (f g : Env → Sto → R Fl) : Env → Sto → R Fl := fun ρ S => bnd (f ρ S) fun fl S1 => match fl with
  | .nx ρ' => g ρ' S1
  | .ret d => some (.ret d, S1)
theorem sss_cons {f g : Env → Sto → R Fl} (h1 : SS X st f) (h2 : SSs X rest g) : SSs X (st :: rest) (fSeq f g) := by
  intro ρ S fl S' e m σ H he hs Dn w
  obtain ⟨f1, S1, e1, e⟩ := bnd_eq e
  refine WSs.of (pss_cons (ps_W st) (pss_W rest)) (h1 ρ S f1 S1 e1 m σ H he hs _ ⟨fun ρ' σ' H' ef h => ?_, fun d v H' ef h => ?_⟩)
  · subst ef
    obtain ⟨m1, p1, t1, r1, q1⟩ := h
    exact h2 ρ' S1 fl S' e m1 σ' H' q1 r1 Dn (w.up p1 t1)
  · subst ef
    cases e
    exact w.rt d v H' rfl h
theorem ss_pass : SS X (.Pass pos) (fun ρ S => some (.nx ρ, S)) := by
  intro ρ S fl S' e m σ H he hs Dn w
  cases (show some (Fl.nx ρ, S) = some (fl, S') from e)
  exact WS.of ps_pass (w.nx ρ σ H rfl ⟨m, List.prefix_refl m, TK.refl H, hs, he⟩)
theorem ss_doc {x : Str} {j : Nat} {p' : Pos} : SS X (.Expr (.Constant (.str x) j p) p') (fun ρ S => some (.nx ρ, S)) := by
  intro ρ S fl S' e m σ H he hs Dn w
  cases (show some (Fl.nx ρ, S) = some (fl, S') from e)
  exact WS.of ps_doc (w.nx ρ σ H rfl ⟨m, List.prefix_refl m, TK.refl H, hs, he⟩)
theorem ss_expr (hs : swapsWith a none pos.line X.env = pure false) (ha : SE X a fa) : SS X (.Expr a pos) (fun ρ S => bnd (fa ρ S) fun _ S1 => some (.nx ρ, S1)) := by
  intro ρ S fl S' e m σ H he hss Dn w
  obtain ⟨x, S1, e1, e⟩ := bnd_eq e
  cases e
  exact WS.of (ps_expr (pe_W a) hs) ((ha ρ S x _ e1 m σ H he hss).mono fun v H1 ⟨m1, p1, t1, r1, q1⟩ => w.nx ρ σ H1 rfl ⟨m1, p1, t1, r1, he.mono t1 p1⟩)
theorem ss_ret (ha : SE X a fa) : SS X (.Return (some a) pos) (fun ρ S => bnd (fa ρ S) fun d S1 => some (.ret d, S1)) := by
  intro ρ S fl S' e m σ H he hs Dn w
  obtain ⟨x, S1, e1, e⟩ := bnd_eq e
  cases e
  exact WS.of (ps_ret (pe_W a)) ((ha ρ S x _ e1 m σ H he hs).mono fun v H1 h => w.rt x v H1 rfl h)
theorem ss_if {f g : Env → Sto → R Fl} (hc : ST X c fc) (ha : SSs X body f) (hb : SSs X rest g) : SS X (.If c body rest pos) (fun ρ S => bnd (bnd (fc ρ S) fun x S1 => (truthD S1 x).map fun k => (k, S1)) fun t S1 => if t = true then f ρ S1 else g ρ S1) := by
  intro ρ S fl S' e m σ H he hs Dn w
  obtain ⟨t, S1, e1, e⟩ := bnd_eq e
  obtain ⟨x, S2, e2, e1⟩ := bnd_eq e1
  cases hk : truthD S2 x with
  | none => rw [hk] at e1; cases e1
  | some kk =>
    rw [hk] at e1; cases e1
    refine WS.of (ps_if (pt_W c) (pss_W body) (pss_W rest)) ((hc ρ S x _ e2 t hk m σ H he hs).mono fun b1 H1 ⟨eb, m1, p1, t1, r1, _⟩ => ?_)
    subst eb
    cases b1 with
    | true => exact ha ρ _ fl S' e m1 σ H1 (he.mono t1 p1) r1 Dn (w.up p1 t1)
    | false => exact hb ρ _ fl S' e m1 σ H1 (he.mono t1 p1) r1 Dn (w.up p1 t1)
theorem ss_asg {t : Tg} (hs : swapsWithSole [tg] a pos.line X.env = pure false) (hw : swappedStores [tg] a X.env = pure none) (h1 : (assignEach [tg] X.env).map (·.2) = [assign tg X.env]) (ha : SE X a fa) (hg : SG X tg t) :
    SS X (.Assign [tg] a pos) (fun ρ S => bnd (fa ρ S) fun d S1 => (setT t d ρ).map fun ρ' => (.nx ρ', S1)) := by
  intro ρ S fl S' e m σ H he hss Dn w
  obtain ⟨x, S1, e1, e⟩ := bnd_eq e
  cases hst : setT t x ρ with
  | none => rw [hst] at e; cases e
  | some ρ' =>
    rw [hst] at e; cases e
    refine WS.of (ps_asg (pe_W a) (pg_W tg) hs hw h1) ((ha ρ S x _ e1 m σ H he hss).mono fun v H1 ⟨m1, p1, t1, r1, q1⟩ => ?_)
    refine (hg x ρ ρ' hst m1 σ H1 v (he.mono t1 p1) q1).mono fun σ' H' ⟨eH, hE, _⟩ => ?_
    subst eH
    exact w.nx ρ' σ' H' rfl ⟨m1, p1, t1, r1, hE⟩
theorem ss_par {i j : Nat} {x y : Str} {px py pt pt2 : Pos} {kt k2 : Nat} (hc : X.calm = true) (hN : X.N.Nodup) (hi : X.N[i]? = some x) (hj : X.N[j]? = some y) (hij : i ≠ j) (hx : X.env.scope.names.lookup x = some .local) (hy : X.env.scope.names.lookup y = some .local)
    (hw : swappedStores [.Tuple [.Name x px, .Name y py] kt pt] (.Tuple [a, b] k2 pt2) X.env = pure (some [x, y])) (hst : isStar a = false) (hst' : isStar b = false) (ha : SE X a fa) (hb : SE X b fb) :
    SS X (.Assign [.Tuple [.Name x px, .Name y py] kt pt] (.Tuple [a, b] k2 pt2) pos) (fun ρ S => bnd (fa ρ S) fun u S1 => bnd (fb ρ S1) fun v S2 => some (.nx ((ρ.set i (some u)).set j (some v)), S2)) := by
  intro ρ S fl S' e m σ H he hss Dn w
  obtain ⟨u, S1, e1, e⟩ := bnd_eq e
  obtain ⟨v, S2, e2, e⟩ := bnd_eq e
  cases e
  refine WS.of (ps_par hc hN hi hj hij hx hy (pa_cons (pe_W a) (pa_cons (pe_W b) pa_nil (ns_of hst' _ _)) (ns_of hst _ _)) hw rfl) ((ha ρ S u _ e1 m σ H he hss).mono fun vu H1 ⟨m1, p1, t1, r1, q1⟩ => ?_)
  refine (hb ρ S1 v _ e2 m1 σ H1 (he.mono t1 p1) r1).mono fun vv H2 ⟨m2, p2, t2, r2, q2⟩ => ?_
  exact ⟨vu, vv, rfl, w.nx _ _ H2 rfl ⟨m2, p1.trans p2, t1.trans t2, r2, ((he.mono (t1.trans t2) (p1.trans p2)).set i (q1.mono t2 p2)).set j q2⟩⟩
theorem ss_setIx {p' : Pos} (ha' : ∀ v, assign (.Subscript b c p) X.env v = (do
      let ov ← holding [v] (eval b X.env)
      let iv ← holding [v, ov] (eval c X.env)
      standAt p
      holding [v, ov, iv] (setItem ov iv v)
      release [v, ov, iv] [])) (hs : swapsWithSole [.Subscript b c p] a p'.line X.env = pure false) (hw : swappedStores [.Subscript b c p] a X.env = pure none) (ha : SE X a fa) (hb : SE X b fb) (hc : SE X c fc) :
    SS X (.Assign [.Subscript b c p] a p') (fun ρ S => bnd (fa ρ S) fun d S1 => bnd (fb ρ S1) fun x S2 => bnd (fc ρ S2) fun y S3 => setIxD S3 ρ x y d) := by
  intro ρ S fl S' e m σ H he hss Dn w
  obtain ⟨d, S1, e1, e⟩ := bnd_eq e
  obtain ⟨x, S2, e2, e⟩ := bnd_eq e
  obtain ⟨y, S3, e3, e⟩ := bnd_eq e
  refine WS.of (ps_asg (pe_W a) (pg_sub (pe_W b) (pe_W c) set_list ha') hs hw rfl) ((ha ρ S d _ e1 m σ H he hss).mono fun vd H1 ⟨m1, p1, t1, r1, q1⟩ => ?_)
  refine (hb ρ S1 x _ e2 m1 σ H1 (he.mono t1 p1) r1).mono fun vx H2 ⟨m2, p2, t2, r2, q2⟩ => ?_
  refine (hc ρ S2 y _ e3 m2 σ H2 (he.mono (t1.trans t2) (p1.trans p2)) r2).mono fun vy H3 ⟨m3, p3, t3, r3, q3⟩ => ?_
  have q1 := q1.mono (t2.trans t3) (p2.trans p3)
  have q2 := q2.mono t3 p3
  unfold setIxD at e
  cases q2 with
  | @ref n ad ea =>
    cases q3 with
    | int kk =>
      simp only at e
      cases hS : S3[n]? with
      | none => simp only [hS] at e; cases e
      | some o =>
        cases o with
        | fz xs => simp only [hS] at e; cases e
        | dt xs => simp only [hS] at e; cases e
        | lst xs =>
          simp only [hS] at e
          cases hj : ixN xs.length kk with
          | none => simp only [hj] at e; cases e
          | some j =>
            simp only [hj] at e
            cases e
            obtain ⟨vs, h1, h2⟩ := r3.obj n ad _ ea hS
            refine ⟨ad, vs, kk, j, rfl, rfl, h1, by rw [← h2.length]; exact hj, w.nx ρ σ _ rfl ?_⟩
            have tt := (t1.trans t2).trans t3
            have pp := (p1.trans p2).trans p3
            exact ⟨m3, pp, tt.trans (TK.lst h1), r3.write ea h1 (h2.set q1 j), he.mono (tt.trans (TK.lst h1)) pp⟩
    | _ => cases e
  | _ => cases e
/-- xs[i] += e -/
def rGetL : V → V → Hp → VK → Prop := fun o i H Q => ∃ p xs k j v, o = .ref p ∧ i = .int k ∧ H p = some (.lst xs) ∧ 0 ≤ k ∧ ixN xs.length k = some j ∧ xs[j]? = some v ∧ Q v H
theorem get_list : PGet X rGetL := by
  intro pins s σ H o i ov iv Q I ro ri h
  obtain ⟨p, xs, k, j, v, rfl, rfl, hp, h0, hj, hv, q⟩ := h
  cases ro
  obtain ⟨t, rfl⟩ := ri
  obtain ⟨its, n, r, ho, hz⟩ := I.lst hp
  obtain ⟨w, ew, rw'⟩ := r.get hv
  have hn := line63
  have hl : j < xs.length := (List.getElem?_eq_some_iff.mp hv).1
  have hk : k.toNat = j ∧ k < xs.length := by
    unfold ixN at hj
    rw [if_pos h0] at hj
    split at hj
    · rename_i z; exact ⟨Option.some.inj hj, z⟩
    · cases hj
  apply wpAny_getItem_list (items := its.toArray) (x := w) ⟨_, ho, rfl, _, rfl⟩ h0 (by omega) (by rw [hk.1]; simpa using ew)
  exact ⟨v, H, I, rw', q⟩
theorem ss_augIx (hi' : ∀ ov iv new, augStore c ov iv new = (do holding [new, ov, iv] (setItem ov iv new); release [new, ov, iv] []; pure .next)) (ha : SE X a fa) (hb : SE X b fb) (hc : SE X c fc) {p' : Pos} :
    SS X (.AugAssign (.Subscript b c p) .Add a p') (fun ρ S => bnd (fb ρ S) fun x S1 => bnd (fc ρ S1) fun y S2 => match augD S2 x y with
    | some m => bnd (fa ρ S2) fun z S3 => (match z with
      | .int b => setIxD S3 ρ x y (.int (m + b))
      | _ => none)
    | none => none) := by
  intro ρ S fl S' e m σ H he hss Dn w
  obtain ⟨x, S1, e1, e⟩ := bnd_eq e
  obtain ⟨y, S2, e2, e⟩ := bnd_eq e
  refine WS.of (ps_augS (pe_W b) (pe_W c) get_list (pe_W a) ip_add set_list hi') ((hb ρ S x _ e1 m σ H he hss).mono fun vx H1 ⟨m1, p1, t1, r1, q1⟩ => ?_)
  refine (hc ρ S1 y _ e2 m1 σ H1 (he.mono t1 p1) r1).mono fun vy H2 ⟨m2, p2, t2, r2, q2⟩ => ?_
  have q1 := q1.mono t2 p2
  split at e
  · rename_i mm hm
    obtain ⟨z, S3, e3, e⟩ := bnd_eq e
    split at e
    · rename_i bb
      unfold augD at hm
      cases q1 with
      | @ref n ad ea =>
        cases q2 with
        | int kk =>
          simp only at hm
          cases hS : S2[n]? with
          | none => simp only [hS] at hm; cases hm
          | some o =>
            cases o with
            | fz xs => simp only [hS] at hm; cases hm
            | dt xs => simp only [hS] at hm; cases hm
            | lst xs =>
              simp only [hS] at hm
              split at hm
              · rename_i j hj
                split at hm
                · rename_i mm' hx
                  split at hm
                  · rename_i h0
                    cases hm
                    obtain ⟨vs, h1, h2⟩ := r2.obj n ad _ ea hS
                    obtain ⟨v, g1, g2⟩ := h2.get hx
                    cases g2
                    refine ⟨ad, vs, kk, j, _, rfl, rfl, h1, h0, by rw [← h2.length]; exact hj, g1, ?_⟩
                    refine (ha ρ S2 _ _ e3 m2 σ H2 (he.mono (t1.trans t2) (p1.trans p2)) r2).mono fun vz H3 ⟨m3, p3, t3, r3, q3⟩ => ?_
                    cases q3
                    refine ⟨_, _, rfl, rfl, ?_⟩
                    unfold setIxD at e
                    simp only at e
                    have ea3 := (RV.ref (K := X.K) (H := H2) ea).mono t3 p3
                    cases ea3 with
                    | ref ea3 =>
                    cases hS3 : S3[n]? with
                    | none => simp only [hS3] at e; cases e
                    | some o =>
                      cases o with
                      | fz xs => simp only [hS3] at e; cases e
                      | dt xs => simp only [hS3] at e; cases e
                      | lst xs3 =>
                        simp only [hS3] at e
                        cases hj3 : ixN xs3.length kk with
                        | none => simp only [hj3] at e; cases e
                        | some j3 =>
                          simp only [hj3] at e
                          cases e
                          obtain ⟨vs3, k1, k2⟩ := r3.obj n ad _ ea3 hS3
                          refine ⟨ad, vs3, kk, j3, rfl, rfl, k1, by rw [← k2.length]; exact hj3, w.nx ρ σ _ rfl ?_⟩
                          have tt := (t1.trans t2).trans t3
                          have pp := (p1.trans p2).trans p3
                          exact ⟨m3, pp, tt.trans (TK.lst k1), r3.write ea3 k1 (k2.set (.int _) j3), he.mono (tt.trans (TK.lst k1)) pp⟩
                  · cases hm
                · cases hm
              · cases hm
        | _ => cases hm
      | _ => cases hm
    · cases e
  · cases e
theorem ss_for {fi : Env → Sto → R Src} {f : Env → Sto → R Fl} {t : Tg} (hp : X.xe = fun _ _ => False) (hc : X.calm = true) (hi : SI X tg a fi) (hg : SG X tg t) (hb : SSs X body f) (hf : ∀ x, foldedSetIterable a X.env x = pure x) :
    SS X (.For tg a body [] pos) (fun ρ S => bnd (fi ρ S) fun s S1 => forL s (stepF t f) s.items ρ S1) := by
  intro ρ S fl S' e m σ H he hs Dn w
  obtain ⟨src, S1, e1, e⟩ := bnd_eq e
  refine WS.of (ps_for (by rw [hp]; exact PassesOwn.never) hc (pi_W tg a) (pg_W tg) (pss_W body) hf) ((hi ρ S src S1 e1 m σ H he hs).mono fun J H1 ⟨m1, p1, t1, r1, wk⟩ => ?_)
  refine ⟨fun i cnt σ2 H2 => ∃ ρ2 S2 m2, cnt = src.items.length - i ∧ i ≤ src.items.length ∧ m1 <+: m2 ∧ TK H1 H2 ∧ RE X.K H2 m2 ρ2 σ2 ∧ RS X.K H2 m2 S2 ∧ forL src (stepF t f) (src.items.drop i) ρ2 S2 = some (fl, S'),
    ⟨_, ρ, S1, m1, rfl, Nat.zero_le _, List.prefix_refl _, TK.refl _, he.mono t1 p1, r1, e⟩, ?_⟩
  rintro i cnt σ2 H2 ⟨ρ2, S2, m2, rfl, hi', p2, t2, hE, r2, e3⟩
  rcases Nat.lt_or_ge i src.items.length with hlt | hge
  · have hd : src.items[i]? = some src.items[i] := List.getElem?_eq_getElem hlt
    rw [List.drop_eq_getElem_cons hlt] at e3
    unfold forL at e3
    split at e3
    · rename_i ok
      obtain ⟨f1, S3, e4, e3⟩ := bnd_eq e3
      obtain ⟨g1, g2⟩ := wk.go i _ hd m2 H2 S2 p2 t2 r2 ok
      refine .inr ⟨g1, fun σ' H' => ∃ ρ2 S2 m2, i + 1 ≤ src.items.length ∧ m1 <+: m2 ∧ TK H1 H' ∧ RE X.K H' m2 ρ2 σ' ∧ RS X.K H' m2 S2 ∧ forL src (stepF t f) (src.items.drop (i + 1)) ρ2 S2 = some (fl, S'),
        fun σ' H' ⟨ρ2, S2, m2, a1, a2, a3, a4, a5, a6⟩ => ⟨src.items.length - (i + 1), by omega, ρ2, S2, m2, rfl, a1, a2, a3, a4, a5, a6⟩, fun x H3 hx => ?_⟩
      obtain ⟨t3, r3, q3⟩ := g2 x H3 hx
      unfold stepF at e4
      cases hst : setT t src.items[i] ρ2 with
      | none => rw [hst] at e4; cases e4
      | some ρ3 =>
        rw [hst] at e4
        refine (hg _ ρ2 ρ3 hst m2 σ2 H3 x (hE.mono t3 (List.prefix_refl _)) q3).mono fun σ3 H4 ⟨eH, hE3, _⟩ => ?_
        subst eH
        refine hb ρ3 S2 f1 S3 e4 m2 σ3 H4 hE3 r3 _ ⟨fun ρ' σ' H' ef h => ?_, fun d v H' ef h => ?_⟩
        · subst ef
          obtain ⟨m5, p5, t5, r5, q5⟩ := h
          exact ⟨ρ', S3, m5, hlt, p2.trans p5, (t2.trans t3).trans t5, q5, r5, e3⟩
        · subst ef
          cases e3
          exact w.rt d v H' rfl ((h.up (p2) (t2.trans t3)).up p1 t1)
    · cases e3
  · have hz : i = src.items.length := by omega
    subst hz
    rw [List.drop_length] at e3
    unfold forL at e3
    split at e3
    · rename_i ok
      cases e3
      exact .inl ⟨wk.stop m2 H2 _ p2 t2 r2 ok, w.nx ρ2 σ2 H2 rfl ⟨m2, p1.trans p2, t1.trans t2, r2, hE⟩⟩
    · cases e3
theorem ss_while {f : Env → Sto → R Fl} (wf : Nat) (hp : X.xe = fun _ _ => False) (hc : ST X c fc) (hb : SSs X body f) :
    SS X (.While c body [] pos) (fun ρ S => whileL (fun ρ S => bnd (fc ρ S) fun x S1 => (truthD S1 x).map fun k => (k, S1)) f wf ρ S) := by
  intro ρ S fl S' e m σ H he hs Dn w
  refine WS.of (ps_while (by rw [hp]; exact PassesOwn.never) (pt_W c) (pss_W body)) ?_
  refine ⟨fun cnt σ2 H2 => ∃ ρ2 S2 m2, m <+: m2 ∧ TK H H2 ∧ RE X.K H2 m2 ρ2 σ2 ∧ RS X.K H2 m2 S2 ∧ whileL (fun ρ S => bnd (fc ρ S) fun x S1 => (truthD S1 x).map fun k => (k, S1)) f cnt ρ2 S2 = some (fl, S'), ⟨wf, ρ, S, m, List.prefix_refl _, TK.refl _, he, hs, e⟩, ?_⟩
  rintro cnt σ2 H2 ⟨ρ2, S2, m2, p2, t2, hE, r2, e2⟩
  cases cnt with
  | zero => cases e2
  | succ cnt =>
    unfold whileL at e2
    obtain ⟨t, S3, e3, e2⟩ := bnd_eq e2
    obtain ⟨x, S4, e4, e3⟩ := bnd_eq e3
    cases hk : truthD S4 x with
    | none => rw [hk] at e3; cases e3
    | some kk =>
      rw [hk] at e3; cases e3
      refine (hc ρ2 S2 x _ e4 t hk m2 σ2 H2 hE r2).mono fun b1 H3 ⟨eb, m3, p3, t3, r3, _⟩ => ?_
      subst eb
      cases b1 with
      | true =>
        simp only [if_true] at e2
        obtain ⟨f1, S5, e5, e2⟩ := bnd_eq e2
        refine ⟨fun σ' H' => ∃ ρ2 S2 m2, m <+: m2 ∧ TK H H' ∧ RE X.K H' m2 ρ2 σ' ∧ RS X.K H' m2 S2 ∧ whileL (fun ρ S => bnd (fc ρ S) fun x S1 => (truthD S1 x).map fun k => (k, S1)) f cnt ρ2 S2 = some (fl, S'), fun σ' H' h => ⟨cnt, Nat.lt_succ_self _, h⟩, ?_⟩
        refine hb ρ2 _ f1 S5 e5 m3 σ2 H3 (hE.mono t3 p3) r3 _ ⟨fun ρ' σ' H' ef h => ?_, fun d v H' ef h => ?_⟩
        · subst ef
          obtain ⟨m5, p5, t5, r5, q5⟩ := h
          exact ⟨ρ', S5, m5, (p2.trans p3).trans p5, (t2.trans t3).trans t5, q5, r5, e2⟩
        · subst ef
          cases e2
          exact w.rt d v H' rfl (h.up (p2.trans p3) (t2.trans t3))
      | false =>
        simp only [Bool.false_eq_true, if_false] at e2
        cases e2
        exact w.nx ρ2 σ2 H3 rfl ⟨m3, p2.trans p3, t2.trans t3, r3, hE.mono t3 p3⟩
end
end Ev
end
section
set_option Elab.async false
set_option linter.all false
set_option maxRecDepth 100000
set_option maxHeartbeats 4000000
/-! A tuple the other way round: t[::-1]. -/
namespace EvT
open PySem PyProof.Rows HT PySem.SeqAt PySem.MeetsSeq PySem.MeetsSeq2 PySem.MeetsSeq3
section
variable {pr : Program} {w : World} {A : Around} {E : Value → Shared → Prop} {s : Shared} {n : Nat} {sl : Addr} {v1 v2 v3 : Value}
theorem back_adjust (n : Nat) : Builtin.Slice.sliceAdjust none none (-1) (n : Int) = ((n : Int) - 1, -1) := by simp [Builtin.Slice.sliceAdjust]
theorem back_places (n : Nat) : Builtin.Slice.slicePlaces ((n : Int) - 1) (-1) (-1) = n := by
  have h1 : ¬ ((-1 : Int) > 0) := by omega
  simp only [Builtin.Slice.slicePlaces, h1, if_false]
  split
  · rw [show (- (-1) : Int) = 1 by omega, Int.ediv_one]; omega
  · omega
theorem back_pick (xs : Array Value) : ((List.range xs.size).filterMap fun (m : Nat) => xs[(((xs.size : Int) - 1) + (m : Int) * (-1)).toNat]?).toArray = xs.toList.reverse.toArray := by
  have e : (fun (m : Nat) => xs[(((xs.size : Int) - 1) + (m : Int) * (-1)).toNat]?) = (fun i => xs[i]?) ∘ fun m => xs.size - 1 - m := by
    funext m
    show _ = xs[xs.size - 1 - m]?
    rw [show (((xs.size : Int) - 1) + (m : Int) * (-1)).toNat = xs.size - 1 - m by omega]
  rw [e, ← List.filterMap_map, PySem.W.krv_range, List.filterMap_reverse, PySem.W.krv_all]
/-- where a slice of step -1 leads -/
theorem back_applied {Q : Int × Int × Nat → Shared → Prop} (is : s.heap.IsSliceOf sl v1 v2 v3) (i1 : IsPart v1 none) (i2 : IsPart v2 none) (i3 : IsPart v3 (some (-1)))
    (h : Q ((n : Int) - 1, -1, n) s) : wpAny (model pr w) A (Builtin.Slice.sliceApplied (.ref sl) (pure (n : Int))) Q E s := by
  obtain ⟨ob, g1, g2, g3⟩ := is
  rw [Builtin.Slice.sliceApplied, Builtin.Slice.sliceFields]
  refine wpAny_bind (wpAny_bind (wpAny_field g1 g3 (x := v1) rfl (wpAny_bind (wpAny_field g1 g3 (x := v2) rfl (wpAny_bind (wpAny_field g1 g3 (x := v3) rfl (wpAny_pure ?_)))))))
  refine wpAny_bind (slicePart_ i3 ?_)
  show wpAny _ _ (if ((-1 : Int) == 0) = true then _ else _) _ _ s
  rw [if_neg (by decide)]
  refine wpAny_bind (slicePart_ i1 (wpAny_bind (slicePart_ i2 (wpAny_bind (wpAny_pure ?_)))))
  show wpAny _ _ (match Builtin.Slice.sliceAdjust none none (-1) (n : Int) with | (x, y) => pure (x, (-1 : Int), Builtin.Slice.slicePlaces x y (-1))) _ _ s
  rw [back_adjust n]
  show wpAny _ _ (pure ((n : Int) - 1, (-1 : Int), Builtin.Slice.slicePlaces ((n : Int) - 1) (-1) (-1))) _ _ s
  rw [back_places]
  exact wpAny_pure h
theorem back_tuple {t : Addr} {zs : Array Value} {Q : Value → Shared → Prop} (it : IsTup s.heap t zs) (is : s.heap.IsSliceOf sl v1 v2 v3) (i1 : IsPart v1 none) (i2 : IsPart v2 none) (i3 : IsPart v3 (some (-1)))
    (h : Q (.ref s.heap.objs.size) { s with heap := s.heap.push { cls := .type "tuple", data := .seq zs.toList.reverse.toArray } }) (hz : zs.size ≤ sizeLine) :
    wpAny (model pr w) A (getItem (.ref t) (.ref sl)) Q E s := by
  have fit : sizeOk (.seq zs.toList.reverse.toArray) := by
    show zs.toList.reverse.toArray.size ≤ sizeLine
    rw [List.size_toArray, List.length_reverse, Array.length_toList]; omega
  have ts : s.TypeIs (.ref sl) "slice" := by obtain ⟨ob, g1, g2, g3⟩ := is; exact ⟨ob, g1, g2⟩
  rw [getItem]
  first | with_reducible refine wpAny_holding ?_ | skip
  refine wpAny_bind (wpAny_sequenceKey it.typeIs (by decide) (wpAny_bind (wpAny_callSpecial?_slot (name := Str.ofString "__getitem__") it.typeIs PyProof.Rows.slot_tuple_getitem (wpAny_call_entry PyProof.Rows.slot_tuple_getitem it.typeIs entry_tuple_getitem ?_ (args_tuple_getitem _ _)))))
  show wpAny _ _ (Builtin.Tuple.tupleItemsOf (.ref t) >>= fun _ => _) _ _ s
  refine wpAny_bind (tupleItemsOf_ it (wpAny_bind (wpAny_typeOf ts ?_)))
  rw [if_pos (by decide)]
  refine wpAny_bind (back_applied (n := zs.size) is i1 i2 i3 ?_)
  show wpAny _ _ (if (((zs.size : Int) - 1) == 0 && (-1 : Int) == 1 && zs.size == zs.size) = true then _ else _) _ _ s
  rw [if_neg (by simp), back_pick]
  first
    | exact wpAny_bind (m := Builtin.Tuple.tupleExact _) (wpAny_newObj_type (wpAny_pure ⟨_, rfl, wpAny_pure h⟩) fit)
    | exact wpAny_bind (m := Builtin.Tuple.tupleExact _) (wpAny_newObj_type (wpAny_bind (wpAny_pure (wpAny_pure ⟨_, rfl, wpAny_pure h⟩))) fit)
    | exact wpAny_bind (wpAny_bind (m := Builtin.Tuple.tupleExact _) (wpAny_newObj_type (wpAny_pure (wpAny_pure ⟨_, rfl, wpAny_pure h⟩)) fit))
    | exact wpAny_bind (wpAny_bind (m := Builtin.Tuple.tupleExact _) (wpAny_newObj_type (wpAny_pure ⟨_, rfl, wpAny_pure h⟩) fit))
end
end EvT
namespace Ev
open PySem PySem.Spec PyProof.Rows L2
section
variable {X : Cx}
/-- t[::-1], t a tuple -/
def tBackT (K : PySem.W.Frag) (te : TE) : TE := fun σ H Q => te σ H fun x H1 => ∃ a xs, x = .ref a ∧ SqT K H1 a xs ∧ ∀ p, H1 p = none → Q (.ref p) (upd H1 p (.tup xs.reverse))
theorem pe_backT {e : Expr} {te : TE} {k : Nat} {p1 p2 p3 p4 : Pos} (he : PE X e te) : PE X (.Subscript e (.Slice none none (some (.UnaryOp .USub (.Constant (.int 1) k p1) p2)) p3) p4) (tBackT X.K te) := by
  constructor
  intro pins s σ H Q I h
  refine Subscript_ (thn (he.run pins s σ H _ I h) fun v s1 ⟨x, G, J, r1, a, xs, ex, hx, q⟩ => ?_)
  subst ex
  cases r1
  have step : PO X (some (.UnaryOp .USub (.Constant (.int 1) k p1) p2)) (tPart (tUn (rU fun i => .int (-i)) (tC (.int 1)))) := po_some (pe_un un_neg pe_int)
  refine wpAny_Slice (thn (po_none.run pins s1 σ G (fun o z => o = none ∧ z = G) J ⟨rfl, rfl⟩) fun w1 s2 ⟨_, G1, J1, c1, d1, e1⟩ => ?_)
  subst d1 e1
  refine thn (po_none.run pins s2 σ G1 (fun o z => o = none ∧ z = G1) J1 ⟨rfl, rfl⟩) fun w2 s3 ⟨_, G2, J2, c2, d2, e2⟩ => ?_
  subst d2 e2
  refine thn (step.run pins s3 σ G2 (fun o z => o = some (-1) ∧ z = G2) J2 ⟨1, rfl, -1, rfl, rfl, rfl⟩) fun w3 s4 ⟨_, G3, J3, c3, d3, e3⟩ => ?_
  subst d3 e3
  have J4 : Inv X pins σ G3 { s4 with heap := s4.heap.push { cls := .type "slice", data := .fields #[w1, w2, w3] } } := J3.kept (t' := s4.toks) fun b ob z => Heap.get?_push_of_some _ z
  obtain ⟨us, ru, tu, hz⟩ := J4.tuple hx
  have len := ru.length
  show wpAny (model X.prog X.w) X.A (subscriptTail e (.Slice none none (some (.UnaryOp .USub (.Constant (.int 1) k p1) p2)) p3) (.ref a) (.ref s4.heap.objs.size)) (EP X pins σ Q) X.xe
    { s4 with heap := s4.heap.push { cls := .type "slice", data := .fields #[w1, w2, w3] } }
  refine tail_any (ops := [.ref a, .ref s4.heap.objs.size]) tu.typeIs (PyProof.Rows.slot_tuple_getitem.lookup) (EvT.back_tuple tu (Heap.IsSliceOf.new _ w1 w2 w3) c1 c2 c3 ?_ (by rw [List.size_toArray]; omega)) (by with_unfolding_all rfl)
  exact ⟨.ref _, _, J4.laid (t' := s4.toks) (o := .tup xs.reverse) (fun b ob z => Heap.get?_push_of_some _ z) (Nat.le_refl _) ⟨by rw [List.length_reverse]; exact hz, _, ru.reverse, IsTup.new _ _⟩, rfl, q _ (J4.hok.fresh (Nat.le_refl _))⟩
end
end Ev
end
section
set_option Elab.async false
set_option linter.all false
set_option maxRecDepth 100000
set_option maxHeartbeats 4000000
/-! x[::-1]; {}; strip, join of texts; d[a, b] = c. -/
namespace Ev
open PySem PySem.Spec PyProof.Rows L2
section
variable {X : Cx} {k : Nat} {a b c e : Expr} {pos p : Pos} {fa fb fc fe : Env → Sto → R D} {st : Stmt}
theorem se_rev {p1 p2 p3 : Pos} (ha : SE X a fa) : SE X (.Subscript a (.Slice none none (some (.UnaryOp .USub (.Constant (.int 1) k p1) p2)) p3) pos) (fun ρ S => bnd (fa ρ S) fun x S1 => revD S1 x) := by
  intro ρ S d S' h m σ H he hs
  obtain ⟨x, S1, e1, h⟩ := bnd_eq h
  have hx := ha ρ S x S1 e1 m σ H he hs
  unfold revD at h
  split at h
  · cases h
    refine WE.of (pe_backT (pe_W a)) (hx.mono fun v H1 ⟨m1, p1, t1, r1, q1⟩ => ?_)
    cases q1 with
    | @tup ad vs ds hs hr => exact ⟨ad, vs, rfl, hs, fun q hq => (pv_newT r1 hr.reverse hq).up p1 t1⟩
  · rename_i n
    cases hi : itemsAt S1 n with
    | none => rw [hi] at h; cases h
    | some xs =>
      rw [hi] at h
      replace h : newL S1 xs.reverse = some (d, S') := h
      unfold newL at h
      split at h
      · cases h
        refine WE.of (pe_revL (pe_W a)) (hx.mono fun v H1 ⟨m1, p1, t1, r1, q1⟩ => ?_)
        cases q1 with
        | @ref _ ad ea =>
          obtain ⟨vs, h1, h2⟩ := r1.items ea hi
          exact ⟨ad, vs, rfl, h1, fun q hq => (pv_newL r1 h2.reverse hq).up p1 t1⟩
      · cases h
  · cases h
theorem se_dnew : SE X (.Dict [] [] pos) (fun _ S => some (.ref S.length, S ++ [.dt []])) := by
  intro ρ S d S' h m σ H he hs
  cases (show some (D.ref S.length, S ++ [O.dt []]) = some (d, S') from h)
  refine WE.of pe_dnewT fun q hq => ?_
  exact ⟨m ++ [q], List.prefix_append _ _, TK.new hq, hs.new hq ⟨[], upd_same, .nil⟩, .ref (by rw [← hs.len, List.getElem?_append_right (Nat.le_refl _)]; simp)⟩
/-! ### texts -/
theorem strs_of {K : PySem.W.Frag} {H : Hp} {m : List Addr} : ∀ {xs : List D} {vs : List V} {ys : List Str}, RVs K H m xs vs → strsOf xs = some ys → vs = ys.map V.str
  | [], _, _, h, e => by cases h; cases e; rfl
  | .str b :: xs, _, _, .cons h1 h2, e => by
    cases h1
    simp only [strsOf] at e
    cases hb : strsOf xs with
    | none => rw [hb] at e; cases e
    | some cs => rw [hb] at e; cases e; rw [strs_of h2 hb]; rfl
  | .non :: xs, _, _, _, e => by cases e
  | .int _ :: xs, _, _, _, e => by cases e
  | .bl _ :: xs, _, _, _, e => by cases e
  | .tup _ :: xs, _, _, _, e => by cases e
  | .ref _ :: xs, _, _, _, e => by cases e
theorem se_sm {nm : Str} {id : String} {apos : Pos} {o : SM} {r : V → List V → Hp → VK → Prop} (slot : Slot "str" nm id) (ty : typeOf (.builtin id) = pure (.type "method_descriptor")) (rule : MtR X id r) (hst : isStar b = false)
    (hbase : attributeBase a nm X.env (eval a X.env) = eval a X.env) (hline : (apos.endLine == pos.line) = true) (ha : SE X a fa) (hb : SE X b fb)
    (hr : ∀ S t y d S', smD S o (.str t) y = some (d, S') → ∀ m H vy, RS X.K H m S → RV X.K H m y vy → ∀ Q : VK, (∀ v H', PV X.K m H S' d v H' → Q v H') → r (.str t) [vy] H Q) :
    SE X (.Call (.Attribute a nm apos) [b] [] pos) (fun ρ S => bnd (fa ρ S) fun x S1 => if isS x = true then bnd (fb ρ S1) fun y S2 => smD S2 o x y else none) := by
  intro ρ S d S' h m σ H he hs
  obtain ⟨x, S1, e1, h⟩ := bnd_eq h
  split at h
  · rename_i hx
    obtain ⟨y, S2, e2, h⟩ := bnd_eq h
    refine WE.of (pe_m1 slot ty rule (pe_W a) (pe_W b) (by rw [ns_of hst]; rfl) hbase hline) ((ha ρ S x S1 e1 m σ H he hs).mono fun v H1 ⟨m1, p1, t1, r1, q1⟩ => ?_)
    cases q1 with
    | str t =>
      refine ⟨⟨t, rfl⟩, (hb ρ S1 y S2 e2 m1 σ H1 (he.mono t1 p1) r1).mono fun u H2 ⟨m2, p2, t2, r2, q2⟩ => ?_⟩
      exact hr S2 t y d S' h m2 H2 u r2 q2 _ fun v H' z => z.up (p1.trans p2) (t1.trans t2)
    | _ => cases hx
  · cases h
theorem sm_strip : ∀ S t y d S', smD S .strip (.str t) y = some (d, S') → ∀ m H vy, RS X.K H m S → RV X.K H m y vy → ∀ Q : VK, (∀ v H', PV X.K m H S' d v H' → Q v H') →
    ∃ a b, V.str t = .str a ∧ [vy] = [.str b] ∧ a.length ≤ sizeLine ∧ Q (.str (Txt.stripChars a b)) H := by
  intro S t y d S' e m H vy r q Q hQ
  cases q with
  | str u =>
    simp only [smD] at e
    split at e
    · rename_i hz
      cases e
      exact ⟨t, u, rfl, rfl, le_size hz, hQ _ _ (.here r (.str _))⟩
    · cases e
  | _ => cases e
theorem sm_join : ∀ S t y d S', smD S .join (.str t) y = some (d, S') → ∀ m H vy, RS X.K H m S → RV X.K H m y vy → ∀ Q : VK, (∀ v H', PV X.K m H S' d v H' → Q v H') →
    ∃ a p, ∃ ys : List Str, V.str t = .str a ∧ [vy] = [.ref p] ∧ (SqL X.K H p (ys.map V.str) ∨ SqT X.K H p (ys.map V.str)) ∧ (ys.map (·.length)).sum + ys.length * a.length ≤ 16777216 ∧ Q (.str (Txt.join a ys)) H := by
  intro S t y d S' e m H vy r q Q hQ
  simp only [smD] at e
  cases hi : seqD S y with
  | none => rw [hi] at e; cases e
  | some xs =>
    rw [hi] at e
    simp only [Option.bind_some] at e
    cases hb : strsOf xs with
    | none => rw [hb] at e; cases e
    | some ys =>
      rw [hb] at e
      simp only [Option.bind_some] at e
      split at e
      · rename_i hz
        cases e
        obtain ⟨ad, vs, rfl, h1, h2⟩ := seq_sq r q hi
        rw [strs_of h2 hb] at h1
        exact ⟨t, ad, ys, rfl, rfl, h1, by omega, hQ _ _ (.here r (.str _))⟩
      · cases e
/-! ### d[a, b] = c -/
theorem keys_of {K : PySem.W.Frag} {H : Hp} {m : List Addr} : ∀ {ds : List D} {vs : List V} {ks : List Key}, RVs K H m ds vs → optAll (ds.map keyOf) = some ks → vs = ks.map kV
  | [], _, _, h, e => by cases h; cases e; rfl
  | x :: r, _, ks, .cons h1 h2, e => by
    rw [List.map_cons] at e
    cases hx : keyOf x with
    | none => rw [hx] at e; cases e
    | some kx =>
      rw [hx, optAll] at e
      cases hr : optAll (r.map keyOf) with
      | none => rw [hr] at e; cases e
      | some kr =>
        rw [hr] at e
        cases e
        rw [keys_of h2 hr, List.map_cons]
        congr 1
        cases h1 <;> cases hx <;> rfl
theorem RKs.any {K : PySem.W.Frag} {H : Hp} {m : List Addr} {k : List Key} : ∀ {ds : List (List Key × D)} {vs : List (List Key × V)}, RKs K H m ds vs → (ds.any fun e => decide (e.1 = k)) = (vs.any fun e => decide (e.1 = k))
  | _, _, .nil => rfl
  | _, _, .cons _ h => by simp only [List.any_cons, RKs.any h]
theorem RKs.len {K : PySem.W.Frag} {H : Hp} {m : List Addr} : ∀ {ds : List (List Key × D)} {vs : List (List Key × V)}, RKs K H m ds vs → ds.length = vs.length
  | _, _, .nil => rfl
  | _, _, .cons _ h => by simp only [List.length_cons, RKs.len h]
theorem RKs.swap {K : PySem.W.Frag} {H : Hp} {m : List Addr} {k : List Key} {d : D} {v : V} (q : RV K H m d v) : ∀ {ds : List (List Key × D)} {vs : List (List Key × V)}, RKs K H m ds vs → RKs K H m (ds.map fun e => if e.1 = k then (e.1, d) else e) (vs.map fun e => if e.1 = k then (e.1, v) else e)
  | _, _, .nil => .nil
  | _, _, .cons (k := k') h1 h => by
    simp only [List.map_cons]
    by_cases z : k' = k
    · simp only [z, if_true]; exact .cons q (RKs.swap q h)
    · simp only [z, if_false]; exact .cons h1 (RKs.swap q h)
theorem RKs.snoc {K : PySem.W.Frag} {H : Hp} {m : List Addr} {k : List Key} {d : D} {v : V} (q : RV K H m d v) : ∀ {ds : List (List Key × D)} {vs : List (List Key × V)}, RKs K H m ds vs → RKs K H m (ds ++ [(k, d)]) (vs ++ [(k, v)])
  | _, _, .nil => .cons q .nil
  | _, _, .cons h1 h => .cons h1 (RKs.snoc q h)
theorem RKs.put {K : PySem.W.Frag} {H : Hp} {m : List Addr} {k : List Key} {d : D} {v : V} (q : RV K H m d v) {ds : List (List Key × D)} {vs : List (List Key × V)} (h : RKs K H m ds vs) : RKs K H m (putD ds k d) (putK vs k v) := by
  unfold putD putK
  rw [h.any (k := k)]
  split
  · exact h.swap q
  · exact h.snoc q
theorem ss_setD {p' p1 : Pos} {j : Nat} {es : List Expr} {fs : Env → Sto → R (List D)} (hu : X.A.units + 1 < cLine) (hs : swapsWithSole [.Subscript b (.Tuple es j p1) p] a p'.line X.env = pure false) (hw : swappedStores [.Subscript b (.Tuple es j p1) p] a X.env = pure none) (ha : SE X a fa) (hb : SE X b fb) (hes : SA X es fs) :
    SS X (.Assign [.Subscript b (.Tuple es j p1) p] a p') (fun ρ S => bnd (fa ρ S) fun d S1 => bnd (fb ρ S1) fun x S2 => bnd (fs ρ S2) fun ks S3 => setDD S3 ρ x ks d) := by
  intro ρ S fl S' e m σ H he hss Dn w
  obtain ⟨d, S1, e1, e⟩ := bnd_eq e
  obtain ⟨x, S2, e2, e⟩ := bnd_eq e
  obtain ⟨ks, S3, e3, e⟩ := bnd_eq e
  unfold setDD at e
  split at e
  · split at e
    · rename_i kvs hS
      split at e
      · rename_i kk hk
        split at e
        · rename_i hz
          cases e
          refine WS.of (ps_asg (pe_W a) (pg_sub (pe_W b) (pe_tup (pa_W es)) (set_dict hu)) hs hw rfl) ((ha ρ S d _ e1 m σ H he hss).mono fun vd H1 ⟨m1, p1, t1, r1, q1⟩ => ?_)
          refine (hb ρ S1 _ _ e2 m1 σ H1 (he.mono t1 p1) r1).mono fun vx H2 ⟨m2, p2, t2, r2, q2⟩ => ?_
          refine (hes ρ S2 ks _ e3 m2 σ H2 (he.mono (t1.trans t2) (p1.trans p2)) r2).mono fun vy H3 ⟨m3, p3, t3, r3, q3⟩ => ?_
          have q1 := q1.mono (t2.trans t3) (p2.trans p3)
          have q2 := q2.mono t3 p3
          have hy := keys_of q3 hk
          subst hy
          refine ⟨by rw [List.length_map]; exact le_size hz.2, fun q hq => ?_⟩
          cases q2 with
          | @ref _ ad ea =>
            obtain ⟨vs, h1, h2⟩ := r3.obj _ ad _ ea hS
            have hne : ad ≠ q := fun z => by rw [z, hq] at h1; cases h1
            have t4 : TK H3 (upd H3 q (.tup (kk.map kV))) := TK.new hq
            have r4 := r3.tup (o := .tup (kk.map kV)) hq
            have g1 : upd H3 q (.tup (kk.map kV)) ad = some (.dT vs) := by rw [upd_ne hne]; exact h1
            refine ⟨ad, _, rfl, DPut.t g1 upd_same (by rw [← h2.len]; exact lt_size hz.1), w.nx ρ σ _ rfl ?_⟩
            have tt := ((t1.trans t2).trans t3).trans t4
            have pp := (p1.trans p2).trans p3
            exact ⟨m3, pp, tt.trans (TK.dt g1), r4.writeD ea g1 ((h2.mono t4 (List.prefix_refl m3)).put (q1.mono t4 (List.prefix_refl m3))), he.mono (tt.trans (TK.dt g1)) pp⟩
        · cases e
      · cases e
    · cases e
  · cases e
end
end Ev
end
section
set_option Elab.async false
set_option linter.all false
set_option maxRecDepth 100000
set_option maxHeartbeats 4000000
/-! From the text to the small language. -/
namespace Ev
open PySem PySem.Spec PyProof.Rows L2

structure Tab where
  fns : List Str
  blts : List Str
  consts : List (Str × D)
def slotOf : List Str → Str → Option Nat
  | [], _ => none
  | y :: r, x => if x = y then some 0 else (slotOf r x).map (· + 1)
theorem slotOf_get : ∀ {N : List Str} {x : Str} {i : Nat}, slotOf N x = some i → N[i]? = some x
  | [], _, _, h => by cases h
  | y :: r, x, i, h => by
    unfold slotOf at h
    split at h
    · rename_i e; cases h; simp [e]
    · cases hs : slotOf r x with
      | none => rw [hs] at h; cases h
      | some j => rw [hs] at h; cases h; simpa using slotOf_get hs
def okName (x : Str) : Bool := !(x == ("__debug__" : Str)) && !(x == ("__classdict__" : Str)) && !(x == ("__name__" : Str))
def erName (T : Tab) (N : List Str) (sc : Scope) (x : Str) : E := if okName x = true then match sc.names.lookup x with
  | some .globalImplicit => (match T.consts.lookup x with
    | some d => .lit d
    | none => .bad)
  | some .globalExplicit => .bad
  | some _ => (match slotOf N x with
    | some i => .var i
    | none => .bad)
  | none => .bad else .bad
def erConst : Const → E
  | .int i => .lit (.int i)
  | .bool b => .lit (.bl b)
  | .none => .lit .non
  | .str s => .lit (.str s)
  | _ => .bad
def mkEs : List E → Es
  | [] => .nil
  | e :: r => .cons e (mkEs r)
def mkB (op : BoolOp) (f : Expr → E) : List Expr → E
  | [] => .bad
  | [a] => f a
  | a :: b :: r => match op with
    | .And => .and (f a) (mkB op f (b :: r))
    | .Or => .or (f a) (mkB op f (b :: r))
def erCmp (f : Expr → E) (a : Expr) : List CmpOp → List Expr → E
  | [op], [b] => if behindInMarks op b = false then .cmp op (f a) (f b) else .bad
  | [op, op'], [b, c] => if lastMarks [op, op'] [b, c] = false then .chain op op' (f a) (f b) (f c) else .bad
  | _, _ => .bad
def glob (T : Tab) (sc : Scope) (x : Str) : Bool := okName x && decide (sc.names.lookup x = some .globalImplicit) && T.blts.contains x
def tyOf (x : Str) : Option Ty := if x = "int" then some .int else if x = "bool" then some .bool else if x = "str" then some .str else if x = "tuple" then some .tuple else if x = "list" then some .list else if x = "dict" then some .dict else none
def b1Of (x : Str) : Option B1 := if x = "len" then some .len else if x = "tuple" then some .tuple else if x = "list" then some .list else if x = "sorted" then some .sorted else if x = "all" then some .all else if x = "int" then some .int else if x = "repr" then some .repr else none
def b2Of (x : Str) : Option B2 := if x = "max" then some .max else if x = "min" then some .min else if x = "divmod" then some .divmod else none
def m2Of (x : Str) : Option M2 := if x = "append" then some .append else if x = "extend" then some .extend else if x = "pop" then some .pop else none
def smOf (x : Str) : Option SM := if x = "strip" then some .strip else if x = "join" then some .join else none
/-- the step of [::-1] -/
def isBack : Expr → Bool
  | .UnaryOp .USub (.Constant (.int i) _ _) _ => decide (i = 1)
  | _ => false
theorem isBack_ok {s : Expr} (h : isBack s = true) : ∃ k p1 p2, s = .UnaryOp .USub (.Constant (.int 1) k p1) p2 := by
  unfold isBack at h
  split at h
  · rename_i i k p1 p2
    have := of_decide_eq_true h
    subst this
    exact ⟨k, p1, p2, rfl⟩
  · cases h
def rngArg (T : Tab) (sc : Scope) : Expr → Option (Expr × Expr)
  | .Call (.Name y _) [a, b] [] _ => if y = "range" ∧ glob T sc y = true ∧ isStar a = false ∧ isStar b = false then some (a, b) else none
  | _ => none
/-- len(set(a)) -/
def setArg (T : Tab) (sc : Scope) : Expr → Option Expr
  | .Call (.Name y _) [a] [] _ => if y = "set" ∧ glob T sc y = true ∧ isStar a = false then some a else none
  | _ => none
/-- list(zip(a, b)) -/
def zipArg (T : Tab) (sc : Scope) : Expr → Option (Expr × Expr)
  | .Call (.Name y _) [a, b] [] _ => if y = "zip" ∧ glob T sc y = true ∧ isStar a = false ∧ isStar b = false then some (a, b) else none
  | _ => none
def erBlt (T : Tab) (sc : Scope) (f : Expr → E) (x : Str) : List Expr → E
  | [a] => (match rngArg T sc a with
    | some (p, q) => if x = "tuple" then .rng true (f p) (f q) else if x = "list" then .rng false (f p) (f q) else .bad
    | none => (match setArg T sc a with
      | some q => if x = "len" then .b1 .set (f q) else if x = "sorted" then .b1 .sset (f q) else .bad
      | none => (match zipArg T sc a with
        | some (p, q) => if x = "list" then .b2 .lzip (f p) (f q) else .bad
        | none => (match b1Of x with
          | some b => .b1 b (f a)
          | none => .bad))))
  | [a, b] => if x = "isinstance" then (match b with
      | .Name y _ => if glob T sc y = true then (match tyOf y with
        | some t => .isi (f a) t
        | none => .bad) else .bad
      | _ => .bad) else (match b2Of x with
    | some o => .b2 o (f a) (f b)
    | none => .bad)
  | _ => .bad
def erCall (T : Tab) (sc : Scope) (f : Expr → E) (fn : Expr) (es : List Expr) (kws : List Keyword) (pos : Pos) : E := match kws with
  | [] => if es.any isStar = false then (match fn with
    | .Name x _ => (match slotOf T.fns x with
      | some i => if okName x = true ∧ sc.names.lookup x = some .globalImplicit ∧ es ≠ [] then .call i (mkEs (es.map f)) else .bad
      | none => if glob T sc x = true then erBlt T sc f x es else .bad)
    | .Attribute (.Name x px) nm apos => (match es with
      | [b] => if (apos.endLine == pos.line) = true then (match m2Of nm with
        | some o => .meth o (f (.Name x px)) (f b)
        | none => (match smOf nm with
          | some o => .sm o (f (.Name x px)) (f b)
          | none => .bad)) else .bad
      | _ => .bad)
    | .Attribute (.Constant (.str t) kc pc) nm apos => (match es with
      | [b] => if (apos.endLine == pos.line) = true then (match smOf nm with
        | some o => .sm o (f (.Constant (.str t) kc pc)) (f b)
        | none => .bad) else .bad
      | _ => .bad)
    | _ => .bad) else .bad
  | _ :: _ => .bad
def erO (f : Expr → E) : Option Expr → Eo
  | none => .none
  | some e => .some (f e)
def plainIx : Expr → Bool
  | .Slice _ _ _ _ => false
  | _ => true
def erSub (f : Expr → E) (a : Expr) : Expr → E
  | .Slice lo hi none _ => .sl (f a) (erO f lo) (erO f hi)
  | .Slice none none (some s) _ => if isBack s = true then .rev (f a) else .bad
  | .Slice _ _ (some _) _ => .bad
  | b => .ix (f a) (f b)
def erI (T : Tab) (sc : Scope) (f : Expr → E) (tup : Bool) (it : Expr) : I := match it with
  | .Call (.Name x p) es kws pos => if x = "range" then (if glob T sc x = true ∧ es.any isStar = false ∧ kws.isEmpty = true then (match es with
      | [a] => .r1 (f a)
      | [a, b] => .r2 (f a) (f b)
      | _ => .bad) else .bad)
    else if x = "zip" then (if glob T sc x = true ∧ es.any isStar = false ∧ kws.isEmpty = true ∧ tup = true then (match es with
      | [a, b] => .zip (f a) (f b)
      | _ => .bad) else .bad)
    else if x = "enumerate" then (if glob T sc x = true ∧ es.any isStar = false ∧ kws.isEmpty = true ∧ tup = true then (match es with
      | [a] => .enum (f a)
      | _ => .bad) else .bad)
    else .seq (f (.Call (.Name x p) es kws pos))
  | .Set _ _ _ => .bad
  | e => .seq (f e)
def relab (scope sc : Scope) : Scope := { scope with names := scope.names.map fun (n, k) => if (k == .free && sc.kind == .function && sc.names.lookup n == some .cell) then (n, .cell) else (n, k) }
def tgNames : Expr → Option (List Str)
  | .Name x _ => some [x]
  | .Tuple es _ _ => optAll (es.map fun e => match e with
    | .Name x _ => some x
    | _ => none)
  | _ => none
def isTup : Expr → Bool
  | .Tuple _ _ _ => true
  | _ => false
def mkTg (tg : Expr) (is : List Nat) : Tg := match tg, is with
  | .Name _ _, [i] => .one i
  | _, is => .many is
/-- the slots of a target's names, all told local (or cells) by the scope -/
def tgSlots (N : List Str) (sc : Scope) (tg : Expr) : Option (List (Str × Nat)) := match tgNames tg with
  | none => none
  | some xs => if xs.all (fun x => decide (sc.names.lookup x = some .local ∨ sc.names.lookup x = some .cell)) = true then optAll (xs.map fun x => (slotOf N x).map fun i => (x, i)) else none
structure Good (T : Tab) (P : List Fn) (wf k : Nat) (N : List Str) (sc : Scope) (X : Cx) : Prop where
  sc : X.env.scope = sc
  hN : X.N = N
  nd : N.Nodup
  calm : X.calm = true
  xe : X.xe = fun _ _ => False
  room : Room k X.A
  gd : X.A.guards = some []
  blt : ∀ x, T.blts.contains x = true → X.mg x = none
  con : ∀ x d, T.consts.lookup x = some d → ∃ u v, X.mg x = some u ∧ RelV v u ∧ ∀ H m, RV X.K H m d v
  fn : ∀ i x, T.fns[i]? = some x → ∃ f fd ps np, X.mg x = some (.ref f) ∧ PySem.W.keepIn X.K (.ref f) = true ∧ Binds X.K fd ps [] ∧ FnG X.prog X.w X.K X.mg X.base k f fd ps (SpG X.K np (callF P wf k i)) ∧ ∀ ds S r, callF P wf k i ds S = some r → ds.length = np

section
variable {T : Tab} {P : List Fn} {wf k : Nat} {N : List Str} {sc : Scope} {X : Cx}
def SET (X : Cx) (e : Expr) (f : Env → Sto → R D) : Prop := SE X e f ∧ ST X e f
theorem set_bad {e : Expr} {cl : Nat → List D → Sto → R D} : SET X e (evE cl .bad) := ⟨fun _ _ _ _ h => (by simp only [evE] at h; cases h), fun _ _ _ _ h => (by simp only [evE] at h; cases h)⟩
theorem ok3 {x : Str} (h : okName x = true) : (x == ("__debug__" : Str)) = false ∧ (x == ("__classdict__" : Str)) = false ∧ x ≠ "__name__" := by
  unfold okName at h
  simp only [Bool.and_eq_true, Bool.not_eq_true', beq_eq_false_iff_ne] at h
  exact ⟨beq_eq_false_iff_ne.mpr h.1.1, beq_eq_false_iff_ne.mpr h.1.2, h.2⟩
theorem good_name (g : Good T P wf k N sc X) {x : Str} {p : Pos} : SET X (.Name x p) (evE (callF P wf k) (erName T N sc x)) := by
  unfold erName
  split
  · rename_i hok
    obtain ⟨h1, h2, h3⟩ := ok3 hok
    split
    · rename_i hl
      split
      · rename_i d hd
        obtain ⟨u, v, e1, e2, e3⟩ := g.con x d hd
        have : SE X (.Name x p) (fun _ S => some (d, S)) := se_c (pe_glob (by show X.env.scope.names.lookup x = _; rw [g.sc]; exact hl) e1 e2 h1) e3
        have e : evE (callF P wf k) (.lit d) = fun _ S => some (d, S) := by funext ρ S; simp only [evE]
        rw [e]
        exact ⟨this, ST.plain this fun _ => rfl⟩
      · exact set_bad
    · exact set_bad
    · rename_i kd hl1 hl2 hl
      split
      · rename_i i hi
        have hv : Vis X.env.scope x := by
          show X.env.scope.names.lookup x = _ ∨ _
          rw [g.sc]
          cases kd with
          | «local» => exact .inl hl
          | cell => exact .inr (.inl hl)
          | free => exact .inr (.inr hl)
          | globalExplicit => exact absurd hl (by simpa using hl2)
          | globalImplicit => exact absurd hl (by simpa using hl1)
        have : SE X (.Name x p) (evE (callF P wf k) (.var i)) := by
          have z := se_var (X := X) (pos := p) (i := i) (by rw [g.hN]; exact slotOf_get hi) hv h1 h2
          have e : evE (callF P wf k) (.var i) = (fun ρ S => match ρ[i]? with
            | some (some d) => some (d, S)
            | _ => none) := by funext ρ S; simp only [evE] <;> rfl
          rw [e]
          exact z
        exact ⟨this, ST.plain this fun _ => rfl⟩
      · exact set_bad
    · exact set_bad
  · exact set_bad
end
end Ev
end
section
set_option Elab.async false
set_option linter.all false
set_option maxRecDepth 100000
set_option maxHeartbeats 4000000
/-! The text's expressions do as the small language says. -/
namespace Ev
open PySem PySem.Spec PyProof.Rows L2

section
variable {T : Tab} {P : List Fn} {wf k : Nat} {N : List Str} {sc : Scope} {X : Cx} {cl : Nat → List D → Sto → R D}
theorem SET.of {e : Expr} {f : Env → Sto → R D} (h : SE X e f) (hp : Plain X e := by intro _; rfl) : SET X e f := ⟨h, ST.plain h hp⟩
theorem SET.eq {e : Expr} {f g : Env → Sto → R D} (h : SET X e f) (q : ∀ ρ S, g ρ S = f ρ S) : SET X e g := by
  have : g = f := by funext ρ S; exact q ρ S
  rw [this]; exact h
theorem good_const {c : Const} {j : Nat} {p : Pos} : SET X (.Constant c j p) (evE cl (erConst c)) := by
  cases c with
  | int i => exact (SET.of (se_c pe_int fun _ _ => .int i)).eq fun ρ S => by simp only [erConst, evE]
  | bool b => exact (SET.of (se_c pe_bl fun _ _ => .bl b)).eq fun ρ S => by simp only [erConst, evE]
  | none => exact (SET.of (se_c pe_non fun _ _ => .non)).eq fun ρ S => by simp only [erConst, evE]
  | str s => exact (SET.of (se_c pe_str fun _ _ => .str s)).eq fun ρ S => by simp only [erConst, evE]
  | float _ => exact set_bad
  | complex _ _ => exact set_bad
  | bytes _ => exact set_bad
  | ellipsis => exact set_bad
theorem good_es {f : Expr → E} (ih : ∀ e, SET X e (evE cl (f e))) : ∀ {es : List Expr}, es.any isStar = false → SA X es (evEs cl (mkEs (es.map f)))
  | [], _ => by
    have z := sa_nil (X := X)
    have e : evEs cl (mkEs ([].map f)) = fun _ S => some ([], S) := by funext ρ S; simp only [List.map_nil, mkEs, evEs]
    rw [e]; exact z
  | a :: es, h => by
    rw [List.any_cons, Bool.or_eq_false_iff] at h
    have z := sa_cons h.1 (ih a).1 (good_es ih h.2)
    have e : evEs cl (mkEs ((a :: es).map f)) = fun ρ S => bnd (evE cl (f a) ρ S) fun d S1 => bnd (evEs cl (mkEs (es.map f)) ρ S1) fun ds S2 => some (d :: ds, S2) := by funext ρ S; simp only [List.map_cons, mkEs, evEs]
    rw [e]; exact z
theorem good_cmp (hr : Room k X.A) {f : Expr → E} (ih : ∀ e, SET X e (evE cl (f e))) {a : Expr} {ops : List CmpOp} {bs : List Expr} {p : Pos} : SET X (.Compare a ops bs p) (evE cl (erCmp f a ops bs)) := by
  unfold erCmp
  split
  · split
    · rename_i hm
      exact SET.eq ⟨se_cmp hr hm (ih _).1 (ih _).1, st_cmp hr hm (ih _).1 (ih _).1⟩ fun ρ S => by simp only [evE]
    · exact set_bad
  · split
    · rename_i hm
      exact SET.eq ⟨se_chain hr hm (ih _).1 (ih _).1 (ih _).1, st_chain hr hm (ih _).1 (ih _).1 (ih _).1⟩ fun ρ S => by simp only [evE] <;> rfl
    · exact set_bad
  · exact set_bad
theorem good_bool {f : Expr → E} (ih : ∀ e, SET X e (evE cl (f e))) {op : BoolOp} {p : Pos} : ∀ {es : List Expr}, SE X (.BoolOp op es p) (evE cl (mkB op f es)) ∧ SW X (.BoolOp op es p) (evE cl (mkB op f es))
  | [] => ⟨fun _ _ _ _ h => (by simp only [mkB, evE] at h; cases h), fun _ _ _ _ _ h => (by simp only [mkB, evE] at h; cases h)⟩
  | [a] => ⟨se_one (ih a).1, sw_one (ih a).2⟩
  | a :: b :: r => by
    obtain ⟨h1, h2⟩ := good_bool (es := b :: r) ih (op := op) (p := p)
    cases op with
    | And =>
      have e : evE cl (mkB .And f (a :: b :: r)) = fAnd (evE cl (f a)) (evE cl (mkB .And f (b :: r))) := by funext ρ S; simp only [mkB, evE, fAnd] <;> rfl
      rw [e]
      exact ⟨se_and (ih a).1 h1, sw_and (ih a).2 h2⟩
    | Or =>
      have e : evE cl (mkB .Or f (a :: b :: r)) = fOr (evE cl (f a)) (evE cl (mkB .Or f (b :: r))) := by funext ρ S; simp only [mkB, evE, fOr] <;> rfl
      rw [e]
      exact ⟨se_or (ih a).1 h1, sw_or (ih a).2 h2⟩
theorem st_ite {a b c : Expr} {pos : Pos} {fa fb fc : Env → Sto → R D} (hc : ST X c fc) (ha : ST X a fa) (hb : ST X b fb) : ST X (.IfExp c a b pos) (fun ρ S => bnd (fc ρ S) fun x S1 => match truthD S1 x with
    | some true => fa ρ S1
    | some false => fb ρ S1
    | none => none) := by
  intro ρ S d S' e z hz m σ H he hs pins s I
  obtain ⟨x, S1, e1, e⟩ := bnd_eq e
  cases hk1 : truthD S1 x with
  | none => simp only [hk1] at e; cases e
  | some k1 =>
    simp only [hk1] at e
    refine PyProof.Rows.isTrue_IfExp (thn (hc ρ S x S1 e1 k1 hk1 m σ H he hs pins s I) fun b1 s1 ⟨H1, I1, eb, m1, p1, t1, r1, _⟩ => ?_)
    subst eb
    cases b1 with
    | true => exact thn (ha ρ S1 d S' e z hz m1 σ H1 (he.mono t1 p1) r1 pins s1 I1) fun b2 s2 ⟨H2, I2, q1, q2⟩ => ⟨H2, I2, q1, q2.up p1 t1⟩
    | false => exact thn (hb ρ S1 d S' e z hz m1 σ H1 (he.mono t1 p1) r1 pins s1 I1) fun b2 s2 ⟨H2, I2, q1, q2⟩ => ⟨H2, I2, q1, q2.up p1 t1⟩
theorem glob_ok (g : Good T P wf k N sc X) {x : Str} (h : glob T sc x = true) : Gl X x ∧ X.mg x = none ∧ x ≠ "__name__" ∧ (x == ("__debug__" : Str)) = false := by
  unfold glob at h
  simp only [Bool.and_eq_true, decide_eq_true_eq] at h
  obtain ⟨h1, h2, h3⟩ := ok3 h.1.1
  exact ⟨by show X.env.scope.names.lookup x = _; rw [g.sc]; exact h.1.2, g.blt x h.2, h3, h1⟩
theorem tyOf_ok {x : Str} {t : Ty} (h : tyOf x = some t) : bootBuiltins x = some (.type t.nm) := by
  unfold tyOf at h
  split at h
  · rename_i e; cases h; subst e; decide +kernel
  split at h
  · rename_i e; cases h; subst e; decide +kernel
  split at h
  · rename_i e; cases h; subst e; decide +kernel
  split at h
  · rename_i e; cases h; subst e; decide +kernel
  split at h
  · rename_i e; cases h; subst e; decide +kernel
  split at h
  · rename_i e; cases h; subst e; decide +kernel
  · cases h
theorem good_b1 (g : Good T P wf k N sc X) {x : Str} {a : Expr} {fa : Env → Sto → R D} {p pos : Pos} {b : B1} (hg : glob T sc x = true) (hb : b1Of x = some b) (hst : isStar a = false) (ha : SE X a fa) : SE X (.Call (.Name x p) [a] [] pos) (fun ρ S => bnd (fa ρ S) fun y S1 => b1D S1 b y) := by
  obtain ⟨h1, h2, h3, h4⟩ := glob_ok g hg
  unfold b1Of at hb
  split at hb
  · rename_i e; cases hb; subst e; exact se_b1 sb_len h1 h2 (by decide +kernel) h3 h4 hst ha
  split at hb
  · rename_i e; cases hb; subst e; exact se_t1 sb_tuple h1 h2 (by decide +kernel) h3 h4 hst ha
  split at hb
  · rename_i e; cases hb; subst e; exact se_t1 (sb_list g.calm) h1 h2 (by decide +kernel) h3 h4 hst ha
  split at hb
  · rename_i e; cases hb; subst e; exact se_b1 (sb_sorted g.room) h1 h2 (by decide +kernel) h3 h4 hst ha
  split at hb
  · rename_i e; cases hb; subst e; exact se_b1 (sb_all g.calm) h1 h2 (by decide +kernel) h3 h4 hst ha
  split at hb
  · rename_i e; cases hb; subst e; exact se_t1 sb_int h1 h2 (by decide +kernel) h3 h4 hst ha
  split at hb
  · rename_i e; cases hb; subst e; exact se_b1 (sb_repr g.room g.gd) h1 h2 (by decide +kernel) h3 h4 hst ha
  · cases hb
theorem good_b2 (g : Good T P wf k N sc X) {x : Str} {a c : Expr} {fa fc : Env → Sto → R D} {p pos : Pos} {b : B2} (hg : glob T sc x = true) (hb : b2Of x = some b) (hst : isStar a = false) (hst' : isStar c = false) (ha : SE X a fa) (hc : SE X c fc) : SE X (.Call (.Name x p) [a, c] [] pos) (fun ρ S => bnd (fa ρ S) fun y S1 => bnd (fc ρ S1) fun z S2 => b2D S2 b y z) := by
  obtain ⟨h1, h2, h3, h4⟩ := glob_ok g hg
  unfold b2Of at hb
  split at hb
  · rename_i e; cases hb; subst e; exact se_b2 (sb_max g.calm) h1 h2 (by decide +kernel) h3 h4 hst hst' ha hc
  split at hb
  · rename_i e; cases hb; subst e; exact se_b2 (sb_min g.calm) h1 h2 (by decide +kernel) h3 h4 hst hst' ha hc
  split at hb
  · rename_i e; cases hb; subst e; exact se_b2 sb_divmod h1 h2 (by decide +kernel) h3 h4 hst hst' ha hc
  · cases hb
theorem good_meth {x nm : Str} {px apos pos : Pos} {b : Expr} {fa fb : Env → Sto → R D} {o : M2} (hl : (apos.endLine == pos.line) = true) (ho : m2Of nm = some o) (hst : isStar b = false) (ha : SE X (.Name x px) fa) (hb : SE X b fb) :
    SE X (.Call (.Attribute (.Name x px) nm apos) [b] [] pos) (fun ρ S => bnd (fa ρ S) fun y S1 => if isL S1 y = true then bnd (fb ρ S1) fun z S2 => m2D S2 o y z else none) := by
  unfold m2Of at ho
  split at ho
  · rename_i e; cases ho; subst e; exact se_meth PySem.F.slot_list_append PySem.F.type_list_append mt_append hl hst ha hb mr_append
  split at ho
  · rename_i e; cases ho; subst e; exact se_meth PySem.F.slot_list_extend PySem.F.type_list_extend mt_extend hl hst ha hb mr_extend
  split at ho
  · rename_i e; cases ho; subst e; exact se_meth PySem.F.slot_list_pop PySem.F.type_list_pop mt_popAt hl hst ha hb mr_pop
  · cases ho
theorem good_sm {o : Expr} {nm : Str} {apos pos : Pos} {b : Expr} {fa fb : Env → Sto → R D} {q : SM} (hl : (apos.endLine == pos.line) = true) (ho : smOf nm = some q) (hst : isStar b = false) (hbase : ∀ nm, attributeBase o nm X.env (eval o X.env) = eval o X.env) (ha : SE X o fa) (hb : SE X b fb) :
    SE X (.Call (.Attribute o nm apos) [b] [] pos) (fun ρ S => bnd (fa ρ S) fun y S1 => if isS y = true then bnd (fb ρ S1) fun z S2 => smD S2 q y z else none) := by
  unfold smOf at ho
  split at ho
  · rename_i e; cases ho; subst e; exact se_sm PySem.F.slot_str_strip PySem.F.type_str_strip mt_stripChars hst (hbase _) hl ha hb sm_strip
  split at ho
  · rename_i e; cases ho; subst e; exact se_sm PySem.F.slot_str_join PySem.F.type_str_join mt_join hst (hbase _) hl ha hb sm_join
  · cases ho
theorem rngArg_ok {a p' q' : Expr} (h : rngArg T sc a = some (p', q')) : ∃ y py ps, a = .Call (.Name y py) [p', q'] [] ps ∧ y = "range" ∧ glob T sc y = true ∧ isStar p' = false ∧ isStar q' = false := by
  unfold rngArg at h
  split at h
  · split at h
    · rename_i hc
      cases h
      exact ⟨_, _, _, rfl, hc⟩
    · cases h
  · cases h
theorem rg_rng {K : PySem.W.Frag} {H : Hp} {m : List Addr} {i j : Int} : RVs K H m (rangeD i (j - i).toNat) (rgV i j) := by
  unfold rangeD rgV
  generalize (List.range (j - i).toNat) = l
  induction l with
  | nil => exact .nil
  | cons a r ih => exact .cons (.int _) ih
theorem rgOk_small {i j : Int} (h : small i ∧ small j ∧ (j - i).toNat ≤ 100000) : RgOk i j := ⟨h.1.1, h.1.2, h.2.1.1, h.2.1.2, by omega⟩
theorem se_rngT {a b : Expr} {fa fb : Env → Sto → R D} {p pos p' pos' : Pos} (hc : X.calm = true) (hg : Gl X "tuple") (hm : X.mg "tuple" = none) (hg' : Gl X "range") (hm' : X.mg "range" = none) (s1 : isStar a = false) (s2 : isStar b = false) (ha : SE X a fa) (hb : SE X b fb) :
    SE X (.Call (.Name "tuple" p) [.Call (.Name "range" p') [a, b] [] pos'] [] pos) (fun ρ S => bnd (fa ρ S) fun x S1 => bnd (fb ρ S1) fun y S2 => rngD S2 true x y) := fun ρ S d S' e m σ H he hs => by
  obtain ⟨x, S1, e1, e⟩ := bnd_eq e
  obtain ⟨y, S2, e2, e⟩ := bnd_eq e
  refine WE.of (pe_tupRg hc hg hm (prg_2 hg' hm' (pe_W a) (pe_W b) (ns_of s1 _ _) (ns_of s2 _ _) (ns_all (es := [b]) _ _ (by simp [s2])))) ((ha ρ S x S1 e1 m σ H he hs).mono fun v H1 ⟨m1, p1, t1, r1, q1⟩ => ?_)
  refine (hb ρ S1 y S2 e2 m1 σ H1 (he.mono t1 p1) r1).mono fun u H2 ⟨m2, p2, t2, r2, q2⟩ => ?_
  have q1 := q1.mono t2 p2
  unfold rngD at e
  split at e
  · rename_i i j
    split at e
    · rename_i hs
      simp only [if_true] at e
      unfold newT at e
      split at e
      · cases e
        cases q1
        cases q2
        exact ⟨_, _, rfl, rfl, rgOk_small (by assumption), fun q hq => ⟨m2, p1.trans p2, (t1.trans t2).trans (TK.new hq), r2.tup hq, .tup (SqT.of upd_same) rg_rng⟩⟩
      · cases e
    · cases e
  · cases e
theorem se_rngL {a b : Expr} {fa fb : Env → Sto → R D} {p pos p' pos' : Pos} (hc : X.calm = true) (hg : Gl X "list") (hm : X.mg "list" = none) (hg' : Gl X "range") (hm' : X.mg "range" = none) (s1 : isStar a = false) (s2 : isStar b = false) (ha : SE X a fa) (hb : SE X b fb) :
    SE X (.Call (.Name "list" p) [.Call (.Name "range" p') [a, b] [] pos'] [] pos) (fun ρ S => bnd (fa ρ S) fun x S1 => bnd (fb ρ S1) fun y S2 => rngD S2 false x y) := fun ρ S d S' e m σ H he hs => by
  obtain ⟨x, S1, e1, e⟩ := bnd_eq e
  obtain ⟨y, S2, e2, e⟩ := bnd_eq e
  refine WE.of (pe_listRg hc hg hm (prg_2 hg' hm' (pe_W a) (pe_W b) (ns_of s1 _ _) (ns_of s2 _ _) (ns_all (es := [b]) _ _ (by simp [s2])))) ((ha ρ S x S1 e1 m σ H he hs).mono fun v H1 ⟨m1, p1, t1, r1, q1⟩ => ?_)
  refine (hb ρ S1 y S2 e2 m1 σ H1 (he.mono t1 p1) r1).mono fun u H2 ⟨m2, p2, t2, r2, q2⟩ => ?_
  have q1 := q1.mono t2 p2
  unfold rngD at e
  split at e
  · rename_i i j
    split at e
    · rename_i hs
      simp only [Bool.false_eq_true, if_false] at e
      unfold newL at e
      split at e
      · cases e
        cases q1
        cases q2
        exact ⟨_, _, rfl, rfl, rgOk_small (by assumption), fun q hq => (pv_newL r2 rg_rng hq).up (p1.trans p2) (t1.trans t2)⟩
      · cases e
    · cases e
  · cases e
theorem setArg_ok {a q' : Expr} (h : setArg T sc a = some q') : ∃ y py ps, a = .Call (.Name y py) [q'] [] ps ∧ y = "set" ∧ glob T sc y = true ∧ isStar q' = false := by
  unfold setArg at h
  split at h
  · split at h
    · rename_i hc
      cases h
      exact ⟨_, _, _, rfl, hc⟩
    · cases h
  · cases h
theorem strs_rv {K : PySem.W.Frag} {H : Hp} {m : List Addr} : ∀ {xs : List D} {ys : List Str} {vs : List V}, strsOf xs = some ys → RVs K H m xs vs → vs = ys.map V.str
  | [], ys, vs, e, q => by cases e; cases q; rfl
  | .str x :: r, ys, vs, e, q => by
    cases q with
    | cons q1 q2 =>
      rw [strsOf] at e
      cases h : strsOf r with
      | none => rw [h] at e; cases e
      | some zs =>
        rw [h] at e; cases e; cases q1
        rw [strs_rv h q2]; rfl
  | .non :: _, _, _, e, _ => by cases e
  | .bl _ :: _, _, _, e, _ => by cases e
  | .int _ :: _, _, _, e, _ => by cases e
  | .tup _ :: _, _, _, e, _ => by cases e
  | .ref _ :: _, _, _, e, _ => by cases e
theorem se_lset {a : Expr} {fa : Env → Sto → R D} {p pos p' pos' : Pos} (hc : X.calm = true) (hg : Gl X "len") (hm : X.mg "len" = none) (hg' : Gl X "set") (hm' : X.mg "set" = none) (s1 : isStar a = false) (ha : SE X a fa) :
    SE X (.Call (.Name "len" p) [.Call (.Name "set" p') [a] [] pos'] [] pos) (fun ρ S => bnd (fa ρ S) fun x S1 => b1D S1 .set x) := fun ρ S d S' e m σ H he hs => by
  obtain ⟨x, S1, e1, e⟩ := bnd_eq e
  refine WE.of (StS.pe_lset hc hg hm hg' hm' (pe_W a) (ns_of s1 _ _)) ((ha ρ S x S1 e1 m σ H he hs).mono fun v H1 ⟨m1, p1, t1, r1, q1⟩ => ?_)
  cases q1 with
  | @ref n l ea =>
    replace e : ((itemsAt S1 n).bind fun xs => (strsOf xs).bind fun ys => if ys.length < 4000 then some (D.int (StS.cntI ys ys.length), S1) else none) = some (d, S') := e
    cases hi : itemsAt S1 n with
    | none => rw [hi] at e; cases e
    | some xs =>
      rw [hi, Option.bind_some] at e
      cases hy : strsOf xs with
      | none => rw [hy] at e; cases e
      | some ys =>
        rw [hy, Option.bind_some] at e
        split at e
        · rename_i hb
          cases e
          obtain ⟨vs, h1, h2⟩ := r1.items ea hi
          rw [strs_rv hy h2] at h1
          exact ⟨l, ys, rfl, h1, hb, m1, p1, t1, r1, .int _⟩
        · cases e
  | _ => cases e
theorem rv_strs {K : PySem.W.Frag} {H : Hp} {m : List Addr} : ∀ ys : List Str, RVs K H m (ys.map D.str) (ys.map V.str)
  | [] => .nil
  | y :: ys => .cons (.str y) (rv_strs ys)
theorem se_sset {a : Expr} {fa : Env → Sto → R D} {p pos p' pos' : Pos} (hc : X.calm = true) (hu : X.A.units + 20 < cLine) (hg : Gl X "sorted") (hm : X.mg "sorted" = none) (hg' : Gl X "set") (hm' : X.mg "set" = none) (s1 : isStar a = false) (ha : SE X a fa) :
    SE X (.Call (.Name "sorted" p) [.Call (.Name "set" p') [a] [] pos'] [] pos) (fun ρ S => bnd (fa ρ S) fun x S1 => b1D S1 .sset x) := fun ρ S d S' e m σ H he hs => by
  obtain ⟨x, S1, e1, e⟩ := bnd_eq e
  refine WE.of (StS.pe_sset hc hu hg hm hg' hm' (pe_W a) (ns_of s1 _ _)) ((ha ρ S x S1 e1 m σ H he hs).mono fun v H1 ⟨m1, p1, t1, r1, q1⟩ => ?_)
  cases q1 with
  | @ref n l ea =>
    replace e : ((itemsAt S1 n).bind fun xs => (strsOf xs).bind fun ys => if ys.length < 4000 then newL S1 ((StS.sS ys).map D.str) else none) = some (d, S') := e
    cases hi : itemsAt S1 n with
    | none => rw [hi] at e; cases e
    | some xs =>
      rw [hi, Option.bind_some] at e
      cases hy : strsOf xs with
      | none => rw [hy] at e; cases e
      | some ys =>
        rw [hy, Option.bind_some] at e
        split at e
        · rename_i hb
          unfold newL at e
          split at e
          · cases e
            obtain ⟨vs, h1, h2⟩ := r1.items ea hi
            rw [strs_rv hy h2] at h1
            exact ⟨l, ys, rfl, h1, hb, fun q hq => (pv_newL r1 (rv_strs _) hq).up p1 t1⟩
          · cases e
        · cases e
  | _ => cases e
theorem zipArg_ok {a p' q' : Expr} (h : zipArg T sc a = some (p', q')) : ∃ y py ps, a = .Call (.Name y py) [p', q'] [] ps ∧ y = "zip" ∧ glob T sc y = true ∧ isStar p' = false ∧ isStar q' = false := by
  unfold zipArg at h
  split at h
  · split at h
    · rename_i hc
      cases h
      exact ⟨_, _, _, rfl, hc⟩
    · cases h
  · cases h
theorem se_lz {a b : Expr} {fa fb : Env → Sto → R D} {p pos p' pos' : Pos} (hc : X.calm = true) (hg : Gl X "list") (hm : X.mg "list" = none) (hg' : Gl X "zip") (hm' : X.mg "zip" = none) (s1 : isStar a = false) (s2 : isStar b = false) (ha : SE X a fa) (hb : SE X b fb) :
    SE X (.Call (.Name "list" p) [.Call (.Name "zip" p') [a, b] [] pos'] [] pos) (fun ρ S => bnd (fa ρ S) fun x S1 => bnd (fb ρ S1) fun y S2 => b2D S2 .lzip x y) := fun ρ S d S' e m σ H he hs => by
  obtain ⟨x, S1, e1, e⟩ := bnd_eq e
  obtain ⟨y, S2, e2, e⟩ := bnd_eq e
  refine WE.of (LzS.pe_lz hc hg hm hg' hm' (pa_cons (pe_W a) (pa_cons (pe_W b) pa_nil (ns_of s2 _ _)) (ns_of s1 _ _)) (ns_of s1 _ _) (ns_all (es := [b]) _ _ (by simp [s2]))) ((ha ρ S _ _ e1 m σ H he hs).mono fun v H1 ⟨m1, p1, t1, r1, q1⟩ => ?_)
  refine (hb ρ S1 _ _ e2 m1 σ H1 (he.mono t1 p1) r1).mono fun u H2 ⟨m2, p2, t2, r2, q2⟩ => ?_
  have q1 := q1.mono t2 p2
  cases q1 with
  | @tup a vs xs ha' hra =>
    cases q2 with
    | @tup b us ys hb' hrb =>
      replace e : (if (xs.isEmpty || ys.isEmpty) = true then newL S2 [] else none) = some (d, S') := e
      split at e
      · rename_i hz
        unfold newL at e
        split at e
        · cases e
          refine ⟨a, b, vs, us, rfl, ha', hb', ?_, fun q hq => (pv_newL r2 .nil hq).up (p1.trans p2) (t1.trans t2)⟩
          rw [Bool.or_eq_true] at hz
          rcases hz with hz | hz
          · left; rw [List.isEmpty_iff] at hz; subst hz; cases hra; rfl
          · right; rw [List.isEmpty_iff] at hz; subst hz; cases hrb; rfl
        · cases e
      · cases e
    | _ => cases e
  | _ => cases e
theorem good_blt (g : Good T P wf k N sc X) {f : Expr → E} (ih : ∀ e, SET X e (evE cl (f e))) {x : Str} {es : List Expr} {p pos : Pos} (hg : glob T sc x = true) (hst : es.any isStar = false) : SE X (.Call (.Name x p) es [] pos) (evE cl (erBlt T sc f x es)) := by
  have bad : ∀ {e : Expr}, SE X e (evE cl .bad) := fun {e} => set_bad.1
  unfold erBlt
  split
  · rename_i a
    have ha : isStar a = false := by simpa using hst
    split
    · rename_i p' q' hpq
      obtain ⟨y, py, ps, rfl, rfl, hgy, s1, s2⟩ := rngArg_ok hpq
      obtain ⟨h1, h2, h3, h4⟩ := glob_ok g hg
      obtain ⟨g1, g2, g3, g4⟩ := glob_ok g hgy
      split
      · rename_i hx
        subst hx
        have z := se_rngT (p := p) (pos := pos) (p' := py) (pos' := ps) g.calm h1 h2 g1 g2 s1 s2 (ih p').1 (ih q').1
        have e : evE cl (.rng true (f p') (f q')) = fun ρ S => bnd (evE cl (f p') ρ S) fun y S1 => bnd (evE cl (f q') ρ S1) fun z S2 => rngD S2 true y z := by funext ρ S; simp only [evE]
        rw [e]; exact z
      · split
        · rename_i hx
          subst hx
          have z := se_rngL (p := p) (pos := pos) (p' := py) (pos' := ps) g.calm h1 h2 g1 g2 s1 s2 (ih p').1 (ih q').1
          have e : evE cl (.rng false (f p') (f q')) = fun ρ S => bnd (evE cl (f p') ρ S) fun y S1 => bnd (evE cl (f q') ρ S1) fun z S2 => rngD S2 false y z := by funext ρ S; simp only [evE]
          rw [e]; exact z
        · exact bad
    split
    · rename_i q' hq'
      obtain ⟨y, py, ps, rfl, rfl, hgy, s1⟩ := setArg_ok hq'
      obtain ⟨h1, h2, h3, h4⟩ := glob_ok g hg
      obtain ⟨g1, g2, g3, g4⟩ := glob_ok g hgy
      split
      · rename_i hx
        subst hx
        have z := se_lset (p := p) (pos := pos) (p' := py) (pos' := ps) g.calm h1 h2 g1 g2 s1 (ih q').1
        have e : evE cl (.b1 .set (f q')) = fun ρ S => bnd (evE cl (f q') ρ S) fun y S1 => b1D S1 .set y := by funext ρ S; simp only [evE]
        rw [e]; exact z
      split
      · rename_i hx
        subst hx
        have z := se_sset (p := p) (pos := pos) (p' := py) (pos' := ps) g.calm (by have := units64 g.room; omega) h1 h2 g1 g2 s1 (ih q').1
        have e : evE cl (.b1 .sset (f q')) = fun ρ S => bnd (evE cl (f q') ρ S) fun y S1 => b1D S1 .sset y := by funext ρ S; simp only [evE]
        rw [e]; exact z
      · exact bad
    split
    · rename_i p' q' hpq
      obtain ⟨y, py, ps, rfl, rfl, hgy, s1, s2⟩ := zipArg_ok hpq
      obtain ⟨h1, h2, h3, h4⟩ := glob_ok g hg
      obtain ⟨g1, g2, g3, g4⟩ := glob_ok g hgy
      split
      · rename_i hx
        subst hx
        have z := se_lz (p := p) (pos := pos) (p' := py) (pos' := ps) g.calm h1 h2 g1 g2 s1 s2 (ih p').1 (ih q').1
        have e : evE cl (.b2 .lzip (f p') (f q')) = fun ρ S => bnd (evE cl (f p') ρ S) fun y S1 => bnd (evE cl (f q') ρ S1) fun z S2 => b2D S2 .lzip y z := by funext ρ S; simp only [evE]
        rw [e]; exact z
      · exact bad
    split
    · rename_i b hb
      have z := good_b1 g (p := p) (pos := pos) hg hb ha (ih a).1
      have e : evE cl (.b1 b (f a)) = fun ρ S => bnd (evE cl (f a) ρ S) fun y S1 => b1D S1 b y := by funext ρ S; simp only [evE]
      rw [e]; exact z
    · exact bad
  · rename_i a b
    have hh : isStar a = false ∧ isStar b = false := by simpa using hst
    split
    · rename_i hx
      split
      · rename_i y py
        split
        · rename_i hgy
          split
          · rename_i t ht
            obtain ⟨h1, h2, h3, h4⟩ := glob_ok g hg
            obtain ⟨g1, g2, g3, g4⟩ := glob_ok g hgy
            have z := se_isi (p := p) (pos := pos) (p' := py) h1 h2 hx g1 g2 (tyOf_ok ht) g3 g4 hh.1 (ih a).1
            have e : evE cl (.isi (f a) t) = fun ρ S => bnd (evE cl (f a) ρ S) fun y S1 => (isiD S1 y t).map fun k => (.bl k, S1) := by funext ρ S; simp only [evE]
            rw [e]; exact z
          · exact bad
        · exact bad
      · exact bad
    · split
      · rename_i o ho
        have z := good_b2 g (p := p) (pos := pos) hg ho hh.1 hh.2 (ih a).1 (ih b).1
        have e : evE cl (.b2 o (f a) (f b)) = fun ρ S => bnd (evE cl (f a) ρ S) fun y S1 => bnd (evE cl (f b) ρ S1) fun z S2 => b2D S2 o y z := by funext ρ S; simp only [evE]
        rw [e]; exact z
      · exact bad
  · exact bad
theorem good_call (g : Good T P wf k N sc X) {f : Expr → E} (ih : ∀ e, SET X e (evE (callF P wf k) (f e))) {fn : Expr} {es : List Expr} {kws : List Keyword} {pos : Pos} : SE X (.Call fn es kws pos) (evE (callF P wf k) (erCall T sc f fn es kws pos)) := by
  have bad : ∀ {e : Expr}, SE X e (evE (callF P wf k) .bad) := fun {e} => set_bad.1
  unfold erCall
  split
  · split
    · rename_i hst
      split
      · rename_i x p
        split
        · rename_i i hi
          split
          · rename_i hc
            obtain ⟨ho, hl, hne⟩ := hc
            obtain ⟨h1, h2, h3⟩ := ok3 ho
            obtain ⟨fa, fd, ps, np, q1, q2, q3, q4, q5⟩ := g.fn i x (slotOf_get hi)
            have z := se_call (p := p) (pos := pos) q4 g.room g.gd (by show X.env.scope.names.lookup x = _; rw [g.sc]; exact hl) q1 q2 q3 q5 h1 hst hne (good_es ih hst)
            have e : evE (callF P wf k) (.call i (mkEs (es.map f))) = fun ρ S => bnd (evEs (callF P wf k) (mkEs (es.map f)) ρ S) fun ds S1 => callF P wf k i ds S1 := by funext ρ S; simp only [evE]
            rw [e]; exact z
          · exact bad
        · split
          · rename_i hg
            exact good_blt g ih hg hst
          · exact bad
      · rename_i x px nm apos
        split
        · rename_i b
          split
          · rename_i hl
            split
            · rename_i o ho
              have z := good_meth hl ho (by simpa using hst) (ih (.Name x px)).1 (ih b).1
              have e : evE (callF P wf k) (.meth o (f (.Name x px)) (f b)) = fun ρ S => bnd (evE (callF P wf k) (f (.Name x px)) ρ S) fun y S1 => if isL S1 y = true then bnd (evE (callF P wf k) (f b) ρ S1) fun z S2 => m2D S2 o y z else none := by funext ρ S; simp only [evE]
              rw [e]; exact z
            · split
              · rename_i o ho
                have z := good_sm (pos := pos) hl ho (by simpa using hst) (fun nm => rfl) (ih (.Name x px)).1 (ih b).1
                have e : evE (callF P wf k) (.sm o (f (.Name x px)) (f b)) = fun ρ S => bnd (evE (callF P wf k) (f (.Name x px)) ρ S) fun y S1 => if isS y = true then bnd (evE (callF P wf k) (f b) ρ S1) fun z S2 => smD S2 o y z else none := by funext ρ S; simp only [evE]
                rw [e]; exact z
              · exact bad
          · exact bad
        · exact bad
      · rename_i t kc pc nm apos
        split
        · rename_i b
          split
          · rename_i hl
            split
            · rename_i o ho
              have z := good_sm (pos := pos) hl ho (by simpa using hst) (fun nm => rfl) (ih (.Constant (.str t) kc pc)).1 (ih b).1
              have e : evE (callF P wf k) (.sm o (f (.Constant (.str t) kc pc)) (f b)) = fun ρ S => bnd (evE (callF P wf k) (f (.Constant (.str t) kc pc)) ρ S) fun y S1 => if isS y = true then bnd (evE (callF P wf k) (f b) ρ S1) fun z S2 => smD S2 o y z else none := by funext ρ S; simp only [evE]
              rw [e]; exact z
            · exact bad
          · exact bad
        · exact bad
      · exact bad
    · exact bad
  · exact bad
end
end Ev
end
section
set_option Elab.async false
set_option linter.all false
set_option maxRecDepth 100000
set_option maxHeartbeats 4000000
/-! Subscripts, walks, comprehensions of the text; all expressions. -/
namespace Ev
open PySem PySem.Spec PyProof.Rows L2

section
variable {T : Tab} {P : List Fn} {wf k : Nat} {N : List Str} {sc : Scope} {X : Cx} {cl : Nat → List D → Sto → R D}
theorem good_o {f : Expr → E} (ih : ∀ e, SET X e (evE cl (f e))) (o : Option Expr) : SOo X o (evO cl (erO f o)) := by
  cases o with
  | none =>
    have e : evO cl (erO f none) = fun _ S => some (none, S) := by funext ρ S; simp only [erO, evO]
    rw [e]; exact soo_none
  | some a =>
    have e : evO cl (erO f (some a)) = fun ρ S => bnd (evE cl (f a) ρ S) fun d S1 => some (some d, S1) := by funext ρ S; simp only [erO, evO]
    rw [e]; exact soo_some (ih a).1
theorem good_sub {f : Expr → E} (ih : ∀ e, SET X e (evE cl (f e))) {a b : Expr} {p : Pos} : SE X (.Subscript a b p) (evE cl (erSub f a b)) := by
  unfold erSub
  split
  · rename_i lo hi p2
    have z := se_sl (pos := p) (p2 := p2) (ih a).1 (good_o ih lo) (good_o ih hi)
    have e : evE cl (.sl (f a) (erO f lo) (erO f hi)) = fun ρ S => bnd (evE cl (f a) ρ S) fun x S1 => bnd (evO cl (erO f lo) ρ S1) fun l S2 => bnd (evO cl (erO f hi) ρ S2) fun h S3 => sl3 S3 x l h := by funext ρ S; simp only [evE]
    rw [e]; exact z
  · rename_i s p2
    split
    · rename_i hb
      obtain ⟨k1, p3, p4, rfl⟩ := isBack_ok hb
      have z := se_rev (pos := p) (k := k1) (p1 := p3) (p2 := p4) (p3 := p2) (ih a).1
      have e : evE cl (.rev (f a)) = fun ρ S => bnd (evE cl (f a) ρ S) fun x S1 => revD S1 x := by funext ρ S; simp only [evE]
      rw [e]; exact z
    · exact set_bad.1
  · exact set_bad.1
  · rename_i h1 h0 h2
    have hp : PlainIx b := by
      intro o i
      cases b with
      | Slice lo hi st p2 =>
        cases st with
        | none => exact absurd rfl (h1 lo hi p2)
        | some s => exact absurd rfl (h2 lo hi s p2)
      | _ => rfl
    have z := se_ix (pos := p) hp (ih a).1 (ih b).1
    have e : evE cl (.ix (f a) (f b)) = fun ρ S => bnd (evE cl (f a) ρ S) fun x S1 => bnd (evE cl (f b) ρ S1) fun y S2 => ixD S2 x y := by funext ρ S; simp only [evE]
    rw [e]; exact z
theorem si_bad {tg it : Expr} : SI X tg it (evI cl .bad) := fun _ _ _ _ h => (by simp only [evI] at h; cases h)
theorem good_seq {f : Expr → E} (ih : ∀ e, SET X e (evE cl (f e))) {tg it : Expr} : SI X tg it (evI cl (.seq (f it))) := by
  have e : evI cl (.seq (f it)) = fun ρ S => bnd (evE cl (f it) ρ S) fun d S1 => srcD S1 d := by funext ρ S; simp only [evI]
  rw [e]; exact si_seq (ih it).1
theorem good_I (g : Good T P wf k N sc X) {f : Expr → E} (ih : ∀ e, SET X e (evE cl (f e))) {tg it : Expr} : SI X tg it (evI cl (erI T sc f (isTup tg) it)) := by
  unfold erI
  split
  · rename_i x p es kws pos
    split
    · rename_i hx
      split
      · rename_i hc
        obtain ⟨hg, hst, hkw⟩ := hc
        obtain ⟨h1, h2, h3, h4⟩ := glob_ok g hg
        have hk : kws = [] := by simpa using hkw
        subst hk
        split
        · rename_i a
          have z := si_r1 (tg := tg) (p := p) (pos := pos) hx h1 h2 (by simpa using hst) (ih a).1
          have e : evI cl (.r1 (f a)) = fun ρ S => bnd (evE cl (f a) ρ S) fun d S1 => rng1 S1 d := by funext ρ S; simp only [evI]
          rw [e]; exact z
        · rename_i a b
          have hh : isStar a = false ∧ isStar b = false := by simpa using hst
          have z := si_r2 (tg := tg) (p := p) (pos := pos) hx h1 h2 hh.1 hh.2 (ih a).1 (ih b).1
          have e : evI cl (.r2 (f a) (f b)) = fun ρ S => bnd (evE cl (f a) ρ S) fun d S1 => bnd (evE cl (f b) ρ S1) fun e S2 => rng2 S2 d e := by funext ρ S; simp only [evI]
          rw [e]; exact z
        · exact si_bad
      · exact si_bad
    · split
      · rename_i hx
        split
        · rename_i hc
          obtain ⟨hg, hst, hkw, htup⟩ := hc
          obtain ⟨h1, h2, h3, h4⟩ := glob_ok g hg
          have hk : kws = [] := by simpa using hkw
          subst hk
          split
          · rename_i a b
            have hh : isStar a = false ∧ isStar b = false := by simpa using hst
            cases tg with
            | Tuple ts kk tp =>
              have z := si_zip (es := ts) (kk := kk) (tpos := tp) (p := p) (pos := pos) hx h1 h2 hh.1 hh.2 (ih a).1 (ih b).1
              have e : evI cl (.zip (f a) (f b)) = fun ρ S => bnd (evE cl (f a) ρ S) fun d S1 => bnd (evE cl (f b) ρ S1) fun e S2 => zipD S2 d e := by funext ρ S; simp only [evI]
              rw [e]; exact z
            | _ => cases htup
          · exact si_bad
        · exact si_bad
      · split
        · rename_i hx
          split
          · rename_i hc
            obtain ⟨hg, hst, hkw, htup⟩ := hc
            obtain ⟨h1, h2, h3, h4⟩ := glob_ok g hg
            have hk : kws = [] := by simpa using hkw
            subst hk
            split
            · rename_i a
              have hh : isStar a = false := by simpa using hst
              cases tg with
              | Tuple ts kk tp =>
                have z := si_enum (es := ts) (kk := kk) (tpos := tp) (p := p) (pos := pos) hx g.calm h1 h2 hh (ih a).1
                have e : evI cl (.enum (f a)) = fun ρ S => bnd (evE cl (f a) ρ S) fun d S1 => enumD S1 d := by funext ρ S; simp only [evI]
                rw [e]; exact z
              | _ => cases htup
            · exact si_bad
          · exact si_bad
        · exact good_seq ih
  · exact si_bad
  · exact good_seq ih
theorem erI_fold {f : Expr → E} {b : Bool} {it : Expr} (h : ∀ a c d, it = .Set a c d → False) (env : PySem.Env) (x : Value) : foldedSetIterable it env x = pure x := by
  cases it <;> first | rfl | exact absurd rfl (h _ _ _)
def notSet : Expr → Bool
  | .Set _ _ _ => false
  | _ => true
theorem fold_ok {it : Expr} (h : notSet it = true) (env : PySem.Env) (x : Value) : foldedSetIterable it env x = pure x := by
  cases it <;> first | rfl | cases h
/-! ### a block -/
theorem relab_eq {scope : Scope} {env : PySem.Env} : relabel scope env = relab scope env.scope := rfl
theorem Good.blk (g : Good T P wf k N sc X) (scope : Scope) (s : Shared) (H : Hp) (C : Addr) (c : List (Str × Addr)) (fp : List Addr) : Good T P wf k N (relab scope sc) (Blk X scope s H C c fp) where
  sc := by show relabel scope X.env = _; rw [relab_eq, g.sc]
  hN := g.hN
  nd := g.nd
  calm := g.calm
  xe := rfl
  room := g.room
  gd := g.gd
  blt := g.blt
  con := g.con
  fn := g.fn
theorem lookup_relab {sc scope : Scope} {x : Str} {kd : NameKind} (h : scope.names.lookup x = some kd) (hk : kd ≠ .free) : (relab scope sc).names.lookup x = some kd := by
  show (scope.names.map _).lookup x = some kd
  generalize scope.names = l at h
  induction l with
  | nil => cases h
  | cons q r ih =>
    obtain ⟨n, kk⟩ := q
    rw [List.lookup_cons] at h
    rw [List.map_cons]
    by_cases hx : (x == n) = true
    · rw [hx] at h
      have h : kk = kd := Option.some.inj h
      subst h
      have hf : (kk == NameKind.free) = false := by cases kk <;> first | rfl | exact absurd rfl hk
      simp only [hf, Bool.false_and, Bool.false_eq_true, if_false, List.lookup_cons, hx]
    · have hx' : (x == n) = false := by simpa using hx
      rw [hx'] at h
      have ih := ih h
      show List.lookup x ((if (kk == NameKind.free && sc.kind == ScopeKind.function && List.lookup n sc.names == some NameKind.cell) = true then (n, NameKind.cell) else (n, kk)) :: _) = some kd
      by_cases hb : (kk == NameKind.free && sc.kind == ScopeKind.function && List.lookup n sc.names == some NameKind.cell) = true
      · rw [if_pos hb, List.lookup_cons, hx']; exact ih
      · rw [if_neg hb, List.lookup_cons, hx']; exact ih
theorem optAll_cons {α β : Type} {f : α → Option β} {a : α} {r : List α} {ys : List β} (h : optAll ((a :: r).map f) = some ys) : ∃ b bs, f a = some b ∧ optAll (r.map f) = some bs ∧ ys = b :: bs := by
  rw [List.map_cons] at h
  cases ha : f a with
  | none => rw [ha] at h; cases h
  | some b =>
    rw [ha, optAll] at h
    cases hr : optAll (r.map f) with
    | none => rw [hr] at h; cases h
    | some bs => rw [hr] at h; cases h; exact ⟨b, bs, rfl, rfl, rfl⟩
/-- a target in a context whose scope tells its names local, or cells that are its own -/
theorem names_of {N : List Str} (hN : X.N = N) (hx : ∀ x, (∃ xs : List Str, x ∈ xs) → True) {es : List Expr} {xs : List Str} {own : List (Str × Nat)} (h1 : optAll (es.map fun e => match e with
    | .Name x _ => some x
    | _ => none) = some xs) (h2 : optAll (xs.map fun x => (slotOf N x).map fun i => (x, i)) = some own) (hl : ∀ x ∈ xs, Loc X.env.scope x ∧ (X.fn x = true ∨ X.env.scope.names.lookup x = some .local)) : Names X es (own.map (·.2)) := by
  induction es generalizing xs own with
  | nil =>
    cases (show some ([] : List Str) = some xs from h1)
    cases (show some ([] : List (Str × Nat)) = some own from h2)
    exact .nil
  | cons e es ih =>
    obtain ⟨x, xr, e1, e2, rfl⟩ := optAll_cons h1
    obtain ⟨q, qr, e3, e4, rfl⟩ := optAll_cons h2
    cases e with
    | Name y p =>
      have e1 : y = x := Option.some.inj e1
      subst e1
      cases hs : slotOf N y with
      | none => rw [hs] at e3; cases e3
      | some i =>
        rw [hs] at e3; cases e3
        have hy := hl y (by simp)
        exact .cons (by rw [hN]; exact slotOf_get hs) hy.1 hy.2 (ih e2 e4 fun x hx => hl x (by simp [hx]))
    | _ => cases e1
theorem sg_of {N : List Str} (hc : X.calm = true) (hnd : X.N.Nodup) (hN : X.N = N) {sc' : Scope} {tg : Expr} {own : List (Str × Nat)} (h : tgSlots N sc' tg = some own) (hl : ∀ x, sc'.names.lookup x = some .local ∨ sc'.names.lookup x = some .cell → Loc X.env.scope x ∧ (X.fn x = true ∨ X.env.scope.names.lookup x = some .local)) : SG X tg (mkTg tg (own.map (·.2))) ∧ (mkTg tg (own.map (·.2))).slots = own.map (·.2) := by
  unfold tgSlots at h
  cases hn : tgNames tg with
  | none => rw [hn] at h; cases h
  | some xs =>
    rw [hn] at h
    simp only at h
    split at h
    · rename_i hall
      have hall : ∀ x ∈ xs, sc'.names.lookup x = some .local ∨ sc'.names.lookup x = some .cell := by simpa using hall
      cases tg with
      | Name x p =>
        cases hn
        obtain ⟨q, qr, e3, e4, rfl⟩ := optAll_cons (r := []) h
        cases e4
        cases hs : slotOf N x with
        | none => rw [hs] at e3; cases e3
        | some i =>
          rw [hs] at e3; cases e3
          have hy := hl x (hall x (by simp))
          exact ⟨sg_one hnd (by rw [hN]; exact slotOf_get hs) hy.1 hy.2, rfl⟩
      | Tuple es n p =>
        have z := names_of (X := X) hN (fun _ _ => trivial) hn h fun x hx => hl x (hall x hx)
        exact ⟨sg_many hc hnd z, rfl⟩
      | _ => cases hn
    · cases h
end
end Ev
end
section
set_option Elab.async false
set_option linter.all false
set_option maxRecDepth 100000
set_option maxHeartbeats 4000000
/-! All expressions; statements of the text. -/
namespace Ev
open PySem PySem.Spec PyProof.Rows L2

theorem mkTg_slots (tg : Expr) (is : List Nat) : (mkTg tg is).slots = is := by
  unfold mkTg
  split <;> rfl
section
variable {T : Tab} {P : List Fn} {wf k : Nat} {N : List Str} {sc : Scope} {X : Cx} {cl : Nat → List D → Sto → R D}
theorem blk_tg (g : Good T P wf k N sc X) {tg : Expr} {scope : Scope} {own : List (Str × Nat)} (ho : tgSlots N scope tg = some own) (s : Shared) (H : Hp) (C : Addr) (c : List (Str × Addr)) (fp : List Addr) :
    SG (Blk X scope s H C c fp) tg (mkTg tg (own.map (·.2))) := by
  have gb := g.blk scope s H C c fp
  refine (sg_of (N := N) gb.calm (by rw [gb.hN]; exact gb.nd) gb.hN ho fun x hx => ?_).1
  have hsc : (Blk X scope s H C c fp).env.scope = relab scope sc := gb.sc
  rcases hx with hx | hx
  · have z := lookup_relab (sc := sc) hx (by decide)
    exact ⟨.inl (by rw [hsc]; exact z), .inr (by rw [hsc]; exact z)⟩
  · have z := lookup_relab (sc := sc) hx (by decide)
    refine ⟨.inr (by rw [hsc]; exact z), .inl ?_⟩
    show (scope.names.lookup x == some .cell) = true
    rw [hx]; rfl
/-- what a comprehension of the text is erased to -/
def erLc (T : Tab) (N : List Str) (f : Scope → Expr → E) (sc : Scope) (elt tg iter : Expr) (ifs : List Expr) (scope : Scope) : E := match tgSlots N scope tg with
  | some own => if blkC N sc scope own = true ∧ notSet iter = true then (match ifs with
    | [] => .comp (f (relab scope sc) elt) (mkTg tg (own.map (·.2))) (own.map (·.2)) (erI T sc (f sc) (isTup tg) iter) .none
    | [c] => .comp (f (relab scope sc) elt) (mkTg tg (own.map (·.2))) (own.map (·.2)) (erI T sc (f sc) (isTup tg) iter) (.some (f (relab scope sc) c))
    | _ => .bad) else .bad
  | none => .bad
/-- its reading, by meaning -/
abbrev LcT (X : Cx) (scope : Scope) (tg iter elt : Expr) (ifs : List Expr) (own : List (Str × Nat)) : TE := tLc (WI X tg iter) (fun v σ H Q => ∀ s0 H0 C cl fp, WG (Blk X scope s0 H0 C cl fp) tg v σ H Q) (fun σ H Q => ∀ s0 H0 C cl fp, WTs (Blk X scope s0 H0 C cl fp) ifs σ H Q) (fun σ H Q => ∀ s0 H0 C cl fp, WE (Blk X scope s0 H0 C cl fp) elt σ H Q) (own.map (·.2))
theorem lc_read (g : Good T P wf k N sc X) {f : Scope → Expr → E} (ih : ∀ sc X, Good T P wf k N sc X → ∀ e, SET X e (evE (callF P wf k) (f sc e))) {elt tg iter : Expr} {ifs : List Expr} {scope : Scope} {ρ : Env} {S S' : Sto} {d : D}
    (e : evE (callF P wf k) (erLc T N f sc elt tg iter ifs scope) ρ S = some (d, S')) {m : List Addr} {σ : L2.St} {H : Hp} (hE : RE X.K H m ρ σ) (hS : RS X.K H m S) :
    ∃ own, BlkOk X.N X.env.scope scope own ∧ notSet iter = true ∧ ∀ Q : VK, (∀ v H', PV X.K m H S' d v H' → Q v H') → LcT X scope tg iter elt ifs own σ H Q := by
  unfold erLc at e
  split at e
  · rename_i own ho
    split at e
    · rename_i hb
      have ok : BlkOk X.N X.env.scope scope own := by rw [g.hN, g.sc]; exact blkOk_by hb.1
      have hI := good_I g (ih sc X g) (tg := tg) (it := iter)
      have hsl : ∀ i ∈ (mkTg tg (own.map (·.2))).slots, i ∈ own.map (·.2) := fun i hi => by rw [mkTg_slots] at hi; exact hi
      split at e
      · refine ⟨own, ok, hb.2, fun Q hQ => ?_⟩
        simp only [evE] at e
        exact tLc_core (fc := evO (callF P wf k) .none) hI hsl (blk_tg g ho) (fun s H C c fp => .inl ⟨rfl, by funext ρ S; simp only [evO]⟩) (fun s H C c fp => (ih _ _ (g.blk scope s H C c fp) elt).1) e hE hS hQ
      · rename_i c
        refine ⟨own, ok, hb.2, fun Q hQ => ?_⟩
        simp only [evE] at e
        refine tLc_core (fc := evO (callF P wf k) (.some (f (relab scope sc) c))) hI hsl (blk_tg g ho) (fun s H C cc fp => .inr ⟨c, _, rfl, (ih _ _ (g.blk scope s H C cc fp) c).2, ?_⟩) (fun s H C c fp => (ih _ _ (g.blk scope s H C c fp) elt).1) e hE hS hQ
        funext ρ S; simp only [evO]
      · simp only [evE] at e; cases e
    · simp only [evE] at e; cases e
  · simp only [evE] at e; cases e
theorem se_lc (g : Good T P wf k N sc X) {f : Scope → Expr → E} (ih : ∀ sc X, Good T P wf k N sc X → ∀ e, SET X e (evE (callF P wf k) (f sc e))) {elt tg iter : Expr} {ifs : List Expr} {scope : Scope} {pos : Pos} :
    SE X (.ListComp elt [⟨tg, iter, ifs, 0⟩] scope pos) (evE (callF P wf k) (erLc T N f sc elt tg iter ifs scope)) := by
  intro ρ S d S' e m σ H he hs
  obtain ⟨own, ok, hset, h⟩ := lc_read g ih e he hs
  refine WE.of (pe_lc (own := own) g.calm (by rw [g.hN]; exact g.nd) (pi_W tg iter) ok (fun s H C c fp => ⟨fun pins s1 σ1 H1 v u Q I r q => q s H C c fp pins s1 u I r⟩) (fun s H C c fp => ⟨fun pins s1 σ1 H1 Q I q => (pts_W ifs).run pins s1 σ1 H1 Q I (q s H C c fp)⟩) (fun s H C c fp => ⟨fun pins s1 σ1 H1 Q I q => q s H C c fp pins s1 I⟩) (fun x => fold_ok hset _ x)) (h _ fun v H' z => z)
end
/-- the text's expressions -/
def erX (T : Tab) (N : List Str) : Nat → Scope → Expr → E
  | 0, _, _ => .bad
  | k + 1, sc, e => match e with
    | .Name x _ => erName T N sc x
    | .Constant c _ _ => erConst c
    | .Tuple es _ _ => if es.any isStar = false then .tup (mkEs (es.map (erX T N k sc))) else .bad
    | .List es _ => if es.any isStar = false then .lst (mkEs (es.map (erX T N k sc))) else .bad
    | .Dict ks vs _ => if ks.isEmpty = true ∧ vs.isEmpty = true then .dnew else .bad
    | .BinOp a op b _ => .bin op (erX T N k sc a) (erX T N k sc b)
    | .UnaryOp op a _ => (match op with
      | .USub => .neg (erX T N k sc a)
      | .Not => .not (erX T N k sc a)
      | _ => .bad)
    | .Compare a ops bs _ => erCmp (erX T N k sc) a ops bs
    | .BoolOp op es _ => mkB op (erX T N k sc) es
    | .IfExp c a b _ => .ite (erX T N k sc c) (erX T N k sc a) (erX T N k sc b)
    | .Call fn es kws pos => erCall T sc (erX T N k sc) fn es kws pos
    | .Subscript a b _ => erSub (erX T N k sc) a b
    | .ListComp elt gens scope _ => (match gens with
      | [⟨tg, iter, ifs, as⟩] => if as = 0 then erLc T N (erX T N k) sc elt tg iter ifs scope else .bad
      | _ => .bad)
    | _ => .bad
section
variable {T : Tab} {P : List Fn} {wf k : Nat} {N : List Str}
theorem good_X : ∀ (n : Nat) (sc : Scope) (X : Cx), Good T P wf k N sc X → ∀ e, SET X e (evE (callF P wf k) (erX T N n sc e)) := by
  intro n
  induction n with
  | zero => intro sc X g e; exact set_bad
  | succ n ih =>
    intro sc X g e
    have ih1 := ih sc X g
    cases e with
    | Name x p => exact good_name g
    | Constant c j p => exact good_const
    | Tuple es j p =>
      show SET X _ (evE _ (if es.any isStar = false then _ else _))
      split
      · rename_i h
        exact (SET.of (se_tup (good_es ih1 h))).eq fun ρ S => by simp only [evE]
      · exact set_bad
    | List es p =>
      show SET X _ (evE _ (if es.any isStar = false then _ else _))
      split
      · rename_i h
        exact (SET.of (se_lst (good_es ih1 h))).eq fun ρ S => by simp only [evE]
      · exact set_bad
    | Dict ks vs p =>
      show SET X _ (evE _ (if ks.isEmpty = true ∧ vs.isEmpty = true then _ else _))
      split
      · rename_i h
        obtain ⟨h1, h2⟩ := h
        rw [List.isEmpty_iff] at h1 h2
        subst h1 h2
        exact (SET.of se_dnew).eq fun ρ S => by simp only [evE]
      · exact set_bad
    | BinOp a op b p => exact (SET.of (se_bin (ih1 a).1 (ih1 b).1 (so_bin op))).eq fun ρ S => by simp only [erX, evE]
    | UnaryOp op a p =>
      cases op with
      | USub => exact (SET.of (se_neg (ih1 a).1)).eq fun ρ S => by simp only [erX, evE] <;> rfl
      | Not => exact SET.eq ⟨se_not (ih1 a).1, st_not (ih1 a).2⟩ fun ρ S => by simp only [erX, evE, fNot]
      | _ => exact set_bad
    | Compare a ops bs p => exact good_cmp g.room ih1
    | BoolOp op es p =>
      obtain ⟨h1, h2⟩ := good_bool (es := es) (op := op) (p := p) ih1
      exact ⟨h1, h2.st⟩
    | IfExp c a b p => exact SET.eq ⟨se_ite (ih1 c).2 (ih1 a).1 (ih1 b).1, st_ite (ih1 c).2 (ih1 a).2 (ih1 b).2⟩ fun ρ S => by simp only [erX, evE] <;> rfl
    | Call fn es kws p => exact SET.of (good_call g ih1)
    | Subscript a b p => exact SET.of (good_sub ih1)
    | ListComp elt gens scope p =>
      cases gens with
      | nil => exact set_bad
      | cons q r =>
        obtain ⟨tg, iter, ifs, as⟩ := q
        cases r with
        | cons _ _ => exact set_bad
        | nil =>
          show SET X _ (evE _ (if as = 0 then _ else _))
          split
          · rename_i h
            subst h
            exact SET.of (se_lc g ih)
          · exact set_bad
    | _ => exact set_bad
end
end Ev
end
section
set_option Elab.async false
set_option linter.all false
set_option maxRecDepth 100000
set_option maxHeartbeats 4000000
/-! Statements of the text. -/
namespace Ev
open PySem PySem.Spec PyProof.Rows L2

def isComp : Expr → Bool
  | .ListComp _ _ _ _ => true
  | .SetComp _ _ _ _ => true
  | .DictComp _ _ _ _ _ => true
  | _ => false
theorem swaps_no {e : Expr} (h : isComp e = false) (t : Option Expr) (l : Nat) (env : PySem.Env) : swapsWith e t l env = pure false := by
  cases e <;> first | rfl | cases h
/-- two names at once: both local, one line, not constants alone -/
def parOk (sc : Scope) (x y : Str) (px py : Pos) (a b : Expr) : Bool :=
  (match sc.kind with | .function => true | _ => false) && decide (sc.names.lookup x = some .local) && decide (sc.names.lookup y = some .local) && (py.line == px.line) && !(x == y) && !isStar a && !isStar b && !([a, b].all (foldedForSure 8)) && !([a, b].all (constantsAlone 8))
theorem par_sw {X : Cx} {x y : Str} {px py pt pt2 : Pos} {kt k2 : Nat} {a b : Expr} (h : parOk X.env.scope x y px py a b = true) : swappedStores [.Tuple [.Name x px, .Name y py] kt pt] (.Tuple [a, b] k2 pt2) X.env = pure (some [x, y]) := by
  unfold parOk at h
  simp only [Bool.and_eq_true, decide_eq_true_eq, Bool.not_eq_true'] at h
  obtain ⟨⟨⟨⟨⟨⟨⟨⟨h1, h2⟩, h3⟩, h4⟩, h5⟩, h6⟩, h7⟩, h8⟩, h9⟩ := h
  have hk : X.env.scope.kind = .function := by split at h1 <;> first | assumption | cases h1
  have hb : X.env.blockKind = .function := by unfold PySem.Env.blockKind; rw [hk]; rfl
  have k1 : X.env.kindOf x = some .local := h2
  have k2 : X.env.kindOf y = some .local := h3
  have hpos : (Expr.Name x px).pos.line = px.line := rfl
  have hxy : (y == x) = false := by
    rw [beq_eq_false_iff_ne] at h5 ⊢
    exact fun z => h5 z.symm
  unfold swappedStores
  simp only [List.length_cons, List.length_nil, hb, List.any_cons, List.any_nil, List.head?_cons, Option.map_some, Option.getD_some, hpos]
  rw [if_neg (by decide)]
  have hst : (isStar a || (isStar b || false)) = false := by rw [h6, h7]; rfl
  refine Eq.trans (if_neg (show ¬ ((isStar a || (isStar b || false)) = true) by rw [hst]; exact Bool.false_ne_true)) ?_
  refine Eq.trans (if_neg ?c) ?_
  case c =>
    simp only [List.filterMap_cons, List.filterMap_nil, k1, k2, h4, beq_self_eq_true, Bool.and_self, if_true]
    have hd : ([x, y] : List Str).eraseDups = [x, y] := by
      simp only [List.eraseDups_cons, List.filter_cons, List.filter_nil, hxy, Bool.not_false, if_true, List.eraseDups_nil]
    rw [hd]
    simp
  refine Eq.trans (if_neg (by rw [h8]; exact Bool.false_ne_true)) ?_
  refine Eq.trans (if_neg (by rw [h9]; exact Bool.false_ne_true)) ?_
  simp only [List.filterMap_cons, List.filterMap_nil, k1, k2, h4, beq_self_eq_true, Bool.and_self, if_true]

def mkTs : List T → Ts
  | [] => .nil
  | t :: r => .cons t (mkTs r)
def erPar (N : List Str) (sc : Scope) (f : Expr → E) (ts vs : List Expr) : T := match ts, vs with
  | [.Name x px, .Name y py], [a, b] => if parOk sc x y px py a b = true then (match slotOf N x, slotOf N y with
    | some i, some j => if i = j then .bad else .par i j (f a) (f b)
    | _, _ => .bad) else .bad
  | _, _ => .bad
def erAsg (N : List Str) (sc : Scope) (f : Expr → E) (tg e : Expr) : T := match tg with
  | .Name x p => (match tgSlots N sc (.Name x p) with
    | some own => (match e with
      | .SetComp _ _ _ _ => .bad
      | .DictComp _ _ _ _ _ => .bad
      | _ => .asg (mkTg (.Name x p) (own.map (·.2))) (f e))
    | none => .bad)
  | .Tuple ts k p => (match e with
    | .Tuple vs _ _ => erPar N sc f ts vs
    | _ => if isComp e = false then (match tgSlots N sc (.Tuple ts k p) with
      | some own => .asg (mkTg (.Tuple ts k p) (own.map (·.2))) (f e)
      | none => .bad) else .bad)
  | .Subscript o i _ => (match i with
    | .Tuple ks _ _ => if isComp e = false ∧ ks.any isStar = false then .setD (f o) (mkEs (ks.map f)) (f e) else .bad
    | i => if isComp e = false ∧ plainIx i = true then .setIx (f o) (f i) (f e) else .bad)
  | _ => .bad
def erT (T' : Tab) (N : List Str) (sc : Scope) : Nat → Stmt → T
  | 0, _ => .bad
  | n + 1, st => match st with
    | .Assign [tg] e _ => erAsg N sc (erX T' N n sc) tg e
    | .AugAssign (.Subscript o i _) .Add e _ => if plainIx i = true then .augIx (erX T' N n sc o) (erX T' N n sc i) (erX T' N n sc e) else .bad
    | .Expr e _ => (match e with
      | .Constant (.str _) _ _ => .pass
      | e => if isComp e = false then .expr (erX T' N n sc e) else .bad)
    | .Return (some e) _ => .ret (erX T' N n sc e)
    | .If c a b _ => .ife (erX T' N n sc c) (mkTs (a.map (erT T' N sc n))) (mkTs (b.map (erT T' N sc n)))
    | .For tg it body [] _ => if notSet it = true then (match tgSlots N sc tg with
      | some own => .for (mkTg tg (own.map (·.2))) (erI T' sc (erX T' N n sc) (isTup tg) it) (mkTs (body.map (erT T' N sc n)))
      | none => .bad) else .bad
    | .While c body [] _ => .while (erX T' N n sc c) (mkTs (body.map (erT T' N sc n)))
    | .Pass _ => .pass
    | _ => .bad
section
variable {T' : Tab} {P : List Fn} {wf k : Nat} {N : List Str} {sc : Scope} {X : Cx}
theorem ss_bad {st : Stmt} : SS X st (evT (callF P wf k) wf .bad) := fun _ _ _ _ h => (by simp only [evT] at h; cases h)
theorem SS.eq {st : Stmt} {f g : Env → Sto → R Fl} (h : SS X st f) (q : ∀ ρ S, g ρ S = f ρ S) : SS X st g := by
  have : g = f := by funext ρ S; exact q ρ S
  rw [this]; exact h
theorem good_ts {f : Stmt → T} (ih : ∀ st, SS X st (evT (callF P wf k) wf (f st))) : ∀ sts : List Stmt, SSs X sts (evTs (callF P wf k) wf (mkTs (sts.map f)))
  | [] => by
    have e : evTs (callF P wf k) wf (mkTs ([].map f)) = fun ρ S => some (.nx ρ, S) := by funext ρ S; simp only [List.map_nil, mkTs, evTs]
    rw [e]; exact sss_nil
  | st :: r => by
    have e : evTs (callF P wf k) wf (mkTs ((st :: r).map f)) = fSeq (evT (callF P wf k) wf (f st)) (evTs (callF P wf k) wf (mkTs (r.map f))) := by
      funext ρ S; simp only [List.map_cons, mkTs, evTs, fSeq] <;> rfl
    rw [e]; exact sss_cons (ih st) (good_ts ih r)
theorem sg_def (g : Good T' P wf k N sc X) (hf : ∀ x, X.fn x = true) {tg : Expr} {own : List (Str × Nat)} (h : tgSlots N sc tg = some own) : SG X tg (mkTg tg (own.map (·.2))) :=
  (sg_of (N := N) g.calm (by rw [g.hN]; exact g.nd) g.hN h fun x hx => ⟨by show X.env.scope.names.lookup x = _ ∨ _; rw [g.sc]; exact hx, .inl (hf x)⟩).1
/-- x = [..] -/
theorem ss_asgLc (g : Good T' P wf k N sc X) (hf : ∀ x, X.fn x = true) {n : Nat} {x : Str} {p pos spos : Pos} {own : List (Str × Nat)} (h : tgSlots N sc (.Name x p) = some own) {elt : Expr} {gens : List Comprehension} {scope : Scope} :
    SS X (.Assign [.Name x p] (.ListComp elt gens scope pos) spos) (fun ρ S => bnd (evE (callF P wf k) (erX T' N n sc (.ListComp elt gens scope pos)) ρ S) fun d S1 => (setT (mkTg (.Name x p) (own.map (·.2))) d ρ).map fun ρ' => (.nx ρ', S1)) := by
  have hE := (good_X n sc X g (.ListComp elt gens scope pos)).1
  have hG := sg_def g hf h
  have hsw : swapsWithSole [.Name x p] (.ListComp elt gens scope pos) spos.line X.env = pure (X.env.blockKind == .function && X.env.kindOf x == some .local && p.line == pos.line && !(scope.names.any fun (n, k) => n == x && (k == .local || k == .cell))) := rfl
  by_cases hb : (X.env.blockKind == .function && X.env.kindOf x == some .local && p.line == pos.line && !(scope.names.any fun (n, k) => n == x && (k == .local || k == .cell))) = true
  · -- the target is stored within
    rw [hb] at hsw
    intro ρ S fl S' e m σ H he hs Dn w
    obtain ⟨d, S1, e1, e2⟩ := bnd_eq e
    clear e
    cases n with
    | zero => simp only [erX, evE] at e1; cases e1
    | succ n =>
      cases gens with
      | nil => simp only [erX, evE] at e1; cases e1
      | cons q r =>
        obtain ⟨tg, iter, ifs, as⟩ := q
        cases r with
        | cons _ _ => simp only [erX, evE] at e1; cases e1
        | nil =>
          simp only [erX] at e1
          split at e1
          · rename_i has
            subst has
            obtain ⟨own', ok, hset, hr⟩ := lc_read g (good_X n) e1 he hs
            have hsl : slotOf N x = some (mkTg (.Name x p) (own.map (·.2))).slots.head! ∧ own.map (·.2) = [(mkTg (.Name x p) (own.map (·.2))).slots.head!] := by
              unfold tgSlots at h
              simp only [tgNames] at h
              split at h
              · obtain ⟨q, qr, e3, e4, rfl⟩ := optAll_cons (r := []) h
                cases e4
                cases hs : slotOf N x with
                | none => rw [hs] at e3; cases e3
                | some i => rw [hs] at e3; cases e3; exact ⟨rfl, rfl⟩
              · cases h
            generalize hi : (mkTg (.Name x p) (own.map (·.2))).slots.head! = i at hsl
            rw [hsl.2] at e2
            cases e2
            have hloc : X.env.scope.names.lookup x = some .local := by
              simp only [Bool.and_eq_true] at hb
              exact eq_of_beq hb.1.1.2
            refine WS.of (ps_setLc (own := own') (i := i) (wi := WI X tg iter) (g := fun v σ H Q => ∀ s0 H0 C cl fp, WG (Blk X scope s0 H0 C cl fp) tg v σ H Q) (tt := fun σ H Q => ∀ s0 H0 C cl fp, WTs (Blk X scope s0 H0 C cl fp) ifs σ H Q) (te := fun σ H Q => ∀ s0 H0 C cl fp, WE (Blk X scope s0 H0 C cl fp) elt σ H Q) g.calm (by rw [g.hN]; exact g.nd) (by rw [g.hN]; exact slotOf_get hsl.1) hloc hsw (pi_W tg iter) ok (fun s H C c fp => ⟨fun pins s1 σ1 H1 v u Q I r q => q s H C c fp pins s1 u I r⟩) (fun s H C c fp => ⟨fun pins s1 σ1 H1 Q I q => (pts_W ifs).run pins s1 σ1 H1 Q I (q s H C c fp)⟩) (fun s H C c fp => ⟨fun pins s1 σ1 H1 Q I q => q s H C c fp pins s1 I⟩) (fun x => fold_ok hset _ x)) ?_
            refine hr _ fun v H1 ⟨m1, p1, t1, r1, q1⟩ => ?_
            exact w.nx _ _ H1 rfl ⟨m1, p1, t1, r1, (he.mono t1 p1).set i q1⟩
          · simp only [evE] at e1; cases e1
  · rw [Bool.eq_false_iff.mpr hb] at hsw
    exact ss_asg hsw rfl rfl hE hG
theorem good_T (g : Good T' P wf k N sc X) (hf : ∀ x, X.fn x = true) : ∀ (n : Nat) (st : Stmt), SS X st (evT (callF P wf k) wf (erT T' N sc n st)) := by
  intro n
  induction n with
  | zero => intro st; exact ss_bad
  | succ n ih =>
    intro st
    have ihE := good_X (T := T') (P := P) (wf := wf) (k := k) (N := N) n sc X g
    cases st with
    | Assign tgs e p =>
      cases tgs with
      | nil => exact ss_bad
      | cons tg r =>
        cases r with
        | cons _ _ => exact ss_bad
        | nil =>
          show SS X _ (evT (callF P wf k) wf (erAsg N sc (erX T' N n sc) tg e))
          cases tg with
          | Name x px =>
            simp only [erAsg]
            split
            · rename_i own ho
              have key : isComp e = false → SS X (.Assign [.Name x px] e p) (evT (callF P wf k) wf (.asg (mkTg (.Name x px) (own.map (·.2))) (erX T' N n sc e))) := fun hc =>
                (ss_asg (swaps_no hc _ _ _) (by cases e <;> rfl) rfl (ihE e).1 (sg_def g hf ho)).eq fun ρ S => by simp only [evT]
              cases e with
              | ListComp elt gens scope pos => exact (ss_asgLc g hf (n := n) ho).eq fun ρ S => by simp only [evT]
              | SetComp _ _ _ _ => exact ss_bad
              | DictComp _ _ _ _ _ => exact ss_bad
              | _ => exact key rfl
            · exact ss_bad
          | Tuple ts kt pt =>
            simp only [erAsg]
            split
            · rename_i vs k2 p2
              unfold erPar
              split
              · rename_i x px y py a b
                split
                · rename_i hp
                  split
                  · rename_i i j hi hj
                    split
                    · exact ss_bad
                    · rename_i hij
                      have hp' : parOk X.env.scope x y px py a b = true := by rw [g.sc]; exact hp
                      have hp2 := hp
                      unfold parOk at hp2
                      simp only [Bool.and_eq_true, decide_eq_true_eq, Bool.not_eq_true'] at hp2
                      obtain ⟨⟨⟨⟨⟨⟨⟨⟨h1, h2⟩, h3⟩, h4⟩, h5⟩, h6⟩, h7⟩, h8⟩, h9⟩ := hp2
                      exact (ss_par g.calm (by rw [g.hN]; exact g.nd) (by rw [g.hN]; exact slotOf_get hi) (by rw [g.hN]; exact slotOf_get hj) hij (by rw [g.sc]; exact h2) (by rw [g.sc]; exact h3) (par_sw hp') h6 h7 (ihE a).1 (ihE b).1).eq fun ρ S => by simp only [evT]
                  · exact ss_bad
                · exact ss_bad
              · exact ss_bad
            · rename_i hnt
              split
              · rename_i hc
                split
                · rename_i own ho
                  refine (ss_asg (swaps_no hc _ _ _) ?_ rfl (ihE e).1 (sg_def g hf ho)).eq fun ρ S => by simp only [evT]
                  cases e <;> first | rfl | exact absurd rfl (hnt _ _ _)
                · exact ss_bad
              · exact ss_bad
          | Subscript o i px =>
            simp only [erAsg]
            split
            · rename_i ks jt pt
              split
              · rename_i hc
                exact (ss_setD (X := X) (a := e) (b := o) (p := px) (p' := p) (p1 := pt) (j := jt) (by have := units64 g.room; omega) (swaps_no hc.1 (some (.Subscript o (.Tuple ks jt pt) px)) p.line X.env) (by cases e <;> rfl) (ihE e).1 (ihE o).1 (good_es ihE hc.2)).eq fun ρ S => by simp only [evT]
              · exact ss_bad
            split
            · rename_i hc
              exact (ss_setIx (X := X) (a := e) (b := o) (c := i) (p := px) (p' := p) (fun v => by cases i <;> first | rfl | cases hc.2) (swaps_no hc.1 (some (.Subscript o i px)) p.line X.env) (by cases e <;> rfl) (ihE e).1 (ihE o).1 (ihE i).1).eq fun ρ S => by simp only [evT]
            · exact ss_bad
          | _ => exact ss_bad
    | AugAssign tg op e p =>
      cases tg with
      | Subscript o i px =>
        cases op with
        | Add =>
          show SS X _ (evT (callF P wf k) wf (if plainIx i = true then _ else _))
          split
          · rename_i hc
            exact (ss_augIx (X := X) (a := e) (b := o) (c := i) (p := px) (p' := p) (fun ov iv new => by cases i <;> first | rfl | cases hc) (ihE e).1 (ihE o).1 (ihE i).1).eq fun ρ S => by (simp only [evT] <;> rfl)
          · exact ss_bad
        | _ => exact ss_bad
      | _ => exact ss_bad
    | Expr e p =>
      show SS X _ (evT (callF P wf k) wf (match e with
        | .Constant (.str _) _ _ => .pass
        | e => if isComp e = false then .expr (erX T' N n sc e) else .bad))
      split
      · exact ss_doc.eq fun ρ S => by simp only [evT]
      · split
        · rename_i hc
          exact (ss_expr (swaps_no hc _ _ _) (ihE _).1).eq fun ρ S => by simp only [evT]
        · exact ss_bad
    | Return o p =>
      cases o with
      | none => exact ss_bad
      | some e => exact (ss_ret (ihE e).1).eq fun ρ S => by simp only [erT, evT]
    | If c a b p => exact (ss_if (ihE c).2 (good_ts ih a) (good_ts ih b)).eq fun ρ S => by simp only [erT, evT, evC]
    | For tg it body els p =>
      cases els with
      | cons _ _ => exact ss_bad
      | nil =>
        show SS X _ (evT (callF P wf k) wf (if notSet it = true then _ else _))
        split
        · rename_i hset
          split
          · rename_i own ho
            exact (ss_for g.xe g.calm (good_I g ihE) (sg_def g hf ho) (good_ts ih body) (fun x => fold_ok hset _ x)).eq fun ρ S => by simp only [evT]
          · exact ss_bad
        · exact ss_bad
    | While c body els p =>
      cases els with
      | cons _ _ => exact ss_bad
      | nil => exact (ss_while wf g.xe (ihE c).2 (good_ts ih body)).eq fun ρ S => by simp only [erT, evT]; rfl
    | Pass p => exact ss_pass.eq fun ρ S => by simp only [erT, evT]
    | _ => exact ss_bad
end
end Ev
end
section
set_option Elab.async false
set_option linter.all false
set_option maxRecDepth 100000
set_option maxHeartbeats 4000000
/-! Defs. -/
namespace Ev
open PySem PySem.Spec PyProof.Rows L2

section
variable {K : PySem.W.Frag} {H : Hp} {m : List Addr}
theorem RE.start {N : List Str} {ds : List D} {vs : List V} (h : RVs K H m ds vs) : RE K H m (ds.map some ++ List.replicate (N.length - ds.length) none) (L2.start N vs) := by
  unfold L2.start
  rw [← h.length]
  refine ⟨by simp [h.length], fun i d e => ?_⟩
  rcases Nat.lt_or_ge i ds.length with hi | hi
  · rw [List.getElem?_append_left (by simpa using hi)] at e
    rw [List.getElem?_map] at e
    cases hd : ds[i]? with
    | none => rw [hd] at e; cases e
    | some d' =>
      rw [hd] at e; cases e
      obtain ⟨v, h1, h2⟩ := h.get hd
      refine ⟨v, ?_, h2⟩
      rw [List.getElem?_append_left (by rw [List.length_map, ← h.length]; exact hi), List.getElem?_map, h1]
      rfl
  · rw [List.getElem?_append_right (by simpa using hi)] at e
    rw [List.getElem?_replicate] at e
    split at e <;> cases e
end
/-- a def as the head tells it, and what it is erased to -/
structure DefOk (T : Tab) (n : Nat) (P : List Fn) (K : PySem.W.Frag) (mg : Str → Option Value) (i : Nat) (x : Str) : Prop where
  ex : ∃ (f : Addr) (fd : FuncData) (params : Arguments) (body : List Stmt) (scope : Scope) (N ps : List Str), FunD K x x params body scope [] [] f fd ∧ FnScope N ps scope ∧ Binds K fd ps [] ∧ mg x = some (.ref f) ∧ PySem.W.keepIn K (.ref f) = true ∧
    P[i]? = some ⟨N.length, ps.length, mkTs (body.map (erT T N scope n))⟩
/-- what is known of all defs at a level -/
def FnsOk (prog : Program) (w : World) (K : PySem.W.Frag) (mg : Str → Option Value) (base : Heap) (T : Tab) (P : List Fn) (wf k : Nat) : Prop := ∀ i x, T.fns[i]? = some x → ∃ f fd ps np, mg x = some (.ref f) ∧ PySem.W.keepIn K (.ref f) = true ∧ Binds K fd ps [] ∧ FnG prog w K mg base k f fd ps (SpG K np (callF P wf k i)) ∧ (∀ ds S r, callF P wf k i ds S = some r → ds.length = np)
section
variable {prog : Program} {w : World} {K : PySem.W.Frag} {mg : Str → Option Value} {base : Heap} {T : Tab} {n wf : Nat} {P : List Fn}
theorem def_ok (hb : ∀ x, T.blts.contains x = true → mg x = none) (hc : ∀ x d, T.consts.lookup x = some d → ∃ u v, mg x = some u ∧ RelV v u ∧ ∀ H m, RV K H m d v) {k : Nat} (ih : FnsOk prog w K mg base T P wf k) {i : Nat} {x : Str}
    {f : Addr} {fd : FuncData} {params : Arguments} {body : List Stmt} {scope : Scope} {N ps : List Str} (hF : FunD K x x params body scope [] [] f fd) (hS : FnScope N ps scope) (hP : P[i]? = some ⟨N.length, ps.length, mkTs (body.map (erT T N scope n))⟩) :
    FnG prog w K mg base (k + 1) f fd ps (SpG K ps.length (callF P wf (k + 1) i)) ∧ ∀ ds S r, callF P wf (k + 1) i ds S = some r → ds.length = ps.length := by
  have hcl : ∀ ds S, callF P wf (k + 1) i ds S = if ds.length = ps.length then bnd (evTs (callF P wf k) wf (mkTs (body.map (erT T N scope n))) (ds.map some ++ List.replicate (N.length - ps.length) none) S) fun r S1 => match r with
      | .nx _ => some (.non, S1)
      | .ret d => some (d, S1)
      else none := fun ds S => by
    show (match P[i]? with
      | none => none
      | some F => _) = _
    rw [hP] <;> rfl
  have hnp : ∀ ds S r, callF P wf (k + 1) i ds S = some r → ds.length = ps.length := fun ds S r h => by
    rw [hcl] at h
    split at h
    · assumption
    · cases h
  refine ⟨fnG_of hF hS (fun vs H Q h => h.1) (fun cdv A outer s H vs Q hr hg h => ?_), hnp⟩
  obtain ⟨hl, m, S, ds, d, S', hRS, hRV, e, hQ⟩ := h
  let X : Cx := (cxOf CX0 prog w K mg base N x scope f cdv A outer s H E0).nox
  have g : Good T P wf k N scope X := ⟨rfl, rfl, hS.nd, rfl, rfl, hr, hg, hb, hc, fun i x hx => ih i x hx⟩
  have hbody := good_ts (good_T g (fun _ => rfl) n) body
  rw [hcl] at e
  split at e
  · rename_i hlen
    obtain ⟨fl, S1, e1, e2⟩ := bnd_eq e
    have hRE := RE.start (N := N) hRV
    rw [hlen] at hRE
    refine hbody _ S fl S1 e1 m _ H hRE hRS _ ⟨fun ρ' σ' H' ef h => ?_, fun d' v H' ef h => ?_⟩
    · subst ef
      cases e2
      obtain ⟨m', p', t', r', _⟩ := h
      exact hQ .non H' ⟨m', p', t', r', .non⟩
    · subst ef
      cases e2
      exact hQ v H' h
  · cases e
theorem all_ok (hd : ∀ i x, T.fns[i]? = some x → DefOk T n P K mg i x)
    (hb : ∀ x, T.blts.contains x = true → mg x = none) (hc : ∀ x d, T.consts.lookup x = some d → ∃ u v, mg x = some u ∧ RelV v u ∧ ∀ H m, RV K H m d v) :
    ∀ k, FnsOk prog w K mg base T P wf k := by
  intro k
  induction k with
  | zero =>
    intro i x hx
    obtain ⟨f, fd, params, body, scope, N, ps, hF, hS, hB, hm, hk, hP⟩ := (hd i x hx).ex
    refine ⟨f, fd, ps, ps.length, hm, hk, hB, ⟨fun vs H Q h => h.1, fun A outer s H args us vs Q _ _ _ _ _ h => ?_⟩, fun ds S r h => by cases h⟩
    obtain ⟨_, m, S, ds, d, S', _, _, e, _⟩ := h
    cases e
  | succ k ih =>
    intro i x hx
    obtain ⟨f, fd, params, body, scope, N, ps, hF, hS, hB, hm, hk, hP⟩ := (hd i x hx).ex
    obtain ⟨h1, h2⟩ := def_ok hb hc ih hF hS hP
    exact ⟨f, fd, ps, ps.length, hm, hk, hB, h1, h2⟩
end
theorem lookup_in {α β : Type} [BEq α] [LawfulBEq α] {a : α} {b : β} : ∀ {l : List (α × β)}, l.lookup a = some b → (a, b) ∈ l
  | [], h => by cases h
  | (x, y) :: r, h => by
    rw [List.lookup_cons] at h
    cases hx : a == x with
    | true =>
      rw [hx] at h
      have h : y = b := Option.some.inj h
      rw [eq_of_beq hx, h]
      exact List.mem_cons_self ..
    | false =>
      rw [hx] at h
      exact List.mem_cons_of_mem _ (lookup_in h)
/-- the law's def: the script is the store's first thing -/
theorem law_sp {K : PySem.W.Frag} {g : List D → Sto → R D} {H : Hp} {a : Addr} {ns : List Int} (hf : ∃ o, H a = some (.frz o (.lst (ns.map V.int)))) (h : ∃ S', g [.ref 0] [.fz (ns.map D.int)] = some (.bl true, S')) :
    SpG K 1 g [.ref a] H (fun v _ => v = .bl true) := by
  obtain ⟨S', h⟩ := h
  have hv : ∀ ns : List Int, RVs K H [a] (ns.map D.int) (ns.map V.int) := fun ns => by
    induction ns with
    | nil => exact .nil
    | cons n r ih => exact .cons (.int n) ih
  obtain ⟨o, hf⟩ := hf
  refine ⟨rfl, [a], [.fz (ns.map D.int)], [.ref 0], .bl true, S', ⟨by simp, rfl, fun n b ob e1 e2 => ?_⟩, .cons (.ref rfl) .nil, h, fun v H' ⟨m', _, _, _, q⟩ => ?_⟩
  · cases n with
    | zero =>
      cases (show some a = some b from e1)
      cases (show some (O.fz (ns.map D.int)) = some ob from e2)
      exact ⟨o, ns.map V.int, hf, hv ns⟩
    | succ n => simp at e1
  · cases q; rfl
end Ev
end
section
set_option linter.all false
set_option maxRecDepth 100000
set_option maxHeartbeats 4000000
/-! What the small language does, as equations. -/
namespace Ev
open PySem L2
section
variable {S : Sto} {i j : Int} {n a b : Nat} {xs ys : List D} {x y d : D} {s t : Str}
theorem binD_add : binD S .Add (.int i) (.int j) = some (.int (i + j), S) := rfl
theorem binD_sub : binD S .Sub (.int i) (.int j) = some (.int (i - j), S) := rfl
theorem binD_mulr (h : -(2 ^ 64) < j ∧ j < 2 ^ 64) : binD S .Mult (.int i) (.int j) = some (.int (i * j), S) := if_pos (.inr h)
theorem binD_mull (h : -(2 ^ 64) < i ∧ i < 2 ^ 64) : binD S .Mult (.int i) (.int j) = some (.int (i * j), S) := if_pos (.inl h)
theorem binD_fdiv (h : 0 < j ∧ j < 1073741824) : binD S .FloorDiv (.int i) (.int j) = some (.int (i / j), S) := if_pos h
theorem binD_mod (h : 0 < j) : binD S .Mod (.int i) (.int j) = some (.int (i % j), S) := if_pos h
theorem binD_tup (h : (xs ++ ys).length ≤ 100000) : binD S .Add (.tup xs) (.tup ys) = some (.tup (xs ++ ys), S) := if_pos h
theorem binD_lst (h1 : S[a]? = some (.lst xs)) (h2 : S[b]? = some (.lst ys)) (h : (xs ++ ys).length ≤ 100000) : binD S .Add (.ref a) (.ref b) = some (.ref S.length, S ++ [.lst (xs ++ ys)]) := by
  show (match S[a]?, S[b]? with | some (.lst xs), some (.lst ys) => newL S (xs ++ ys) | _, _ => none) = _
  rw [h1, h2]; exact if_pos h
theorem newT_of (h : xs.length ≤ 100000) : newT S xs = some (.tup xs, S) := if_pos h
theorem newL_of (h : xs.length ≤ 100000) : newL S xs = some (.ref S.length, S ++ [.lst xs]) := if_pos h
theorem itemsAt_lst (h : S[n]? = some (.lst xs)) : itemsAt S n = some xs := by unfold itemsAt; rw [h]
theorem itemsAt_fz (h : S[n]? = some (.fz xs)) : itemsAt S n = some xs := by unfold itemsAt; rw [h]
theorem ixD_tup (h : atI xs i = some d) : ixD S (.tup xs) (.int i) = some (d, S) := by
  show (atI xs i).map _ = _
  rw [h]; rfl
theorem ixD_ref (h1 : itemsAt S n = some xs) (h : atI xs i = some d) : ixD S (.ref n) (.int i) = some (d, S) := by
  show (itemsAt S n).bind _ = _
  rw [h1, Option.bind_some, h]; rfl
theorem cmp_lt : cmpD S .Lt (.int i) (.int j) = some (decide (i < j)) := rfl
theorem cmp_gt : cmpD S .Gt (.int i) (.int j) = some (decide (j < i)) := rfl
theorem cmp_le : cmpD S .LtE (.int i) (.int j) = some (decide (i ≤ j)) := rfl
theorem cmp_ge : cmpD S .GtE (.int i) (.int j) = some (decide (j ≤ i)) := rfl
theorem cmp_eqi : cmpD S .Eq (.int i) (.int j) = some (i == j) := by
  simp [cmpD, eqD, pyD, PyData.eqv, PyData.canLay0]
theorem cmp_isN : cmpD S .Is x .non = some (match x with | .non => true | _ => false) := by
  cases x <;> rfl
theorem len_ref (h1 : itemsAt S n = some xs) : b1D S .len (.ref n) = some (.int xs.length, S) := by
  simp only [b1D, lenD, h1]; rfl
theorem len_tup : b1D S .len (.tup xs) = some (.int xs.length, S) := rfl
theorem b2_max : b2D S .max (.int i) (.int j) = some (.int (if j > i then j else i), S) := rfl
theorem b2_min : b2D S .min (.int i) (.int j) = some (.int (if j < i then j else i), S) := rfl
theorem tru_bl {c : Bool} : truthD S (.bl c) = some c := rfl
theorem set_one {ρ : Env} : setT (.one n) d ρ = some (ρ.set n (some d)) := rfl
theorem set_many {ρ : Env} {is : List Nat} : setT (.many is) (.tup xs) ρ = setAll is xs ρ := rfl
theorem setIx_of {ρ : Env} {k : Nat} (h1 : S[n]? = some (.lst xs)) (h2 : ixN xs.length i = some k) : setIxD S ρ (.ref n) (.int i) d = some (.nx ρ, S.set n (.lst (xs.set k d))) := by
  show (match S[n]? with | some (.lst xs) => (match ixN xs.length i with | some j => some (Fl.nx ρ, S.set n (.lst (xs.set j d))) | none => none) | _ => none) = _
  rw [h1]
  simp only [h2]
theorem isL_of (h : itemsAt S n = some xs) : isL S (.ref n) = true := by
  show (itemsAt S n).isSome = true
  rw [h]; rfl
theorem m2_append (h : S[n]? = some (.lst xs)) (hl : xs.length < 100000) : m2D S .append (.ref n) d = some (.non, S.set n (.lst (xs ++ [d]))) := by
  simp only [m2D, h, if_pos hl]
theorem m2_extend {m : Nat} (h : S[n]? = some (.lst xs)) (h' : S[m]? = some (.lst ys)) (hl : xs.length + ys.length ≤ 100000) : m2D S .extend (.ref n) (.ref m) = some (.non, S.set n (.lst (xs ++ ys))) := by
  simp only [m2D, h, h', if_pos hl]
theorem m2_pop {k : Nat} (h : S[n]? = some (.lst xs)) (hk : xs[k]? = some d) (hi : i = (k : Int)) (hb : i < 2 ^ 62) : m2D S .pop (.ref n) (.int i) = some (d, S.set n (.lst (xs.eraseIdx k))) := by
  subst hi
  have e : (k : Int).toNat = k := by omega
  simp only [m2D, h, e, hk, if_pos (show 0 ≤ (k : Int) ∧ (k : Int) < 2 ^ 62 from ⟨by omega, hb⟩)]
theorem tuple_ref (h1 : itemsAt S n = some xs) : b1D S .tuple (.ref n) = some (.tup xs, S) := by
  simp only [b1D, h1]; rfl
theorem sorted_ref (h1 : itemsAt S n = some xs) : b1D S .sorted (.ref n) = sortD S xs := by
  simp only [b1D, h1]; rfl
theorem rng1_of (h1 : -(2 ^ 62) ≤ j) (h2 : j < 2 ^ 62) : rng1 S (.int j) = some (⟨rangeD 0 j.toNat, []⟩, S) := if_pos ⟨h1, h2⟩
theorem rng2_of (h1 : -(2 ^ 62) ≤ i) (h2 : i < 2 ^ 62) (h3 : -(2 ^ 62) ≤ j) (h4 : j < 2 ^ 62) : rng2 S (.int i) (.int j) = some (⟨rangeD i (j - i).toNat, []⟩, S) := if_pos ⟨⟨h1, h2⟩, ⟨h3, h4⟩⟩
theorem atI_nat' {k : Nat} (h : xs[k]? = some d) (hi : i = (k : Int)) : atI xs i = some d := by
  subst hi
  have hk : k < xs.length := by
    rcases Nat.lt_or_ge k xs.length with z | z
    · exact z
    · rw [List.getElem?_eq_none z] at h; cases h
  unfold atI ixN
  rw [if_pos (by omega), if_pos (by omega)]
  exact h
theorem atI_zero : atI (x :: xs) 0 = some x := atI_nat' (k := 0) rfl rfl
theorem atI_one : atI (x :: y :: xs) 1 = some y := atI_nat' (k := 1) rfl rfl
theorem atI_two {z : D} : atI (x :: y :: z :: xs) 2 = some z := atI_nat' (k := 2) rfl rfl
theorem call_eq {P : List Fn} {wf k f : Nat} {ds : List D} {S : Sto} {n np : Nat} {b : Ts} (h : P[f]? = some ⟨n, np, b⟩) (hl : ds.length = np) : callF P wf (k + 1) f ds S = bnd (evTs (callF P wf k) wf b (ds.map some ++ List.replicate (n - np) none) S) fun r S1 => match r with
      | .nx _ => some (.non, S1)
      | .ret d => some (d, S1) := by
  show (match P[f]? with
      | none => none
      | some F => _) = _
  rw [h]
  show (if ds.length = np then _ else _) = _
  rw [if_pos hl] <;> rfl
end
end Ev
end
section
set_option linter.all false
set_option maxRecDepth 100000
set_option maxHeartbeats 4000000
/-! Stores: what stays. -/
namespace Ev
open PySem L2
def fin : Fl → Sto → R D
  | .nx _, S => some (.non, S)
  | .ret d, S => some (d, S)
theorem call_fin {P : List Fn} {wf k f : Nat} {ds : List D} {S : Sto} {n np : Nat} {b : Ts} {ρ : Env} (h : P[f]? = some ⟨n, np, b⟩) (hl : ds.length = np) (hρ : ds.map some ++ List.replicate (n - np) none = ρ) : callF P wf (k + 1) f ds S = bnd (evTs (callF P wf k) wf b ρ S) fin := by
  rw [call_eq h hl, hρ]
  congr 1
  funext r S1
  cases r <;> rfl
theorem fin_nx {ρ : Env} {S : Sto} : fin (.nx ρ) S = some (.non, S) := rfl
theorem fin_ret {d : D} {S : Sto} : fin (.ret d) S = some (d, S) := rfl
/-- S' has all of S but the thing at dk, and perhaps more -/
structure Fr (dk : Nat) (S S' : Sto) : Prop where
  le : S.length ≤ S'.length
  at_ : ∀ n, n < S.length → n ≠ dk → S'[n]? = S[n]?
theorem Fr.refl (dk : Nat) (S : Sto) : Fr dk S S := ⟨Nat.le_refl _, fun _ _ _ => rfl⟩
theorem Fr.trans {dk : Nat} {S S1 S2 : Sto} (a : Fr dk S S1) (b : Fr dk S1 S2) : Fr dk S S2 :=
  ⟨Nat.le_trans a.le b.le, fun n hn hd => (b.at_ n (Nat.lt_of_lt_of_le hn a.le) hd).trans (a.at_ n hn hd)⟩
theorem Fr.new {dk : Nat} {S : Sto} {o : O} : Fr dk S (S ++ [o]) := ⟨by simp, fun n hn _ => List.getElem?_append_left hn⟩
theorem Fr.set {dk : Nat} {S : Sto} {o : O} : Fr dk S (S.set dk o) := ⟨by simp, fun n hn hd => List.getElem?_set_ne (Ne.symm hd)⟩
/-- a thing that is younger than S may change -/
theorem Fr.setNew {dk n : Nat} {S S1 : Sto} {o : O} (a : Fr dk S S1) (hn : S.length ≤ n) : Fr dk S (S1.set n o) :=
  ⟨by simp [a.le], fun j hj hd => by rw [List.getElem?_set_ne (by omega)]; exact a.at_ j hj hd⟩
theorem Fr.get {dk n : Nat} {S S' : Sto} {o : O} (a : Fr dk S S') (h : S[n]? = some o) (hd : n ≠ dk) : S'[n]? = some o := by
  have hn : n < S.length := by
    rcases Nat.lt_or_ge n S.length with z | z
    · exact z
    · rw [List.getElem?_eq_none z] at h; cases h
  rw [a.at_ n hn hd]; exact h
theorem get_lt {n : Nat} {S : Sto} {o : O} (h : S[n]? = some o) : n < S.length := by
  rcases Nat.lt_or_ge n S.length with z | z
  · exact z
  · rw [List.getElem?_eq_none z] at h; cases h
theorem get_new {S : Sto} {o : O} : (S ++ [o])[S.length]? = some o := by simp
theorem get_set {n : Nat} {S : Sto} {o o' : O} (h : S[n]? = some o) : (S.set n o')[n]? = some o' := List.getElem?_set_self (get_lt h)
/-- the deck: a counter, a number, a row of numbers -/
structure Deck (dk fd : Nat) (a : Nat) (S : Sto) : Prop where
  ne : dk ≠ fd
  ex : ∃ (at_ whole : Int) (found : List Int), 0 ≤ at_ ∧ at_ ≤ a ∧ S[dk]? = some (.lst [.int at_, .int whole, .ref fd]) ∧ S[fd]? = some (.lst (found.map D.int)) ∧ found.length ≤ 100000
theorem Deck.mono {dk fd a b : Nat} {S : Sto} (h : Deck dk fd a S) (hab : a ≤ b) : Deck dk fd b S := by
  obtain ⟨x, y, z, h1, h2, h3, h4⟩ := h.ex
  exact ⟨h.ne, x, y, z, h1, by omega, h3, h4⟩
/-- what is younger than the deck changes, or comes -/
theorem Deck.keep {dk fd a : Nat} {S S' : Sto} (h : Deck dk fd a S) (h1 : S'[dk]? = S[dk]?) (h2 : S'[fd]? = S[fd]?) : Deck dk fd a S' := by
  obtain ⟨x, y, z, q1, q2, q3, q4, q5⟩ := h.ex
  exact ⟨h.ne, x, y, z, q1, q2, h1.trans q3, h2.trans q4, q5⟩
theorem Deck.new {dk fd a : Nat} {S : Sto} {o : O} (h : Deck dk fd a S) : Deck dk fd a (S ++ [o]) := by
  obtain ⟨x, y, z, q1, q2, q3, q4, q5⟩ := h.ex
  exact h.keep (List.getElem?_append_left (get_lt q3)) (List.getElem?_append_left (get_lt q4))
theorem Deck.set {dk fd a n : Nat} {S : Sto} {o : O} (h : Deck dk fd a S) (h1 : n ≠ dk) (h2 : n ≠ fd) : Deck dk fd a (S.set n o) :=
  h.keep (List.getElem?_set_ne h1) (List.getElem?_set_ne h2)
theorem Deck.lt {dk fd a : Nat} {S : Sto} (h : Deck dk fd a S) : dk < S.length ∧ fd < S.length := by
  obtain ⟨x, y, z, q1, q2, q3, q4, q5⟩ := h.ex
  exact ⟨get_lt q3, get_lt q4⟩
end Ev
end
section
set_option linter.all false
set_option maxRecDepth 100000
set_option maxHeartbeats 4000000
/-! Sorting, and loops. -/
namespace Ev
open PySem L2
theorem perm_map_inv {α β : Type} {f : α → β} : ∀ {bs : List α} {ys : List β}, ys.Perm (bs.map f) → ∃ ws : List α, ys = ws.map f ∧ ws.Perm bs
  | [], ys, h => ⟨[], by simpa using h, .refl _⟩
  | b :: t, ys, h => by
    have hm : f b ∈ ys := h.mem_iff.mpr (by simp)
    obtain ⟨l1, l2, rfl⟩ := List.append_of_mem hm
    have h2 : (l1 ++ l2).Perm (t.map f) := by
      have h3 : (f b :: (l1 ++ l2)).Perm (f b :: t.map f) := (List.perm_middle.symm).trans h
      exact h3.cons_inv
    obtain ⟨ws, e, hp⟩ := perm_map_inv h2
    obtain ⟨w1, w2, rfl, rfl, rfl⟩ := List.map_eq_append_iff.mp e.symm
    exact ⟨w1 ++ b :: w2, by simp, List.perm_middle.trans (hp.cons b)⟩
theorem sort_gen {β : Type} {S : Sto} {f : β → D} {e : β → PyData} {bs : List β} (he : ∀ b ∈ bs, pyD 60 S (f b) = some (e b)) (hcl : ∀ b ∈ bs, (e b).canLay0 = true) (hal : ∀ a ∈ bs, ∀ b ∈ bs, PySem.W.alike (e a) (e b) = true) (hso : sortable (bs.map e) = true)
    (hinj : ∀ a b, PySem.W.keyToks (e a) = PySem.W.keyToks (e b) → a = b) (hnd : bs.Nodup) (hlen : bs.length ≤ 100000) :
    ∃ ws : List β, ws.Perm bs ∧ ws.Pairwise (fun a b => PySem.W.dataLt (e a) (e b) = true) ∧ sortD S (bs.map f) = some (.ref S.length, S ++ [.lst (ws.map f)]) := by
  have hT : ∀ b ∈ bs, pyT S (f b) = e b := fun b hb => by unfold pyT; rw [he b hb]; rfl
  have hmap : (bs.map f).map (pyT S) = bs.map e := by
    rw [List.map_map]
    exact List.map_congr_left hT
  obtain ⟨ws, e1, hp⟩ := perm_map_inv (List.mergeSort_perm (bs.map f) (PySem.W.dataLe false (pyT S)))
  have tl := PySem.W.sortLe_total (PyProof.Rows.listOrd PyProof.Rows.itemOrd) false (fun d : D => PySem.W.keyToks (pyT S d))
  have hs := List.pairwise_mergeSort (le := PySem.W.dataLe false (pyT S)) (fun a b c h1 h2 => tl.trans a b c h1 h2) (fun a b => Bool.or_eq_true_iff.mpr (tl.total a b)) (bs.map f)
  refine ⟨ws, hp, ?_, ?_⟩
  · rw [e1, List.pairwise_map] at hs
    have hnd' : ws.Nodup := hp.nodup_iff.mpr hnd
    refine (hs.and hnd').imp_of_mem fun {a b} ha hb h => ?_
    have ha' := hp.mem_iff.mp ha
    have hb' := hp.mem_iff.mp hb
    have h1 : PySem.W.dataLt (e b) (e a) = false := by
      have z : (!PySem.W.dataLt (pyT S (f b)) (pyT S (f a))) = true := h.1
      rw [hT a ha', hT b hb'] at z
      simpa using z
    cases h2 : PySem.W.dataLt (e a) (e b) with
    | true => rfl
    | false => exact absurd (hinj a b (PyProof.Rows.lex_total _ _ h2 h1)) h.2
  · have c2 : ((bs.map f).all fun d => match pyD 60 S d with
        | some p => p.canLay0
        | none => false) = true := by
      simp only [List.all_eq_true, List.mem_map]
      rintro d ⟨b, hb, rfl⟩
      rw [he b hb]; exact hcl b hb
    have c3 : (((bs.map f).map (pyT S)).all fun p => ((bs.map f).map (pyT S)).all fun q => PySem.W.alike p q) = true := by
      rw [hmap]
      simp only [List.all_eq_true, List.mem_map]
      rintro p ⟨a, ha, rfl⟩ q ⟨b, hb, rfl⟩
      exact hal a ha b hb
    have c4 : sortable ((bs.map f).map (pyT S)) = true := by rw [hmap]; exact hso
    unfold sortD
    rw [if_pos ⟨by rw [List.length_map]; exact hlen, c2, c3, c4⟩, e1]
    exact newL_of (by rw [List.length_map, hp.length_eq]; exact hlen)
/-- a for whose source is no list -/
theorem forL_nil {s : Src} {step : D → Env → Sto → R Fl} {ρ : Env} {S : Sto} (h : s.held = []) : forL s step [] ρ S = some (.nx ρ, S) := by
  unfold forL
  rw [if_pos (by intro p hp; rw [h] at hp; cases hp)]
theorem forL_cons {s : Src} {step : D → Env → Sto → R Fl} {ρ ρ' : Env} {S S' : Sto} {d : D} {r : List D} (h : s.held = []) (e : step d ρ S = some (.nx ρ', S')) : forL s step (d :: r) ρ S = forL s step r ρ' S' := by
  conv => lhs; unfold forL
  rw [if_pos (by intro p hp; rw [h] at hp; cases hp), e]
  rfl
theorem compL_nil {s : Src} {n : Nat} {step : D → Sto → R (Option D)} {S : Sto} (h : s.held = []) : compL s n step [] S = some ((), S) := by
  unfold compL
  rw [if_pos (by intro p hp; rw [h] at hp; cases hp)]
theorem compL_keep {s : Src} {n : Nat} {step : D → Sto → R (Option D)} {S S' : Sto} {d y : D} {r acc : List D} (h : s.held = []) (e : step d S = some (some y, S')) (ha : S'[n]? = some (.lst acc)) (hl : acc.length < 100000) : compL s n step (d :: r) S = compL s n step r (S'.set n (.lst (acc ++ [y]))) := by
  conv => lhs; unfold compL
  rw [if_pos (by intro p hp; rw [h] at hp; cases hp), e, bnd_some]
  simp only [ha, if_pos hl]
theorem compL_drop {s : Src} {n : Nat} {step : D → Sto → R (Option D)} {S S' : Sto} {d : D} {r : List D} (h : s.held = []) (e : step d S = some (none, S')) : compL s n step (d :: r) S = compL s n step r S' := by
  conv => lhs; unfold compL
  rw [if_pos (by intro p hp; rw [h] at hp; cases hp), e, bnd_some]
end Ev
end
section
set_option linter.all false
set_option maxRecDepth 100000
set_option maxHeartbeats 4000000
/-! The small language over values: lists are values, a slot owns the list that it may change, cells are what is shared and changes. -/
namespace Ev
open PySem L2

inductive U where
  | non
  | bl (b : Bool)
  | int (i : Int)
  | str (s : Str)
  | tup (xs : List U)
  | lst (xs : List U)
  | fz (xs : List U)
  | cel (c : Nat)
  | dct (ks : List (List Key)) (us : List U)
inductive Md where
  | own | lck | shr
  deriving DecidableEq
abbrev VEnv := List (Option (Md × U))
abbrev Ce := List (List U)
abbrev VR (α : Type) := Option (α × VEnv × Ce)
def vb {α β : Type} (x : VR α) (f : α → VEnv → Ce → VR β) : VR β := match x with
  | none => none
  | some (a, v, c) => f a v c
@[simp] theorem vb_none {α β : Type} (f : α → VEnv → Ce → VR β) : vb none f = none := rfl
@[simp] theorem vb_some {α β : Type} (a : α) (v : VEnv) (c : Ce) (f : α → VEnv → Ce → VR β) : vb (some (a, v, c)) f = f a v c := rfl
theorem vb_eq {α β : Type} {x : VR α} {f : α → VEnv → Ce → VR β} {r : β × VEnv × Ce} (h : vb x f = some r) : ∃ a v c, x = some (a, v, c) ∧ f a v c = some r := by
  cases x with
  | none => cases h
  | some p => exact ⟨p.1, p.2.1, p.2.2, rfl, h⟩
/-- a value, and whether nothing else holds it -/
abbrev W := Bool × U

def pyU : Nat → U → Option PyData
  | _, .non => some .none
  | _, .bl b => some (.bool b)
  | _, .int i => some (.int i)
  | _, .str s => if PyData.strOk s = true then some (.str s) else none
  | _, .cel _ => none
  | 0, .tup _ => none
  | 0, .dct _ _ => none
  | _ + 1, .dct [] _ => some (.dict [])
  | _ + 1, .dct (_ :: _) _ => none
  | 0, .lst _ => none
  | 0, .fz _ => none
  | k + 1, .tup xs => (optAll (xs.map (pyU k))).map .tuple
  | k + 1, .lst xs => (optAll (xs.map (pyU k))).map .list
  | k + 1, .fz xs => (optAll (xs.map (pyU k))).map .list
def itemsU : U → Option (List U)
  | .lst xs => some xs
  | .fz xs => some xs
  | _ => none
def seqU : U → Option (List U)
  | .tup xs => some xs
  | .lst xs => some xs
  | .fz xs => some xs
  | _ => none
def litU : D → Option U
  | .non => some .non
  | .bl b => some (.bl b)
  | .int i => some (.int i)
  | .str s => some (.str s)
  | .tup xs => (litUs xs).map .tup
  | .ref _ => none
where litUs : List D → Option (List U)
  | [] => some []
  | d :: r => match litU d, litUs r with
    | some u, some us => some (u :: us)
    | _, _ => none
def truthU : U → Option Bool
  | .non => some false
  | .bl b => some b
  | .int i => some (i != 0)
  | .str s => if s.length ≤ 100000 then some ((s.length : Int) != 0) else none
  | .tup xs => some (!xs.isEmpty)
  | .lst xs => some (!xs.isEmpty)
  | .fz xs => some (!xs.isEmpty)
  | .cel _ => none
  | .dct _ _ => none
def newLU (xs : List U) : Option W := if xs.length ≤ 100000 then some (true, .lst xs) else none
def newTU (xs : List U) : Option W := if xs.length ≤ 100000 then some (false, .tup xs) else none
def binU : Operator → U → U → Option W
  | .Add, .int i, .int j => some (false, .int (i + j))
  | .Add, .str x, .str y => if x.length + y.length ≤ 100000 then some (false, .str (x ++ y)) else none
  | .Add, .tup xs, .tup ys => newTU (xs ++ ys)
  | .Add, .lst xs, .lst ys => newLU (xs ++ ys)
  | .Sub, .int i, .int j => some (false, .int (i - j))
  | .Mult, .int i, .int j => if (-(2 ^ 64) < i ∧ i < 2 ^ 64) ∨ (-(2 ^ 64) < j ∧ j < 2 ^ 64) then some (false, .int (i * j)) else none
  | .Mult, .tup xs, .int j => if -1000 ≤ j ∧ j ≤ 1000 ∧ xs.length ≤ 1000 then newTU (List.replicate j.toNat xs).flatten else none
  | .FloorDiv, .int i, .int j => if 0 < j ∧ j < 1073741824 then some (false, .int (i / j)) else none
  | .Mod, .int i, .int j => if 0 < j then some (false, .int (i % j)) else none
  | .Pow, .int i, .int j => if 0 ≤ j ∧ j ≤ 1000000 ∧ i.natAbs < 2 ^ 64 then some (false, .int (i ^ j.toNat)) else none
  | _, _, _ => none
def inU (x y : U) : Option Bool := match x, y with
  | .str x, .str z => match x.cps.toList with
    | [c] => some (decide (c ∈ z.cps.toList))
    | _ => none
  | x, y => match pyU 60 x, pyU 60 y with
    | some p, some (.list ps) => if PyData.canLayAll0 ps = true then some (ps.any fun z => PyData.eqv z p) else none
    | some p, some (.tuple ps) => if PyData.canLayAll0 ps = true then some (ps.any fun z => PyData.eqv z p) else none
    | _, _ => none
open Classical in
noncomputable def ltU (x y : U) : Option Bool := match x, y with
  | .int i, .int j => some (decide (i < j))
  | x, y => match pyU 60 x, pyU 60 y with
    | some p, some q => if PySem.W.alike p q = true ∧ p ≠ .none ∧ p.canLay0 = true ∧ q.canLay0 = true then some (PySem.W.dataLt p q) else none
    | _, _ => none
def eqU (x y : U) : Option Bool := match pyU 60 x, pyU 60 y with
  | some p, some q => if (p.canLay0 || q.canLay0) = true then some (PyData.eqv p q) else none
  | _, _ => none
def isU : U → U → Option Bool
  | x, .non => some (match x with
    | .non => true
    | _ => false)
  | .bl a, .bl b => some (decide (a = b))
  | _, _ => none
noncomputable def cmpU : CmpOp → U → U → Option Bool
  | .Eq, x, y => eqU x y
  | .NotEq, x, y => (eqU x y).map (!·)
  | .Lt, x, y => ltU x y
  | .Gt, .int i, .int j => some (decide (j < i))
  | .LtE, .int i, .int j => some (decide (i ≤ j))
  | .GtE, .int i, .int j => some (decide (j ≤ i))
  | .Is, x, y => isU x y
  | .IsNot, x, y => (isU x y).map (!·)
  | .In, x, y => inU x y
  | .NotIn, x, y => (inU x y).map (!·)
  | _, _, _ => none
def lenU : U → Option Nat
  | .str s => if s.length ≤ 100000 then some s.length else none
  | .tup xs => some xs.length
  | .lst xs => some xs.length
  | .fz xs => some xs.length
  | _ => none
def isiU : U → Ty → Option Bool
  | .non, _ => some false
  | .bl _, t => some (decide (t = .bool) || decide (t = .int))
  | .int _, t => some (decide (t = .int))
  | .str _, t => some (decide (t = .str))
  | .tup _, t => some (decide (t = .tuple))
  | .lst _, t => some (decide (t = .list))
  | .fz _, t => some (decide (t = .list))
  | .cel _, _ => none
  | .dct _ _, t => some (decide (t = .dict))
def boolsU : List U → Option (List Bool)
  | [] => some []
  | .bl b :: r => (boolsU r).map (b :: ·)
  | _ => none
def pyTU (u : U) : PyData := (pyU 60 u).getD .none
def sortU (xs : List U) : Option W :=
  if xs.length ≤ 100000 ∧ (xs.all fun d => match pyU 60 d with
    | some p => p.canLay0
    | none => false) = true ∧ ((xs.map pyTU).all fun p => (xs.map pyTU).all fun q => PySem.W.alike p q) = true ∧ sortable (xs.map pyTU) = true then
    newLU (xs.mergeSort (PySem.W.dataLe false pyTU))
  else none
def strsU : List U → Option (List Str)
  | [] => some []
  | .str x :: r => (strsU r).map (x :: ·)
  | _ => none
def smU : SM → U → U → Option W
  | .strip, .str a, .str b => if a.length ≤ 100000 then some (false, .str (Txt.stripChars a b)) else none
  | .join, .str a, d => (seqU d).bind fun xs => (strsU xs).bind fun ys => if (ys.map (·.length)).sum + ys.length * a.length ≤ 1000000 then some (false, .str (Txt.join a ys)) else none
  | _, _, _ => none
def revU : U → Option W
  | .tup xs => some (false, .tup xs.reverse)
  | .lst xs => newLU xs.reverse
  | .fz xs => newLU xs.reverse
  | _ => none
def keyU : Key → U
  | .inl i => .int i
  | .inr x => .str x
def keyOfU : U → Option Key
  | .int i => some (.inl i)
  | .str x => some (.inr x)
  | _ => none
def listU : U → Option W
  | .dct ks _ => newLU (ks.map fun k => .tup (k.map keyU))
  | d => (seqU d).bind newLU
/-- the values of a dict, one set -/
def putUs : List (List Key) → List U → List Key → U → List U
  | k' :: ks, x :: us, k, u => (if k' = k then u else x) :: putUs ks us k u
  | _, us, _, _ => us
def putU (ks : List (List Key)) (us : List U) (k : List Key) (u : U) : U :=
  if (ks.any fun e => decide (e = k)) = true then .dct ks (putUs ks us k u) else .dct (ks ++ [k]) (us ++ [u])
def m2ok (v : VEnv) (i : Nat) : Bool := match v[i]? with
  | some (some (_, .dct _ _)) => false
  | _ => true
def b1U : B1 → U → Option W
  | .len, d => (lenU d).map fun n => (false, .int n)
  | .tuple, d => (seqU d).map fun xs => (false, .tup xs)
  | .list, d => listU d
  | .sorted, d => (itemsU d).bind sortU
  | .all, d => (itemsU d).bind fun xs => (boolsU xs).map fun bs => (false, .bl (bs.all id))
  | .repr, d => match pyU 60 d with
    | some p => if p.showable = true ∧ p.shown.length ≤ 1000000 then some (false, .str p.shown) else none
    | none => none
  | .sset, d => (itemsU d).bind fun xs => (strsU xs).bind fun ys => if ys.length < 4000 then newLU ((StS.sS ys).map U.str) else none
  | .set, d => (itemsU d).bind fun xs => (strsU xs).bind fun ys => if ys.length < 4000 then some (false, .int (StS.cntI ys ys.length)) else none
  | .int, .int i => some (false, .int i)
  | .int, .bl b => some (false, .int (if b then 1 else 0))
  | _, _ => none
def b2U : B2 → U → U → Option W
  | .max, .int i, .int j => some (false, .int (if j > i then j else i))
  | .min, .int i, .int j => some (false, .int (if j < i then j else i))
  | .divmod, .int i, .int j => if 0 < j ∧ j < 1073741824 then some (false, .tup [.int (i / j), .int (i % j)]) else none
  | .lzip, .tup xs, .tup ys => if (xs.isEmpty || ys.isEmpty) = true then newLU [] else none
  | _, _, _ => none
/-- a[b]: of what is held, or of a cell -/
def ixU (c : Ce) (a b : U) : Option U := match b with
  | .int i => match a with
    | .tup xs => atI xs i
    | .lst xs => atI xs i
    | .fz xs => atI xs i
    | .cel k => (c[k]?).bind fun xs => atI xs i
    | .str z => if z.length ≤ 100000 then (atI z.cps.toList i).map fun n => .str ⟨#[n]⟩ else none
    | _ => none
  | _ => none
def oIntU : Option U → Option (Option Int)
  | none => some none
  | some (.int i) => some (some i)
  | _ => none
def cutU (xs : List U) (lo hi : Option Int) : List U := (xs.drop (HT.sIx xs.length 0 lo)).take (HT.sIx xs.length xs.length hi - HT.sIx xs.length 0 lo)
def slU (a : U) (lo hi : Option Int) : Option W := match a with
  | .tup xs => some (false, .tup (cutU xs lo hi))
  | .lst xs => newLU (cutU xs lo hi)
  | .fz xs => newLU (cutU xs lo hi)
  | _ => none
def rangeU (lo : Int) (n : Nat) : List U := (List.range n).map fun (i : Nat) => U.int (lo + (i : Int))
def rngU (t : Bool) (d e : U) : Option W := match d, e with
  | .int i, .int j => if small i ∧ small j ∧ (j - i).toNat ≤ 100000 then (if t = true then newTU (rangeU i (j - i).toNat) else newLU (rangeU i (j - i).toNat)) else none
  | _, _ => none
def enumsU (xs : List U) : List U := (List.range xs.length).zipWith (fun (i : Nat) x => U.tup [.int (i : Int), x]) xs
def zip2U (xs ys : List U) : List U := List.zipWith (fun x y => U.tup [x, y]) xs ys
def signsU (s : Str) : List U := s.cps.toList.map fun c => U.str ⟨#[c]⟩
def setAllU : List Nat → List U → VEnv → Option VEnv
  | [], [], v => some v
  | i :: is, d :: ds, v => setAllU is ds (v.set i (some (.shr, d)))
  | _, _, _ => none
def setU : Tg → U → VEnv → Option VEnv
  | .one i, d, v => some (v.set i (some (.shr, d)))
  | .many is, .tup ds, v => setAllU is ds v
  | _, _, _ => none
/-- the slots of a comprehension's own names: what was there must not be owned -/
def wipeV (v : VEnv) : List Nat → VEnv
  | [] => v
  | i :: is => (wipeV v is).set i none
def free1 (v : VEnv) (i : Nat) : Bool := match v[i]? with
  | some (some (.own, _)) => false
  | some (some (.lck, _)) => false
  | _ => true
def backV (v v' : VEnv) : List Nat → VEnv
  | [] => v'
  | i :: is => match v[i]? with
    | some o => (backV v v' is).set i o
    | none => backV v v' is
def tgS : Tg → List Nat
  | .one i => [i]
  | .many is => is
/-- an argument: a slot, read later, or a value -/
inductive Ar where
  | slot (i : Nat)
  | val (u : U)
def resA (v : VEnv) : Ar → Option U
  | .slot i => match v[i]? with
    | some (some (_, u)) => some u
    | _ => none
  | .val u => some u
/-- as a callee gets it -/
def resC (v : VEnv) : Ar → Option (Md × U)
  | .slot i => match v[i]? with
    | some (some (.shr, u)) => some (.shr, u)
    | some (some (_, u)) => some (.lck, u)
    | _ => none
  | .val u => some (.shr, u)
def lift (w : Option W) (v : VEnv) (c : Ce) : VR W := match w with
  | some w => some (w, v, c)
  | none => none
def liftB (w : Option Bool) (v : VEnv) (c : Ce) : VR W := match w with
  | some b => some ((false, .bl b), v, c)
  | none => none
inductive FlU where
  | nx
  | ret (w : W)
/-- what is walked, and the slots that must not change meanwhile -/
structure SrcU where
  items : List U
  locks : List Nat
def lockV (v : VEnv) : List Nat → VEnv
  | [] => v
  | i :: is => match (lockV v is)[i]? with
    | some (some (.own, u)) => (lockV v is).set i (some (.lck, u))
    | _ => lockV v is
/-- slots that were owned ahead are so again, if they are still locked -/
def unlockV (v v' : VEnv) : List Nat → VEnv
  | [] => v'
  | i :: is => match v[i]?, (unlockV v v' is)[i]? with
    | some (some (.own, _)), some (some (.lck, u)) => (unlockV v v' is).set i (some (.own, u))
    | _, _ => unlockV v v' is
def arLocks : Ar → List Nat
  | .slot i => [i]
  | .val _ => []
def srcU (v : VEnv) (a : Ar) : Option SrcU := match resA v a with
  | some (.str s) => some ⟨signsU s, []⟩
  | some u => (seqU u).map fun xs => ⟨xs, arLocks a⟩
  | none => none
def zipU (v : VEnv) (a b : Ar) : Option SrcU := match resA v a, resA v b with
  | some (.tup xs), some (.tup ys) => some ⟨zip2U xs ys, []⟩
  | some x, some y => match itemsU x, itemsU y with
    | some xs, some ys => some ⟨zip2U xs ys, arLocks a ++ arLocks b⟩
    | _, _ => none
  | _, _ => none
def enumU (v : VEnv) (a : Ar) : Option SrcU := match resA v a with
  | some u => (seqU u).map fun xs => ⟨enumsU xs, arLocks a⟩
  | none => none
def rng1U (v : VEnv) (a : Ar) : Option SrcU := match resA v a with
  | some (.int j) => if small j then some ⟨rangeU 0 j.toNat, []⟩ else none
  | _ => none
def rng2U (v : VEnv) (a b : Ar) : Option SrcU := match resA v a, resA v b with
  | some (.int i), some (.int j) => if small i ∧ small j then some ⟨rangeU i (j - i).toNat, []⟩ else none
  | _, _ => none
def liftS (s : Option SrcU) (v : VEnv) (c : Ce) : VR SrcU := match s with
  | some s => some (s, v, c)
  | none => none
/-- a comprehension's turns -/
def compU (step : U → VEnv → Ce → VR (Option U)) : List U → List U → VEnv → Ce → VR (List U)
  | [], acc, v, c => some (acc, v, c)
  | d :: r, acc, v, c => vb (step d v c) fun o v' c' => match o with
    | none => compU step r acc v' c'
    | some y => if acc.length < 100000 then compU step r (acc ++ [y]) v' c' else none
def forU (step : U → VEnv → Ce → VR FlU) : List U → VEnv → Ce → VR FlU
  | [], v, c => some (.nx, v, c)
  | d :: r, v, c => vb (step d v c) fun f v' c' => match f with
    | .nx => forU step r v' c'
    | .ret w => some (.ret w, v', c')
def whileU (cnd : VEnv → Ce → VR Bool) (b : VEnv → Ce → VR FlU) : Nat → VEnv → Ce → VR FlU
  | 0, _, _ => none
  | k + 1, v, c => vb (cnd v c) fun t v' c' => if t = true then vb (b v' c') fun f v'' c'' => match f with
      | .nx => whileU cnd b k v'' c''
      | .ret w => some (.ret w, v'', c'')
    else some (.nx, v', c')
/-- the mode of a value that is put into a slot -/
def mdOf (w : W) : Md × U := (if w.1 = true then .own else .shr, w.2)
def m2U (b : M2) (v : VEnv) (i : Nat) (y : U) : Option (U × VEnv) := match v[i]? with
  | some (some (.own, .lst xs)) => match b with
    | .append => if xs.length < 100000 then some (.non, v.set i (some (.own, .lst (xs ++ [y])))) else none
    | .extend => match y with
      | .lst ys => if xs.length + ys.length ≤ 100000 then some (.non, v.set i (some (.own, .lst (xs ++ ys)))) else none
      | _ => none
    | .pop => match y with
      | .int k => match xs[k.toNat]? with
        | some d => if 0 ≤ k ∧ k < 2 ^ 62 then some (d, v.set i (some (.own, .lst (xs.eraseIdx k.toNat)))) else none
        | none => none
      | _ => none
  | _ => none
def setIxU (v : VEnv) (c : Ce) (i : Nat) (y d : U) : VR FlU := match y with
  | .int k => match v[i]? with
    | some (some (.own, .lst xs)) => match ixN xs.length k with
      | some j => some (.nx, v.set i (some (.own, .lst (xs.set j d))), c)
      | none => none
    | some (some (.shr, .cel q)) => match c[q]? with
      | some xs => match ixN xs.length k with
        | some j => some (.nx, v, c.set q (xs.set j d))
        | none => none
      | none => none
    | _ => none
  | _ => none
def setOwnU (v : VEnv) (c : Ce) (i : Nat) (y d : U) : VR FlU := match v[i]?, y with
  | some (some (.own, .lst xs)), .int k => (match ixN xs.length k with
    | some j => some (.nx, v.set i (some (.own, .lst (xs.set j d))), c)
    | none => none)
  | _, _ => none
/-- the number that is raised -/
def augU (v : VEnv) (q : Nat) (y : U) : Option Int := match v[q]?, y with
  | some (some (.own, .lst xs)), .int k => (match ixN xs.length k with
      | some j => (match xs[j]? with
        | some (.int m) => if 0 ≤ k then some m else none
        | _ => none)
      | none => none)
  | _, _ => none
def setDU (v : VEnv) (c : Ce) (i : Nat) (ys : List U) (d : U) : VR FlU := match v[i]? with
  | some (some (.own, .dct ks us)) => (match optAll (ys.map keyOfU) with
    | some k => if ks.length < 100000 ∧ k.length ≤ 100000 then some (.nx, v.set i (some (.own, putU ks us k d)), c) else none
    | none => none)
  | _ => none
section
variable (cl : Nat → List (Md × U) → Ce → Option (W × Ce))
def isVar : E → Option Nat
  | .var i => some i
  | _ => none
def slotAr (i : Nat) (v : VEnv) (c : Ce) : VR Ar := match v[i]? with
  | some (some _) => some (.slot i, v, c)
  | _ => none
def arOf (x : VR W) : VR Ar := vb x fun w v c => some (.val w.2, v, c)
def arE (e : E) (v : VEnv) (c : Ce) (r : VR W) : VR Ar := match isVar e with
  | some i => slotAr i v c
  | none => arOf r
def usOf (x : VR W) : VR U := vb x fun w v c => some (w.2, v, c)
mutual
noncomputable def vE : E → VEnv → Ce → VR W
  | .bad, _, _ => none
  | .var i, v, c => match v[i]? with
    | some (some (.shr, u)) => some ((false, u), v, c)
    | some (some (.own, u)) => some ((false, u), v.set i (some (.shr, u)), c)
    | _ => none
  | .lit d, v, c => match litU d with
    | some u => some ((false, u), v, c)
    | none => none
  | .tup es, v, c => vb (vEs es v c) fun us v c => lift (newTU us) v c
  | .lst es, v, c => vb (vEs es v c) fun us v c => lift (newLU us) v c
  | .bin op a b, v, c => vb (arE a v c (vE a v c)) fun x v c => vb (arE b v c (vE b v c)) fun y v c => match resA v x, resA v y with
    | some x, some y => lift (binU op x y) v c
    | _, _ => none
  | .neg a, v, c => vb (arE a v c (vE a v c)) fun x v c => match resA v x with
    | some (.int i) => some ((false, .int (-i)), v, c)
    | _ => none
  | .cmp op a b, v, c => vb (arE a v c (vE a v c)) fun x v c => vb (arE b v c (vE b v c)) fun y v c => match resA v x, resA v y with
    | some x, some y => liftB (cmpU op x y) v c
    | _, _ => none
  | .chain op op' a b d, v, c => vb (arE a v c (vE a v c)) fun x v c => vb (arE b v c (vE b v c)) fun y v c => match resA v x, resA v y with
    | some x', some y' => (match cmpU op x' y' with
      | some true => vb (arE d v c (vE d v c)) fun z v c => (match resA v y, resA v z with
        | some y'', some z => liftB (cmpU op' y'' z) v c
        | _, _ => none)
      | some false => some ((false, .bl false), v, c)
      | none => none)
    | _, _ => none
  | .and a b, v, c => vb (vE a v c) fun w v c => match truthU w.2 with
    | some true => vE b v c
    | some false => some ((false, w.2), v, c)
    | none => none
  | .or a b, v, c => vb (vE a v c) fun w v c => match truthU w.2 with
    | some true => some ((false, w.2), v, c)
    | some false => vE b v c
    | none => none
  | .not a, v, c => vb (arE a v c (vE a v c)) fun x v c => match resA v x with
    | some x => liftB ((truthU x).map (!·)) v c
    | none => none
  | .ite d a b, v, c => vb (arE d v c (vE d v c)) fun x v c => match resA v x with
    | some x => (match truthU x with
      | some true => vE a v c
      | some false => vE b v c
      | none => none)
    | none => none
  | .call f es, v, c => vb (vAs es v c) fun as v c => match optAll (as.map (resC v)) with
    | some us => (match cl f us c with
      | some (w, c') => some (w, v, c')
      | none => none)
    | none => none
  | .b1 b a, v, c => vb (arE a v c (vE a v c)) fun x v c => match resA v x with
    | some x => lift (b1U b x) v c
    | none => none
  | .b2 b a d, v, c => vb (arE a v c (vE a v c)) fun x v c => vb (arE d v c (vE d v c)) fun y v c => match resA v x, resA v y with
    | some x, some y => lift (b2U b x y) v c
    | _, _ => none
  | .meth b a d, v, c => match isVar a with
    | some i => if m2ok v i = true then vb (vE d v c) fun w v c => (match m2U b v i w.2 with
      | some (u, v') => some ((false, u), v', c)
      | none => none) else none
    | none => none
  | .isi a t, v, c => vb (arE a v c (vE a v c)) fun x v c => match resA v x with
    | some x => liftB (isiU x t) v c
    | none => none
  | .ix a b, v, c => vb (arE a v c (vE a v c)) fun x v c => vb (arE b v c (vE b v c)) fun y v c => match resA v x, resA v y with
    | some x, some y => (match ixU c x y with
      | some u => some ((false, u), v, c)
      | none => none)
    | _, _ => none
  | .sl a lo hi, v, c => vb (arE a v c (vE a v c)) fun x v c => vb (vO lo v c) fun l v c => vb (vO hi v c) fun h v c => match resA v x, oIntU l, oIntU h with
    | some x, some l, some h => lift (slU x l h) v c
    | _, _, _ => none
  | .rev a, v, c => vb (arE a v c (vE a v c)) fun x v c => match resA v x with
    | some x => lift (revU x) v c
    | none => none
  | .dnew, v, c => some ((true, .dct [] []), v, c)
  | .sm b a d, v, c => vb (vE a v c) fun w v c => match w.2 with
    | .str t => vb (arE d v c (vE d v c)) fun y v c => (match resA v y with
      | some y => lift (smU b (.str t) y) v c
      | none => none)
    | _ => none
  | .rng t a b, v, c => vb (arE a v c (vE a v c)) fun x v c => vb (arE b v c (vE b v c)) fun y v c => match resA v x, resA v y with
    | some x, some y => lift (rngU t x y) v c
    | _, _ => none
  | .comp elt tg own it cond, v, c => vb (vI it v c) fun s v1 c1 => if own.all (free1 (lockV v1 s.locks)) = true ∧ (tgS tg).all (own.contains ·) = true then
      vb (compU (fun d v c => match setU tg d (wipeV v own) with
        | none => none
        | some v2 => vb (vO cond v2 c) fun o v3 c3 => match o with
          | none => vb (vE elt v3 c3) fun w v4 c4 => some (some w.2, v4, c4)
          | some q => match truthU q with
            | some true => vb (vE elt v3 c3) fun w v4 c4 => some (some w.2, v4, c4)
            | some false => some (none, v3, c3)
            | none => none) s.items [] (lockV v1 s.locks) c1) fun us v9 c9 => some ((true, .lst us), unlockV v1 (backV (lockV v1 s.locks) v9 own) s.locks, c9)
    else none
noncomputable def vI : I → VEnv → Ce → VR SrcU
  | .bad, _, _ => none
  | .seq e, v, c => vb (arE e v c (vE e v c)) fun a v c => liftS (srcU v a) v c
  | .r1 a, v, c => vb (arE a v c (vE a v c)) fun a v c => liftS (rng1U v a) v c
  | .r2 a b, v, c => vb (arE a v c (vE a v c)) fun a v c => vb (arE b v c (vE b v c)) fun b v c => liftS (rng2U v a b) v c
  | .zip a b, v, c => vb (arE a v c (vE a v c)) fun a v c => vb (arE b v c (vE b v c)) fun b v c => liftS (zipU v a b) v c
  | .enum a, v, c => vb (arE a v c (vE a v c)) fun a v c => liftS (enumU v a) v c
noncomputable def vEs : Es → VEnv → Ce → VR (List U)
  | .nil, v, c => some ([], v, c)
  | .cons e r, v, c => vb (vE e v c) fun w v c => vb (vEs r v c) fun us v c => some (w.2 :: us, v, c)
noncomputable def vAs : Es → VEnv → Ce → VR (List Ar)
  | .nil, v, c => some ([], v, c)
  | .cons e r, v, c => vb (arE e v c (vE e v c)) fun a v c => vb (vAs r v c) fun as v c => some (a :: as, v, c)
noncomputable def vO : Eo → VEnv → Ce → VR (Option U)
  | .none, v, c => some (none, v, c)
  | .some e, v, c => vb (vE e v c) fun w v c => some (some w.2, v, c)
end
noncomputable def vC (e : E) (v : VEnv) (c : Ce) : VR Bool := vb (arE e v c (vE cl e v c)) fun x v c => match resA v x with
  | some x => (match truthU x with
    | some b => some (b, v, c)
    | none => none)
  | none => none
variable (wf : Nat)
def retOf (e : E) (v : VEnv) (c : Ce) (r : VR W) : VR FlU := match isVar e with
  | some i => (match v[i]? with
    | some (some (.own, u)) => some (.ret (true, u), v.set i none, c)
    | some (some (.shr, u)) => some (.ret (false, u), v, c)
    | _ => none)
  | none => vb r fun w v c => some (.ret w, v, c)
mutual
noncomputable def vT : T → VEnv → Ce → VR FlU
  | .bad, _, _ => none
  | .asg t e, v, c => vb (vE cl e v c) fun w v c => match t with
    | .one i => some (.nx, v.set i (some (mdOf w)), c)
    | .many is => (match setU (.many is) w.2 v with
      | some v => some (.nx, v, c)
      | none => none)
  | .par i j a b, v, c => vb (vE cl a v c) fun x v c => vb (vE cl b v c) fun y v c => some (.nx, (v.set i (some (.shr, x.2))).set j (some (.shr, y.2)), c)
  | .setIx o i e, v, c => match isVar o with
    | some q => vb (vE cl e v c) fun w v c => vb (arE i v c (vE cl i v c)) fun y v c => (match resA v y with
      | some y => setIxU v c q y w.2
      | none => none)
    | none => none
  | .augIx o i e, v, c => match isVar o with
    | some q => vb (vE cl i v c) fun y v c => (match augU v q y.2 with
      | some m => vb (vE cl e v c) fun z v c => (match z.2 with
        | .int b => setOwnU v c q y.2 (.int (m + b))
        | _ => none)
      | none => none)
    | none => none
  | .setD o es e, v, c => match isVar o with
    | some q => vb (vE cl e v c) fun w v c => vb (vEs cl es v c) fun ys v c => setDU v c q ys w.2
    | none => none
  | .expr e, v, c => vb (vE cl e v c) fun _ v c => some (.nx, v, c)
  | .ret e, v, c => retOf e v c (vE cl e v c)
  | .ife d a b, v, c => vb (vC cl d v c) fun t v c => if t = true then vTs a v c else vTs b v c
  | .for t it b, v, c => vb (vI cl it v c) fun s v1 c1 => vb (forU (fun d v c => match setU t d v with
      | none => none
      | some v2 => vTs b v2 c) s.items (lockV v1 s.locks) c1) fun f v9 c9 => match f with
        | .nx => some (.nx, unlockV v1 v9 s.locks, c9)
        | .ret w => some (.ret w, v9, c9)
  | .while d b, v, c => whileU (vC cl d) (vTs b) wf v c
  | .pass, v, c => some (.nx, v, c)
noncomputable def vTs : Ts → VEnv → Ce → VR FlU
  | .nil, v, c => some (.nx, v, c)
  | .cons t r, v, c => vb (vT t v c) fun f v c => match f with
    | .nx => vTs r v c
    | .ret w => some (.ret w, v, c)
end
end
/-- a def's answer; of some defs a new list is a cell -/
def celOf (cf : Nat → Bool) (f : Nat) (w : W) (c : Ce) : W × Ce := match w with
  | (true, .lst us) => if cf f = true then ((false, .cel c.length), c ++ [us]) else (w, c)
  | w => (w, c)
noncomputable def vcall (P : List Fn) (wf : Nat) (cf : Nat → Bool) : Nat → Nat → List (Md × U) → Ce → Option (W × Ce)
  | 0, _, _, _ => none
  | k + 1, f, us, c => match P[f]? with
    | none => none
    | some F => if us.length = F.np ∧ (us.all fun p => decide (p.1 ≠ .own)) = true then (match vTs (vcall P wf cf k) wf F.body (us.map some ++ List.replicate (F.n - F.np) none) c with
      | some (.nx, _, c') => some ((false, .non), c')
      | some (.ret w, _, c') => some (celOf cf f w c')
      | none => none)
      else none
end Ev
end
section
set_option linter.all false
set_option maxRecDepth 100000
set_option maxHeartbeats 4000000
/-! What a store bears as values. -/
namespace Ev
open PySem L2
section
variable (A : Nat → Prop) (κ : List Nat) (S : Sto)
mutual
inductive Rd : D → U → Prop
  | non : Rd .non .non
  | bl (b : Bool) : Rd (.bl b) (.bl b)
  | int (i : Int) : Rd (.int i) (.int i)
  | str (s : Str) : Rd (.str s) (.str s)
  | tup {ds : List D} {us : List U} : Rds ds us → Rd (.tup ds) (.tup us)
  | lst {n : Nat} {ds : List D} {us : List U} : ¬ A n → S[n]? = some (.lst ds) → Rds ds us → Rd (.ref n) (.lst us)
  | fz {n : Nat} {ds : List D} {us : List U} : ¬ A n → S[n]? = some (.fz ds) → Rds ds us → Rd (.ref n) (.fz us)
  | cel {n c : Nat} : κ[c]? = some n → Rd (.ref n) (.cel c)
  | dct {n : Nat} {kvs : List (List Key × D)} {ks : List (List Key)} {ds : List D} {us : List U} : ¬ A n → S[n]? = some (.dt kvs) → kvs = ks.zip ds → ks.length = ds.length → Rds ds us → Rd (.ref n) (.dct ks us)
inductive Rds : List D → List U → Prop
  | nil : Rds [] []
  | cons {d : D} {ds : List D} {u : U} {us : List U} : Rd d u → Rds ds us → Rds (d :: ds) (u :: us)
end
/-- a list that its holder may change -/
def Ob (n : Nat) (u : U) : Prop := (∃ ds us, u = U.lst us ∧ S[n]? = some (.lst ds) ∧ Rds A κ S ds us) ∨
  (∃ ks ds us, u = U.dct ks us ∧ S[n]? = some (.dt (ks.zip ds)) ∧ ks.length = ds.length ∧ Rds A κ S ds us)
def RdP (d : D) (u : U) : Prop := Rd A κ S d u ∨ ∃ n, d = .ref n ∧ Ob A κ S n u
end
theorem lt_of_get {α : Type} {l : List α} {n : Nat} {a : α} (h : l[n]? = some a) : n < l.length := by
  rcases Nat.lt_or_ge n l.length with z | z
  · exact z
  · rw [List.getElem?_eq_none z] at h; cases h
theorem pre_at {α : Type} {l l' : List α} (h : l <+: l') {n : Nat} {a : α} (e : l[n]? = some a) : l'[n]? = some a := by
  obtain ⟨r, rfl⟩ := h
  rw [List.getElem?_append_left (lt_of_get e)]; exact e
section
variable {A A' : Nat → Prop} {κ κ' : List Nat} {S S' : Sto}
mutual
theorem Rd.up (hS : ∀ n, ¬ A n → n < S.length → S'[n]? = S[n]?) (hA : ∀ n, n < S.length → A' n → A n) (hk : κ <+: κ') : ∀ {d : D} {u : U}, Rd A κ S d u → Rd A' κ' S' d u
  | _, _, .non => .non
  | _, _, .bl b => .bl b
  | _, _, .int i => .int i
  | _, _, .str s => .str s
  | _, _, .tup h => .tup (Rds.up hS hA hk h)
  | _, _, .lst h1 h2 h3 => .lst (fun z => h1 (hA _ (lt_of_get h2) z)) ((hS _ h1 (lt_of_get h2)).trans h2) (Rds.up hS hA hk h3)
  | _, _, .fz h1 h2 h3 => .fz (fun z => h1 (hA _ (lt_of_get h2) z)) ((hS _ h1 (lt_of_get h2)).trans h2) (Rds.up hS hA hk h3)
  | _, _, .cel h => .cel (pre_at hk h)
  | _, _, .dct h1 h2 h4 h5 h3 => .dct (fun z => h1 (hA _ (lt_of_get h2) z)) ((hS _ h1 (lt_of_get h2)).trans h2) h4 h5 (Rds.up hS hA hk h3)
theorem Rds.up (hS : ∀ n, ¬ A n → n < S.length → S'[n]? = S[n]?) (hA : ∀ n, n < S.length → A' n → A n) (hk : κ <+: κ') : ∀ {d : List D} {u : List U}, Rds A κ S d u → Rds A' κ' S' d u
  | _, _, .nil => .nil
  | _, _, .cons h r => .cons (Rd.up hS hA hk h) (Rds.up hS hA hk r)
end
theorem Rds.length : ∀ {ds : List D} {us : List U}, Rds A κ S ds us → ds.length = us.length
  | _, _, .nil => rfl
  | _, _, .cons _ r => by simp [Rds.length r]
theorem Rds.get : ∀ {ds : List D} {us : List U} {i : Nat} {u : U}, Rds A κ S ds us → us[i]? = some u → ∃ d, ds[i]? = some d ∧ Rd A κ S d u
  | _, _, _, _, .nil, e => by simp at e
  | _, _, 0, _, .cons h r, e => by simp at e; subst e; exact ⟨_, rfl, h⟩
  | _, _, i + 1, _, .cons h r, e => by
    obtain ⟨v, e', q⟩ := Rds.get (i := i) r (by simpa using e)
    exact ⟨v, by simpa using e', q⟩
theorem Rds.append : ∀ {ds es : List D} {us ws : List U}, Rds A κ S ds us → Rds A κ S es ws → Rds A κ S (ds ++ es) (us ++ ws)
  | _, _, _, _, .nil, s => s
  | _, _, _, _, .cons h r, s => .cons h (Rds.append r s)
theorem Rds.take : ∀ {ds : List D} {us : List U} (n : Nat), Rds A κ S ds us → Rds A κ S (ds.take n) (us.take n)
  | _, _, 0, _ => .nil
  | _, _, _ + 1, .nil => .nil
  | _, _, n + 1, .cons h r => .cons h (Rds.take n r)
theorem Rds.drop : ∀ {ds : List D} {us : List U} (n : Nat), Rds A κ S ds us → Rds A κ S (ds.drop n) (us.drop n)
  | _, _, 0, r => r
  | _, _, _ + 1, .nil => .nil
  | _, _, n + 1, .cons h r => Rds.drop n r
theorem Rds.set {d : D} {u : U} (q : Rd A κ S d u) : ∀ {ds : List D} {us : List U} (n : Nat), Rds A κ S ds us → Rds A κ S (ds.set n d) (us.set n u)
  | _, _, _, .nil => .nil
  | _, _, 0, .cons h r => .cons q r
  | _, _, n + 1, .cons h r => .cons h (Rds.set q n r)
theorem Rds.eraseIdx : ∀ {ds : List D} {us : List U} (n : Nat), Rds A κ S ds us → Rds A κ S (ds.eraseIdx n) (us.eraseIdx n)
  | _, _, _, .nil => .nil
  | _, _, 0, .cons h r => r
  | _, _, n + 1, .cons h r => .cons h (Rds.eraseIdx n r)
theorem Rds.atI {ds : List D} {us : List U} {i : Int} {u : U} (h : Rds A κ S ds us) (e : L2.atI us i = some u) : ∃ d, L2.atI ds i = some d ∧ Rd A κ S d u := by
  unfold L2.atI at e ⊢
  rw [h.length]
  cases hx : ixN us.length i with
  | none => rw [hx] at e; cases e
  | some j => rw [hx] at e; exact h.get e
theorem Rds.cut {ds : List D} {us : List U} (h : Rds A κ S ds us) (lo hi : Option Int) : Rds A κ S (cutD ds lo hi) (cutU us lo hi) := by
  unfold cutD cutU
  rw [h.length]
  exact (h.drop _).take _
theorem Rds.empty {ds : List D} {us : List U} (h : Rds A κ S ds us) : (!ds.isEmpty) = !us.isEmpty := by cases h <;> rfl
theorem Rds.int {f : Nat → Int} : ∀ l : List Nat, Rds A κ S (l.map fun i => D.int (f i)) (l.map fun i => U.int (f i))
  | [] => .nil
  | a :: r => .cons (.int _) (Rds.int r)
theorem Rds.range {lo : Int} {n : Nat} : Rds A κ S (rangeD lo n) (rangeU lo n) := Rds.int (f := fun i => lo + (i : Int)) _
theorem Rds.signs {s : Str} : Rds A κ S (Ev.signs s) (signsU s) := by
  unfold Ev.signs signsU
  generalize s.cps.toList = l
  induction l with
  | nil => exact .nil
  | cons a r ih => exact .cons (.str _) ih
theorem Rds.zip : ∀ {ds es : List D} {us ws : List U}, Rds A κ S ds us → Rds A κ S es ws → Rds A κ S (zip2 ds es) (zip2U us ws)
  | _, _, _, _, .nil, _ => .nil
  | _, _, _, _, .cons _ _, .nil => .nil
  | _, _, _, _, .cons h r, .cons h' r' => .cons (.tup (.cons h (.cons h' .nil))) (Rds.zip r r')
theorem Rds.enum {ds : List D} {us : List U} (h : Rds A κ S ds us) : Rds A κ S (enums ds) (enumsU us) := by
  unfold enums enumsU
  rw [h.length]
  generalize List.range us.length = l
  induction l generalizing ds us with
  | nil => exact .nil
  | cons a r ih =>
    cases h with
    | nil => exact .nil
    | cons q q' => exact .cons (.tup (.cons (.int _) (.cons q .nil))) (ih q')
theorem py_ref {S : Sto} {n k : Nat} (h : S[n]? ≠ some (.dt [])) : pyD (k + 1) S (.ref n) = ((itemsAt S n).bind fun xs => optAll (xs.map (pyD k S))).map PyData.list := by
  rw [pyD]
  split
  · rename_i z; exact absurd z h
  · rfl
theorem Rds.reverse {ds : List D} {us : List U} (h : Rds A κ S ds us) : Rds A κ S ds.reverse us.reverse := by
  have key : ∀ {ds : List D} {us : List U}, Rds A κ S ds us → Rds A κ S ds.reverse us.reverse := by
    intro ds
    induction ds with
    | nil => intro us h; cases h; exact .nil
    | cons d r ih =>
      intro us h
      cases h with
      | cons h1 h2 => simp only [List.reverse_cons]; exact (ih h2).append (.cons h1 .nil)
  exact key h
theorem Rds.strs : ∀ {ds : List D} {us : List U} {ys : List Str}, Rds A κ S ds us → strsU us = some ys → strsOf ds = some ys
  | _, _, _, .nil, e => e
  | _, _, ys, @Rds.cons _ _ _ d ds u us h r, e => by
    cases u with
    | str b =>
      cases h
      have e' : (strsU us).map (b :: ·) = some ys := e
      show (strsOf ds).map (b :: ·) = some ys
      cases hx : strsU us with
      | none => rw [hx] at e'; cases e'
      | some zs => rw [hx] at e'; rw [Rds.strs r hx]; exact e'
    | _ => cases e
mutual
theorem Rd.py : ∀ {d : D} {u : U} (k : Nat) {p : PyData}, Rd A κ S d u → pyU k u = some p → pyD k S d = some p
  | _, _, k, _, .non, e => by cases k <;> exact e
  | _, _, k, _, .bl b, e => by cases k <;> exact e
  | _, _, k, _, .int i, e => by cases k <;> exact e
  | _, _, k, _, .str s, e => by cases k <;> exact e
  | _, _, 0, _, .tup h, e => by cases e
  | _, _, 0, _, .lst _ _ h, e => by cases e
  | _, _, 0, _, .fz _ _ h, e => by cases e
  | _, _, k, _, .cel _, e => by cases k <;> cases e
  | _, _, 0, _, .dct _ _ _ _ h, e => by cases e
  | _, _, k + 1, p, @Rd.dct _ _ _ n kvs ks ds us _ h2 h4 h5 h, e => by
    cases ks with
    | cons _ _ => cases e
    | nil =>
      subst h4
      rw [pyD, h2]
      exact e
  | _, _, k + 1, p, @Rd.tup _ _ _ ds us h, e => by
    have e' : (optAll (us.map (pyU k))).map PyData.tuple = some p := e
    show (optAll (ds.map (pyD k S))).map PyData.tuple = some p
    cases hx : optAll (us.map (pyU k)) with
    | none => rw [hx] at e'; cases e'
    | some ps => rw [hx] at e'; rw [Rds.py k h hx]; exact e'
  | _, _, k + 1, p, @Rd.lst _ _ _ n ds us _ h2 h, e => by
    have e' : (optAll (us.map (pyU k))).map PyData.list = some p := e
    have hi : itemsAt S n = some ds := by unfold itemsAt; rw [h2]
    rw [py_ref (by rw [h2]; intro z; cases z), hi]
    cases hx : optAll (us.map (pyU k)) with
    | none => rw [hx] at e'; cases e'
    | some ps => rw [hx] at e'; rw [Option.bind_some, Rds.py k h hx]; exact e'
  | _, _, k + 1, p, @Rd.fz _ _ _ n ds us _ h2 h, e => by
    have e' : (optAll (us.map (pyU k))).map PyData.list = some p := e
    have hi : itemsAt S n = some ds := by unfold itemsAt; rw [h2]
    rw [py_ref (by rw [h2]; intro z; cases z), hi]
    cases hx : optAll (us.map (pyU k)) with
    | none => rw [hx] at e'; cases e'
    | some ps => rw [hx] at e'; rw [Option.bind_some, Rds.py k h hx]; exact e'
theorem Rds.py : ∀ {ds : List D} {us : List U} (k : Nat) {ps : List PyData}, Rds A κ S ds us → optAll (us.map (pyU k)) = some ps → optAll (ds.map (pyD k S)) = some ps
  | _, _, k, _, .nil, e => e
  | _, _, k, ps, @Rds.cons _ _ _ d ds u us h r, e => by
    rw [List.map_cons] at e ⊢
    cases hx : pyU k u with
    | none => rw [hx] at e; cases e
    | some p =>
      rw [hx] at e
      rw [Rd.py k h hx]
      have e' : (optAll (us.map (pyU k))).map (p :: ·) = some ps := e
      show (optAll (ds.map (pyD k S))).map (p :: ·) = some ps
      cases hy : optAll (us.map (pyU k)) with
      | none => rw [hy] at e'; cases e'
      | some qs => rw [hy] at e'; rw [Rds.py k r hy]; exact e'
end
theorem RdP.py {d : D} {u : U} (k : Nat) {p : PyData} (h : RdP A κ S d u) (e : pyU k u = some p) : pyD k S d = some p := by
  rcases h with h | ⟨n, rfl, ⟨ds, us, rfl, h2, h3⟩ | ⟨ks, ds, us, rfl, h2, h4, h3⟩⟩
  · exact h.py k e
  · exact (Rd.lst (A := fun _ => False) (fun z => z) h2 (Rds.up (fun _ _ _ => rfl) (fun _ _ z => z.elim) (List.prefix_refl κ) h3)).py k e
  · exact (Rd.dct (A := fun _ => False) (fun z => z) h2 rfl h4 (Rds.up (fun _ _ _ => rfl) (fun _ _ z => z.elim) (List.prefix_refl κ) h3)).py k e
/-- read with nothing barred -/
theorem RdP.rd {d : D} {u : U} (h : RdP A κ S d u) : Rd (fun _ => False) κ S d u := by
  rcases h with h | ⟨n, rfl, ⟨ds, us, rfl, h2, h3⟩ | ⟨ks, ds, us, rfl, h2, h4, h3⟩⟩
  · exact h.up (fun _ _ _ => rfl) (fun _ _ z => z.elim) (List.prefix_refl κ)
  · exact .lst (fun z => z) h2 (h3.up (fun _ _ _ => rfl) (fun _ _ z => z.elim) (List.prefix_refl κ))
  · exact .dct (fun z => z) h2 rfl h4 (h3.up (fun _ _ _ => rfl) (fun _ _ z => z.elim) (List.prefix_refl κ))
theorem RdP.items {d : D} {u : U} {us : List U} (h : RdP A κ S d u) (e : itemsU u = some us) : ∃ n ds, d = .ref n ∧ itemsAt S n = some ds ∧ Rds A κ S ds us := by
  rcases h with h | ⟨n, rfl, ⟨ds, us', rfl, h2, h3⟩ | ⟨ks, ds, us', rfl, h2, h4, h3⟩⟩
  · cases h with
    | lst h1 h2 h3 => cases e; exact ⟨_, _, rfl, by unfold itemsAt; rw [h2], h3⟩
    | fz h1 h2 h3 => cases e; exact ⟨_, _, rfl, by unfold itemsAt; rw [h2], h3⟩
    | _ => cases e
  · cases e; exact ⟨_, _, rfl, by unfold itemsAt; rw [h2], h3⟩
  · cases e
theorem RdP.seq {d : D} {u : U} {us : List U} (h : RdP A κ S d u) (e : seqU u = some us) : ∃ ds, seqD S d = some ds ∧ Rds A κ S ds us := by
  rcases h with h | ⟨n, rfl, ⟨ds, us', rfl, h2, h3⟩ | ⟨ks, ds, us', rfl, h2, h4, h3⟩⟩
  · cases h with
    | tup h => cases e; exact ⟨_, rfl, h⟩
    | lst h1 h2 h3 => cases e; exact ⟨_, by show itemsAt S _ = _; unfold itemsAt; rw [h2], h3⟩
    | fz h1 h2 h3 => cases e; exact ⟨_, by show itemsAt S _ = _; unfold itemsAt; rw [h2], h3⟩
    | _ => cases e
  · cases e; exact ⟨_, by show itemsAt S _ = _; unfold itemsAt; rw [h2], h3⟩
  · cases e
theorem RdP.tru {d : D} {u : U} {b : Bool} (h : RdP A κ S d u) (e : truthU u = some b) : truthD S d = some b := by
  rcases h with h | ⟨n, rfl, ⟨ds, us', rfl, h2, h3⟩ | ⟨ks, ds, us', rfl, h2, h4, h3⟩⟩
  · cases h with
    | tup h => rw [← e]; show some _ = some _; rw [h.empty]
    | lst h1 h2 h3 => rw [← e]; show (itemsAt S _).map _ = some _; unfold itemsAt; rw [h2]; exact congrArg some h3.empty
    | fz h1 h2 h3 => rw [← e]; show (itemsAt S _).map _ = some _; unfold itemsAt; rw [h2]; exact congrArg some h3.empty
    | cel _ => cases e
    | dct _ _ _ _ _ => cases e
    | _ => exact e
  · rw [← e]; show (itemsAt S _).map _ = some _; unfold itemsAt; rw [h2]; exact congrArg some h3.empty
  · cases e
theorem RdP.len {d : D} {u : U} {k : Nat} (h : RdP A κ S d u) (e : lenU u = some k) : lenD S d = some k := by
  rcases h with h | ⟨n, rfl, ⟨ds, us', rfl, h2, h3⟩ | ⟨ks, ds, us', rfl, h2, h4, h3⟩⟩
  · cases h with
    | tup h => rw [← e]; show some _ = some _; rw [h.length]
    | lst h1 h2 h3 => rw [← e]; show (itemsAt S _).map _ = some _; unfold itemsAt; rw [h2]; exact congrArg some h3.length
    | fz h1 h2 h3 => rw [← e]; show (itemsAt S _).map _ = some _; unfold itemsAt; rw [h2]; exact congrArg some h3.length
    | cel _ => cases e
    | dct _ _ _ _ _ => cases e
    | _ => exact e
  · rw [← e]; show (itemsAt S _).map _ = some _; unfold itemsAt; rw [h2]; exact congrArg some h3.length
  · cases e
theorem RdP.isi {d : D} {u : U} {t : Ty} {b : Bool} (h : RdP A κ S d u) (e : isiU u t = some b) : isiD S d t = some b := by
  rcases h with h | ⟨n, rfl, ⟨ds, us', rfl, h2, h3⟩ | ⟨ks, ds, us', rfl, h2, h4, h3⟩⟩
  · cases h with
    | lst h1 h2 h3 => rw [← e]; simp only [isiD, h2]; rfl
    | fz h1 h2 h3 => rw [← e]; simp only [isiD, h2]; rfl
    | cel _ => cases e
    | dct _ h2 _ _ _ => rw [← e]; simp only [isiD, h2]; rfl
    | _ => exact e
  · rw [← e]; simp only [isiD, h2]; rfl
  · rw [← e]; simp only [isiD, h2]; rfl
end
end Ev
end
section
set_option linter.all false
set_option maxRecDepth 100000
set_option maxHeartbeats 4000000
/-! What operations do to values is what they do in a store. -/
namespace Ev
open PySem L2
section
variable {A : Nat → Prop} {κ : List Nat} {S : Sto}
/-- an operation's answer: a value of what is there, or a new list -/
def OpP (A : Nat → Prop) (κ : List Nat) (S : Sto) (w : W) (r : R D) : Prop := (w.1 = false ∧ ∃ d, r = some (d, S) ∧ Rd A κ S d w.2) ∨ (w.1 = true ∧ ∃ ds us, w.2 = .lst us ∧ r = some (.ref S.length, S ++ [.lst ds]) ∧ Rds A κ S ds us)
theorem opp_newL {w : W} {ds : List D} {us : List U} (h : Rds A κ S ds us) (e : newLU us = some w) : OpP A κ S w (newL S ds) := by
  unfold newLU at e
  split at e
  · rename_i hl
    cases e
    exact .inr ⟨rfl, ds, us, rfl, by unfold newL; rw [if_pos (by rw [h.length]; exact hl)], h⟩
  · cases e
theorem opp_newT {w : W} {ds : List D} {us : List U} (h : Rds A κ S ds us) (e : newTU us = some w) : OpP A κ S w (newT S ds) := by
  unfold newTU at e
  split at e
  · rename_i hl
    cases e
    exact .inl ⟨rfl, .tup ds, by unfold newT; rw [if_pos (by rw [h.length]; exact hl)], .tup h⟩
  · cases e
theorem opp_val {u : U} {d : D} {r : R D} (h : Rd A κ S d u) (e : r = some (d, S)) : OpP A κ S (false, u) r := .inl ⟨rfl, d, e, h⟩
theorem RdP.lstAt {d : D} {us : List U} (h : RdP A κ S d (.lst us)) : ∃ n ds, d = .ref n ∧ S[n]? = some (.lst ds) ∧ Rds A κ S ds us := by
  rcases h with h | ⟨n, rfl, ⟨ds, us', e, h2, h3⟩ | ⟨ks, ds, us', e, h2, h4, h3⟩⟩
  · cases h with
    | lst h1 h2 h3 => exact ⟨_, _, rfl, h2, h3⟩
  · cases e; exact ⟨_, _, rfl, h2, h3⟩
  · cases e
theorem RdP.tupAt {d : D} {us : List U} (h : RdP A κ S d (.tup us)) : ∃ ds, d = .tup ds ∧ Rds A κ S ds us := by
  rcases h with h | ⟨n, rfl, ⟨ds, us', e, h2, h3⟩ | ⟨ks, ds, us', e, h2, h4, h3⟩⟩
  · cases h with
    | tup h => exact ⟨_, rfl, h⟩
  · cases e
  · cases e
theorem RdP.intAt {d : D} {i : Int} (h : RdP A κ S d (.int i)) : d = .int i := by
  rcases h with h | ⟨n, rfl, ⟨ds, us', e, h2, h3⟩ | ⟨ks, ds, us', e, h2, h4, h3⟩⟩
  · cases h; rfl
  · cases e
  · cases e
theorem RdP.strAt {d : D} {i : Str} (h : RdP A κ S d (.str i)) : d = .str i := by
  rcases h with h | ⟨n, rfl, ⟨ds, us', e, h2, h3⟩ | ⟨ks, ds, us', e, h2, h4, h3⟩⟩
  · cases h; rfl
  · cases e
  · cases e
theorem RdP.blAt {d : D} {i : Bool} (h : RdP A κ S d (.bl i)) : d = .bl i := by
  rcases h with h | ⟨n, rfl, ⟨ds, us', e, h2, h3⟩ | ⟨ks, ds, us', e, h2, h4, h3⟩⟩
  · cases h; rfl
  · cases e
  · cases e
theorem Rds.rep {ds : List D} {us : List U} (h : Rds A κ S ds us) : ∀ k : Nat, Rds A κ S (List.replicate k ds).flatten (List.replicate k us).flatten
  | 0 => .nil
  | k + 1 => by
    rw [List.replicate_succ, List.replicate_succ, List.flatten_cons, List.flatten_cons]
    exact h.append (Rds.rep h k)
theorem op_bin {op : Operator} {x y : U} {dx dy : D} {w : W} (hx : RdP A κ S dx x) (hy : RdP A κ S dy y) (e : binU op x y = some w) : OpP A κ S w (binD S op dx dy) := by
  unfold binU at e
  split at e
  · cases hx.intAt; cases hy.intAt; cases e; exact opp_val (.int _) rfl
  · cases hx.strAt; cases hy.strAt
    split at e
    · rename_i hl
      cases e
      exact opp_val (.str _) (by simp only [binD, if_pos hl])
    · cases e
  · obtain ⟨ds, rfl, h1⟩ := hx.tupAt
    obtain ⟨es, rfl, h2⟩ := hy.tupAt
    exact opp_newT (h1.append h2) e
  · obtain ⟨n, ds, rfl, q1, h1⟩ := hx.lstAt
    obtain ⟨k, es, rfl, q2, h2⟩ := hy.lstAt
    have z := opp_newL (h1.append h2) e
    have hb : binD S .Add (.ref n) (.ref k) = newL S (ds ++ es) := by
      simp only [binD, q1, q2]
    rw [hb]; exact z
  · cases hx.intAt; cases hy.intAt; cases e; exact opp_val (.int _) rfl
  · cases hx.intAt; cases hy.intAt
    split at e
    · rename_i hl
      cases e
      exact opp_val (.int _) (by simp only [binD, if_pos hl])
    · cases e
  · obtain ⟨ds, rfl, h1⟩ := hx.tupAt
    cases hy.intAt
    split at e
    · rename_i xs j hl
      have z := opp_newT (h1.rep j.toNat) e
      have hb : binD S .Mult (.tup ds) (.int j) = newT S (List.replicate j.toNat ds).flatten := by
        simp only [binD]
        rw [if_pos ⟨hl.1, hl.2.1, by rw [h1.length]; exact hl.2.2⟩]
      rw [hb]; exact z
    · cases e
  · cases hx.intAt; cases hy.intAt
    split at e
    · rename_i hl
      cases e
      exact opp_val (.int _) (by simp only [binD, if_pos hl])
    · cases e
  · cases hx.intAt; cases hy.intAt
    split at e
    · rename_i hl
      cases e
      exact opp_val (.int _) (by simp only [binD, if_pos hl])
    · cases e
  · cases hx.intAt; cases hy.intAt
    split at e
    · rename_i hl
      cases e
      exact opp_val (.int _) (by simp only [binD, if_pos hl])
    · cases e
  · cases e
theorem op_eq {x y : U} {dx dy : D} {b : Bool} (hx : RdP A κ S dx x) (hy : RdP A κ S dy y) (e : eqU x y = some b) : eqD S dx dy = some b := by
  unfold eqU at e
  split at e
  · rename_i p q h1 h2
    unfold eqD
    rw [hx.py 60 h1, hy.py 60 h2]
    exact e
  · cases e
theorem nstr {d : D} {u : U} (h : RdP A κ S d u) (hn : ∀ s, u ≠ .str s) : ∀ s, d ≠ .str s := by
  intro s z
  subst z
  rcases h with h | ⟨n, h, _⟩
  · cases h; exact hn _ rfl
  · cases h
theorem nint {d : D} {u : U} (h : RdP A κ S d u) (hn : ∀ s, u ≠ .int s) : ∀ s, d ≠ .int s := by
  intro s z
  subst z
  rcases h with h | ⟨n, h, _⟩
  · cases h; exact hn _ rfl
  · cases h
theorem op_in {x y : U} {dx dy : D} {b : Bool} (hx : RdP A κ S dx x) (hy : RdP A κ S dy y) (e : inU x y = some b) : inD S dx dy = some b := by
  unfold inU at e
  split at e
  · cases hx.strAt; cases hy.strAt; exact e
  · rename_i hns
    have hd : inD S dx dy = (match pyD 60 S dx, pyD 60 S dy with
      | some p, some (.list ps) => if PyData.canLayAll0 ps = true then some (ps.any fun z => PyData.eqv z p) else none
      | some p, some (.tuple ps) => if PyData.canLayAll0 ps = true then some (ps.any fun z => PyData.eqv z p) else none
      | _, _ => none) := by
      unfold inD
      split
      · rename_i a z
        exfalso
        rcases hx with hx | ⟨n, q, _⟩
        · rcases hy with hy | ⟨n, q, _⟩
          · cases hx; cases hy; exact hns _ _ rfl rfl
          · cases q
        · cases q
      · rfl
    rw [hd]
    split at e
    · rename_i p ps h1 h2; rw [hx.py 60 h1, hy.py 60 h2]; exact e
    · rename_i p ps h1 h2; rw [hx.py 60 h1, hy.py 60 h2]; exact e
    · cases e
theorem op_lt {x y : U} {dx dy : D} {b : Bool} (hx : RdP A κ S dx x) (hy : RdP A κ S dy y) (e : ltU x y = some b) : ltD S dx dy = some b := by
  unfold ltU at e
  split at e
  · cases hx.intAt; cases hy.intAt; exact e
  · rename_i hns
    split at e
    · rename_i p q h1 h2
      unfold ltD
      split
      · exfalso
        rcases hx with hx | ⟨n, q, _⟩
        · rcases hy with hy | ⟨n, q, _⟩
          · cases hx; cases hy; exact hns _ _ rfl rfl
          · cases q
        · cases q
      · rw [hx.py 60 h1, hy.py 60 h2]; exact e
    · cases e
theorem op_is {x y : U} {dx dy : D} {b : Bool} (hx : RdP A κ S dx x) (hy : RdP A κ S dy y) (e : isU x y = some b) : isD dx dy = some b := by
  unfold isU at e
  split at e
  · have : dy = .non := by
      rcases hy with hy | ⟨n, rfl, ⟨ds, us', e, h2, h3⟩ | ⟨ks, ds, us', e, h2, h4, h3⟩⟩
      · cases hy; rfl
      · cases e
      · cases e
    subst this
    rw [← e]
    rcases hx with hx | ⟨n, rfl, ⟨ds, us', rfl, h2, h3⟩ | ⟨ks, ds, us', rfl, h2, h4, h3⟩⟩
    · cases hx <;> rfl
    · rfl
    · rfl
  · cases hx.blAt; cases hy.blAt; exact e
  · cases e
theorem opt_map_not {o : Option Bool} {k : Bool} (h : o.map (!·) = some k) : o = some (!k) := by
  cases o with
  | none => cases h
  | some b => cases h; simp
theorem op_cmp {op : CmpOp} {x y : U} {dx dy : D} {b : Bool} (hx : RdP A κ S dx x) (hy : RdP A κ S dy y) (e : cmpU op x y = some b) : cmpD S op dx dy = some b := by
  cases op with
  | Eq => exact op_eq hx hy e
  | NotEq => show (eqD S dx dy).map (!·) = _; rw [op_eq hx hy (opt_map_not e)]; simp
  | Lt => exact op_lt hx hy e
  | Gt => unfold cmpU at e; split at e <;> first | cases e | skip
          all_goals (try (cases hx.intAt; cases hy.intAt; rfl))
          all_goals simp_all
  | LtE => unfold cmpU at e; split at e <;> first | cases e | skip
           all_goals (try (cases hx.intAt; cases hy.intAt; rfl))
           all_goals simp_all
  | GtE => unfold cmpU at e; split at e <;> first | cases e | skip
           all_goals (try (cases hx.intAt; cases hy.intAt; rfl))
           all_goals simp_all
  | Is => exact op_is hx hy e
  | IsNot => show (isD dx dy).map (!·) = _; rw [op_is hx hy (opt_map_not e)]; simp
  | In => exact op_in hx hy e
  | NotIn => show (inD S dx dy).map (!·) = _; rw [op_in hx hy (opt_map_not e)]; simp
theorem Rds.bools : ∀ {ds : List D} {us : List U} {bs : List Bool}, Rds A κ S ds us → boolsU us = some bs → boolsOf ds = some bs
  | _, _, _, .nil, e => e
  | _, _, bs, @Rds.cons _ _ _ d ds u us h r, e => by
    cases u with
    | bl b =>
      cases h
      have e' : (boolsU us).map (b :: ·) = some bs := e
      show (boolsOf ds).map (b :: ·) = some bs
      cases hx : boolsU us with
      | none => rw [hx] at e'; cases e'
      | some cs => rw [hx] at e'; rw [Rds.bools r hx]; exact e'
    | _ => cases e
theorem Rds.zipped : ∀ {ds : List D} {us : List U}, Rds A κ S ds us → ∃ ps : List (D × U), ds = ps.map (·.1) ∧ us = ps.map (·.2) ∧ ∀ p ∈ ps, Rd A κ S p.1 p.2
  | _, _, .nil => ⟨[], rfl, rfl, fun _ h => by cases h⟩
  | _, _, .cons h r => by
    obtain ⟨ps, e1, e2, h3⟩ := Rds.zipped r
    exact ⟨(_, _) :: ps, by rw [List.map_cons, ← e1], by rw [List.map_cons, ← e2], fun p hp => by
      rcases List.mem_cons.mp hp with rfl | hp
      · exact h
      · exact h3 p hp⟩
theorem Rds.unzip : ∀ {ps : List (D × U)}, (∀ p ∈ ps, Rd A κ S p.1 p.2) → Rds A κ S (ps.map (·.1)) (ps.map (·.2))
  | [], _ => .nil
  | p :: r, h => .cons (h p (by simp)) (Rds.unzip fun q hq => h q (by simp [hq]))
theorem op_sort {ds : List D} {us : List U} {w : W} (h : Rds A κ S ds us) (e : sortU us = some w) : OpP A κ S w (sortD S ds) := by
  obtain ⟨ps, rfl, rfl, hp⟩ := h.zipped
  unfold sortU at e
  split at e
  · rename_i hc
    obtain ⟨c1, c2, c3, c4⟩ := hc
    have hs : ∀ p ∈ ps, ∃ d, pyU 60 p.2 = some d ∧ d.canLay0 = true := fun p q => by
      have z := List.all_eq_true.mp c2 p.2 (List.mem_map_of_mem q)
      split at z
      · rename_i d hd; exact ⟨d, hd, z⟩
      · cases z
    have ht : ∀ p ∈ ps, pyT S p.1 = pyTU p.2 ∧ (match pyD 60 S p.1 with
        | some p => p.canLay0
        | none => false) = true := fun p q => by
      obtain ⟨d, hd, hc⟩ := hs p q
      have z := (hp p q).py 60 hd
      exact ⟨by unfold pyT pyTU; rw [z, hd], by rw [z]; exact hc⟩
    have hm : (ps.map (·.1)).map (pyT S) = (ps.map (·.2)).map pyTU := by
      rw [List.map_map, List.map_map]
      exact List.map_congr_left fun p q => (ht p q).1
    have e1 : (ps.map (·.1)).mergeSort (PySem.W.dataLe false (pyT S)) = (ps.mergeSort fun a b => PySem.W.dataLe false pyTU a.2 b.2).map (·.1) := by
      refine (List.map_mergeSort (f := fun p : D × U => p.1) fun a ha b hb => ?_).symm
      show PySem.W.dataLe false pyTU a.2 b.2 = PySem.W.dataLe false (pyT S) a.1 b.1
      have h1 := (ht a ha).1
      have h2 := (ht b hb).1
      simp only [PySem.W.dataLe, PySem.W.sortLe, h1, h2]
    have e2 : (ps.map (·.2)).mergeSort (PySem.W.dataLe false pyTU) = (ps.mergeSort fun a b => PySem.W.dataLe false pyTU a.2 b.2).map (·.2) :=
      (List.map_mergeSort (f := fun p : D × U => p.2) fun a ha b hb => rfl).symm
    unfold sortD
    rw [if_pos ⟨by simpa using c1, List.all_eq_true.mpr fun d hd => by
      obtain ⟨p, q, rfl⟩ := List.mem_map.mp hd
      exact (ht p q).2, by rw [hm]; exact c3, by rw [hm]; exact c4⟩, e1]
    rw [e2] at e
    exact opp_newL (Rds.unzip fun p q => hp p ((List.mergeSort_perm ps _).mem_iff.mp q)) e
  · cases e
theorem key_rd : ∀ k : List Key, Rds A κ S (k.map keyD) (k.map keyU)
  | [] => .nil
  | .inl i :: r => .cons (.int i) (key_rd r)
  | .inr x :: r => .cons (.str x) (key_rd r)
theorem keys_rd : ∀ (ks : List (List Key)) (ds : List D), ks.length = ds.length → Rds A κ S ((ks.zip ds).map fun kv => .tup (kv.1.map keyD)) (ks.map fun k => .tup (k.map keyU))
  | [], _, _ => .nil
  | k :: ks, [], h => by cases h
  | k :: ks, d :: ds, h => .cons (.tup (key_rd k)) (keys_rd ks ds (by simpa using h))
theorem RdP.dctAt {d : D} {ks : List (List Key)} {us : List U} (h : RdP A κ S d (.dct ks us)) : ∃ n ds, d = .ref n ∧ S[n]? = some (.dt (ks.zip ds)) ∧ ks.length = ds.length ∧ Rds A κ S ds us := by
  rcases h with h | ⟨n, rfl, ⟨ds, us', e, h2, h3⟩ | ⟨ks', ds, us', e, h2, h4, h3⟩⟩
  · cases h with
    | dct h1 h2 h4 h5 h3 => subst h4; exact ⟨_, _, rfl, h2, h5, h3⟩
  · cases e
  · cases e; exact ⟨_, _, rfl, h2, h4, h3⟩
theorem op_list {x : U} {dx : D} {w : W} (hx : RdP A κ S dx x) (e : listU x = some w) : OpP A κ S w (b1D S .list dx) := by
  unfold listU at e
  split at e
  · rename_i ks us
    obtain ⟨n, ds, rfl, h1, h2, h3⟩ := hx.dctAt
    have z := opp_newL (keys_rd (A := A) (κ := κ) (S := S) ks ds h2) e
    have hb : b1D S .list (.ref n) = newL S ((ks.zip ds).map fun kv => .tup (kv.1.map keyD)) := by simp only [b1D, keysAt, h1]
    rw [hb]; exact z
  · cases hl : seqU x with
    | none => rw [hl] at e; cases e
    | some us =>
      rw [hl] at e
      obtain ⟨ds, h1, h2⟩ := hx.seq hl
      have z := opp_newL h2 e
      have hk : keysAt S dx = none := by
        cases dx with
        | ref n =>
          have hi : itemsAt S n = some ds := h1
          unfold keysAt
          simp only
          split
          · rename_i kvs hS; unfold itemsAt at hi; rw [hS] at hi; cases hi
          · rfl
        | _ => rfl
      have hb : b1D S .list dx = newL S ds := by simp only [b1D, hk, h1, Option.bind_some]
      rw [hb]; exact z
theorem rd_strs {A : Nat → Prop} {κ : List Nat} {S : Sto} : ∀ ys : List Str, Rds A κ S (ys.map D.str) (ys.map U.str)
  | [] => .nil
  | y :: ys => .cons (.str y) (rd_strs ys)
theorem op_b1 {b : B1} {x : U} {dx : D} {w : W} (hx : RdP A κ S dx x) (e : b1U b x = some w) : OpP A κ S w (b1D S b dx) := by
  unfold b1U at e
  split at e
  · cases hl : lenU x with
    | none => rw [hl] at e; cases e
    | some k => rw [hl] at e; cases e; exact opp_val (.int _) (by simp only [b1D, hx.len hl]; rfl)
  · cases hl : seqU x with
    | none => rw [hl] at e; cases e
    | some us =>
      rw [hl] at e; cases e
      obtain ⟨ds, h1, h2⟩ := hx.seq hl
      refine opp_val (.tup h2) ?_
      cases dx with
      | tup xs => cases h1; rfl
      | ref n => show (itemsAt S n).map _ = _; rw [show itemsAt S n = some ds from h1]; rfl
      | _ => cases h1
  · exact op_list hx e
  · cases hl : itemsU x with
    | none => rw [hl] at e; cases e
    | some us =>
      rw [hl] at e
      obtain ⟨n, ds, rfl, h1, h2⟩ := hx.items hl
      have z := op_sort h2 e
      have hb : b1D S .sorted (.ref n) = sortD S ds := by show (itemsAt S n).bind _ = _; rw [h1]; rfl
      rw [hb]; exact z
  · cases hl : itemsU x with
    | none => rw [hl] at e; cases e
    | some us =>
      rw [hl] at e
      have e : (boolsU us).map (fun bs => (false, U.bl (bs.all id))) = some w := e
      obtain ⟨n, ds, rfl, h1, h2⟩ := hx.items hl
      cases hb : boolsU us with
      | none => rw [hb] at e; cases e
      | some bs =>
        rw [hb] at e; cases e
        refine opp_val (.bl _) ?_
        show (itemsAt S n).bind _ = _
        rw [h1, Option.bind_some, h2.bools hb]; rfl
  · split at e
    · rename_i p hp
      split at e
      · rename_i hc
        cases e
        refine opp_val (.str _) ?_
        have z := hx.py 60 hp
        simp only [b1D, z, if_pos hc]
      · cases e
    · cases e
  · cases hl : itemsU x with
    | none => rw [hl] at e; cases e
    | some us =>
      rw [hl, Option.bind_some] at e
      obtain ⟨n, ds, rfl, h1, h2⟩ := hx.items hl
      cases hb : strsU us with
      | none => rw [hb] at e; cases e
      | some ys =>
        rw [hb, Option.bind_some] at e
        split at e
        · rename_i hc
          have z := opp_newL (A := A) (κ := κ) (S := S) (rd_strs (StS.sS ys)) e
          have hb : b1D S .sset (.ref n) = newL S ((StS.sS ys).map D.str) := by
            show (itemsAt S n).bind _ = _
            rw [h1, Option.bind_some, h2.strs hb, Option.bind_some, if_pos hc]
          rw [hb]; exact z
        · cases e
  · cases hl : itemsU x with
    | none => rw [hl] at e; cases e
    | some us =>
      rw [hl, Option.bind_some] at e
      obtain ⟨n, ds, rfl, h1, h2⟩ := hx.items hl
      cases hb : strsU us with
      | none => rw [hb] at e; cases e
      | some ys =>
        rw [hb, Option.bind_some] at e
        split at e
        · rename_i hc
          cases e
          refine opp_val (.int _) ?_
          show (itemsAt S n).bind _ = _
          rw [h1, Option.bind_some, h2.strs hb, Option.bind_some, if_pos hc]
        · cases e
  · cases hx.intAt; cases e; exact opp_val (.int _) rfl
  · cases hx.blAt; cases e; exact opp_val (.int _) rfl
  · cases e
theorem op_rev {x : U} {dx : D} {w : W} (hx : RdP A κ S dx x) (e : revU x = some w) : OpP A κ S w (revD S dx) := by
  unfold revU at e
  split at e
  · obtain ⟨ds, rfl, h⟩ := hx.tupAt
    cases e
    exact opp_val (.tup h.reverse) rfl
  · obtain ⟨n, ds, rfl, h1, h2⟩ := hx.items rfl
    have z := opp_newL h2.reverse e
    have hb : revD S (.ref n) = newL S ds.reverse := by show (itemsAt S n).bind _ = _; rw [h1]; rfl
    rw [hb]; exact z
  · obtain ⟨n, ds, rfl, h1, h2⟩ := hx.items rfl
    have z := opp_newL h2.reverse e
    have hb : revD S (.ref n) = newL S ds.reverse := by show (itemsAt S n).bind _ = _; rw [h1]; rfl
    rw [hb]; exact z
  · cases e
theorem op_sm {b : SM} {x y : U} {dx dy : D} {w : W} (hx : RdP A κ S dx x) (hy : RdP A κ S dy y) (e : smU b x y = some w) : OpP A κ S w (smD S b dx dy) := by
  unfold smU at e
  split at e
  · cases hx.strAt; cases hy.strAt
    split at e
    · rename_i hl
      cases e
      exact opp_val (.str _) (by simp only [smD, if_pos hl])
    · cases e
  · cases hx.strAt
    cases hl : seqU y with
    | none => rw [hl] at e; cases e
    | some us =>
      rw [hl, Option.bind_some] at e
      obtain ⟨ds, h1, h2⟩ := hy.seq hl
      cases hs : strsU us with
      | none => rw [hs] at e; cases e
      | some ys =>
        rw [hs, Option.bind_some] at e
        split at e
        · rename_i hz
          cases e
          exact opp_val (.str _) (by simp only [smD, h1, Option.bind_some, h2.strs hs, if_pos hz])
        · cases e
  · cases e
theorem op_b2 {b : B2} {x y : U} {dx dy : D} {w : W} (hx : RdP A κ S dx x) (hy : RdP A κ S dy y) (e : b2U b x y = some w) : OpP A κ S w (b2D S b dx dy) := by
  unfold b2U at e
  split at e
  · cases hx.intAt; cases hy.intAt; cases e; exact opp_val (.int _) rfl
  · cases hx.intAt; cases hy.intAt; cases e; exact opp_val (.int _) rfl
  · cases hx.intAt; cases hy.intAt
    split at e
    · rename_i hl
      cases e
      exact opp_val (.tup (.cons (.int _) (.cons (.int _) .nil))) (by simp only [b2D, if_pos hl])
    · cases e
  · obtain ⟨ds, rfl, h1⟩ := hx.tupAt
    obtain ⟨es, rfl, h2⟩ := hy.tupAt
    split at e
    · rename_i hz
      have z := opp_newL (A := A) (κ := κ) (S := S) .nil e
      have hb : b2D S .lzip (.tup ds) (.tup es) = newL S [] := by
        show (if (ds.isEmpty || es.isEmpty) = true then newL S [] else none) = _
        rw [Bool.or_eq_true] at hz
        rw [if_pos]
        rw [Bool.or_eq_true]
        rcases hz with hz | hz
        · left; rw [List.isEmpty_iff] at hz; subst hz; cases h1; rfl
        · right; rw [List.isEmpty_iff] at hz; subst hz; cases h2; rfl
      rw [hb]; exact z
    · cases e
  · cases e
theorem op_sl {x : U} {lo hi : Option Int} {dx : D} {w : W} (hx : RdP A κ S dx x) (e : slU x lo hi = some w) : OpP A κ S w (slD S dx lo hi) := by
  unfold slU at e
  split at e
  · obtain ⟨ds, rfl, h1⟩ := hx.tupAt
    cases e
    exact opp_val (.tup (h1.cut lo hi)) rfl
  · obtain ⟨n, ds, rfl, h1, h2⟩ := hx.items rfl
    have z := opp_newL (h2.cut lo hi) e
    have hb : slD S (.ref n) lo hi = newL S (cutD ds lo hi) := by show (itemsAt S n).bind _ = _; rw [h1]; rfl
    rw [hb]; exact z
  · obtain ⟨n, ds, rfl, h1, h2⟩ := hx.items rfl
    have z := opp_newL (h2.cut lo hi) e
    have hb : slD S (.ref n) lo hi = newL S (cutD ds lo hi) := by show (itemsAt S n).bind _ = _; rw [h1]; rfl
    rw [hb]; exact z
  · cases e
theorem op_rng {t : Bool} {x y : U} {dx dy : D} {w : W} (hx : RdP A κ S dx x) (hy : RdP A κ S dy y) (e : rngU t x y = some w) : OpP A κ S w (rngD S t dx dy) := by
  unfold rngU at e
  split at e
  · cases hx.intAt; cases hy.intAt
    split at e
    · rename_i hc
      unfold rngD
      simp only [if_pos hc]
      split at e
      · rename_i ht; rw [if_pos ht]; exact opp_newT .range e
      · rename_i ht; rw [if_neg ht]; exact opp_newL .range e
    · cases e
  · cases e
mutual
theorem lit_rd : ∀ {d : D} {u : U}, litU d = some u → Rd A κ S d u
  | .non, _, e => by cases e; exact .non
  | .bl b, _, e => by cases e; exact .bl b
  | .int i, _, e => by cases e; exact .int i
  | .str s, _, e => by cases e; exact .str s
  | .ref _, _, e => by cases e
  | .tup ds, u, e => by
    have e' : (litU.litUs ds).map U.tup = some u := e
    cases hx : litU.litUs ds with
    | none => rw [hx] at e'; cases e'
    | some us => rw [hx] at e'; cases e'; exact .tup (lit_rds hx)
theorem lit_rds : ∀ {ds : List D} {us : List U}, litU.litUs ds = some us → Rds A κ S ds us
  | [], _, e => by cases e; exact .nil
  | d :: r, us, e => by
    unfold litU.litUs at e
    split at e
    · rename_i u vs h1 h2
      cases e
      exact .cons (lit_rd h1) (lit_rds h2)
    · cases e
end
end
end Ev
end
section
set_option linter.all false
set_option maxRecDepth 100000
set_option maxHeartbeats 4000000
/-! An environment of values over a store. -/
namespace Ev
open PySem L2
def Own (ρ : Env) (v : VEnv) (n : Nat) : Prop := ∃ (i : Nat) (u : U), v[i]? = some (some (Md.own, u)) ∧ ρ[i]? = some (some (D.ref n))
def Av (F : Nat → Prop) (κ : List Nat) (ρ : Env) (v : VEnv) (n : Nat) : Prop := F n ∨ n ∈ κ ∨ Own ρ v n
structure VRel (F : Nat → Prop) (κ : List Nat) (ρ : Env) (S : Sto) (v : VEnv) (c : Ce) : Prop where
  len : ρ.length = v.length
  shr : ∀ (i : Nat) (u : U), v[i]? = some (some (.shr, u)) → ∃ d : D, ρ[i]? = some (some d) ∧ Rd (Av F κ ρ v) κ S d u
  lck : ∀ (i : Nat) (u : U), v[i]? = some (some (.lck, u)) → ∃ n : Nat, ρ[i]? = some (some (.ref n)) ∧ n ∉ κ ∧ ¬ Own ρ v n ∧ Ob (Av F κ ρ v) κ S n u
  own : ∀ (i : Nat) (u : U), v[i]? = some (some (.own, u)) → ∃ n : Nat, ρ[i]? = some (some (.ref n)) ∧ ¬ F n ∧ n ∉ κ ∧ Ob (Av F κ ρ v) κ S n u
  dis : ∀ (i j n : Nat) (u w : U), v[i]? = some (some (.own, u)) → v[j]? = some (some (.own, w)) → ρ[i]? = some (some (.ref n)) → ρ[j]? = some (some (.ref n)) → i = j
  fl : ∀ n, F n → n < S.length
  kl : κ.length = c.length
  knd : κ.Nodup
  kf : ∀ n, n ∈ κ → ¬ F n
  kc : ∀ (k : Nat) (us : List U), c[k]? = some us → ∃ (n : Nat) (ds : List D), κ[k]? = some n ∧ S[n]? = some (.lst ds) ∧ Rds (Av F κ ρ v) κ S ds us
structure Fm (κ : List Nat) (ρ : Env) (v : VEnv) (S S' : Sto) : Prop where
  le : S.length ≤ S'.length
  at_ : ∀ n, n < S.length → n ∉ κ → ¬ Own ρ v n → S'[n]? = S[n]?
/-- from one state to the next, the slots of the store's side as they are -/
structure Ex (ρ : Env) (κ : List Nat) (S : Sto) (v : VEnv) (κ' : List Nat) (S' : Sto) (v' : VEnv) : Prop where
  pre : κ <+: κ'
  new : ∀ n, n ∈ κ' → n ∈ κ ∨ S.length ≤ n
  fm : Fm κ ρ v S S'
  mono : ∀ (i : Nat) (u' : U), v'[i]? = some (some (.own, u')) → ∃ u, v[i]? = some (some (.own, u))
  lk : ∀ (i : Nat) (u : U), v'[i]? = some (some (.lck, u)) → v[i]? = some (some (.lck, u))
  wl : v'.length = v.length
section
variable {F F' : Nat → Prop} {κ κ' κ1 κ2 : List Nat} {ρ : Env} {S S' S1 S2 : Sto} {v v' v1 v2 : VEnv} {c c' : Ce} {d : D} {u : U}
theorem Ex.refl : Ex ρ κ S v κ S v := ⟨List.prefix_refl κ, fun _ h => .inl h, ⟨Nat.le_refl _, fun _ _ _ _ => rfl⟩, fun _ u h => ⟨u, h⟩, fun _ _ h => h, rfl⟩
theorem Ex.own (x : Ex ρ κ S v κ' S' v') {n : Nat} (h : Own ρ v' n) : Own ρ v n := by
  obtain ⟨i, u, h1, h2⟩ := h
  obtain ⟨u', h3⟩ := x.mono i u h1
  exact ⟨i, u', h3, h2⟩
theorem Ex.av (x : Ex ρ κ S v κ' S' v') {n : Nat} (hn : n < S.length) (h : Av F κ' ρ v' n) : Av F κ ρ v n := by
  rcases h with h | h | h
  · exact .inl h
  · rcases x.new n h with z | z
    · exact .inr (.inl z)
    · omega
  · exact .inr (.inr (x.own h))
theorem Ex.trans (x : Ex ρ κ S v κ1 S1 v1) (y : Ex ρ κ1 S1 v1 κ2 S2 v2) : Ex ρ κ S v κ2 S2 v2 := by
  have hl := x.fm.le
  refine ⟨x.pre.trans y.pre, fun n h => ?_, ⟨Nat.le_trans x.fm.le y.fm.le, fun n h1 h2 h3 => ?_⟩, fun i u h => ?_, fun i u h => x.lk i u (y.lk i u h), y.wl.trans x.wl⟩
  · rcases y.new n h with z | z
    · exact x.new n z
    · exact .inr (by omega)
  · refine (y.fm.at_ n (by omega) (fun z => ?_) (fun z => h3 (x.own z))).trans (x.fm.at_ n h1 h2 h3)
    rcases x.new n z with w | w
    · exact h2 w
    · omega
  · obtain ⟨u', h'⟩ := y.mono i u h
    exact x.mono i u' h'
theorem Rd.ex (h : Rd (Av F κ ρ v) κ S d u) (x : Ex ρ κ S v κ' S' v') : Rd (Av F κ' ρ v') κ' S' d u :=
  h.up (fun n hn hl => x.fm.at_ n hl (fun z => hn (.inr (.inl z))) (fun z => hn (.inr (.inr z)))) (fun n hn => x.av hn) x.pre
theorem Rds.ex {ds : List D} {us : List U} (h : Rds (Av F κ ρ v) κ S ds us) (x : Ex ρ κ S v κ' S' v') : Rds (Av F κ' ρ v') κ' S' ds us :=
  h.up (fun n hn hl => x.fm.at_ n hl (fun z => hn (.inr (.inl z))) (fun z => hn (.inr (.inr z)))) (fun n hn => x.av hn) x.pre
theorem Ob.to {A A' : Nat → Prop} {n : Nat} (h : Ob A κ S n u) (hS : ∀ n, ¬ A n → n < S.length → S'[n]? = S[n]?) (hA : ∀ n, n < S.length → A' n → A n) (hk : κ <+: κ') (hn : S'[n]? = S[n]?) : Ob A' κ' S' n u := by
  rcases h with ⟨ds, us, rfl, h2, h3⟩ | ⟨ks, ds, us, rfl, h2, h4, h3⟩
  · exact .inl ⟨ds, us, rfl, hn.trans h2, h3.up hS hA hk⟩
  · exact .inr ⟨ks, ds, us, rfl, hn.trans h2, h4, h3.up hS hA hk⟩
theorem Ob.rd {A A' : Nat → Prop} {n : Nat} (h : Ob A κ S n u) (hn : ¬ A' n) (hA : ∀ m, m < S.length → A' m → A m) : Rd A' κ S (.ref n) u := by
  rcases h with ⟨ds, us, rfl, h2, h3⟩ | ⟨ks, ds, us, rfl, h2, h4, h3⟩
  · exact .lst hn h2 (h3.up (fun _ _ _ => rfl) hA (List.prefix_refl κ))
  · exact .dct hn h2 rfl h4 (h3.up (fun _ _ _ => rfl) hA (List.prefix_refl κ))
theorem Ob.lstAt {A : Nat → Prop} {n : Nat} {us : List U} (h : Ob A κ S n (.lst us)) : ∃ ds, S[n]? = some (.lst ds) ∧ Rds A κ S ds us := by
  rcases h with ⟨ds, us, e, h2, h3⟩ | ⟨ks, ds, us, e, h2, h4, h3⟩
  · cases e; exact ⟨ds, h2, h3⟩
  · cases e
theorem Ob.dctAt {A : Nat → Prop} {n : Nat} {ks : List (List Key)} {us : List U} (h : Ob A κ S n (.dct ks us)) : ∃ ds, S[n]? = some (.dt (ks.zip ds)) ∧ ks.length = ds.length ∧ Rds A κ S ds us := by
  rcases h with ⟨ds, us, e, h2, h3⟩ | ⟨ks, ds, us, e, h2, h4, h3⟩
  · cases e
  · cases e; exact ⟨ds, h2, h4, h3⟩
theorem Ob.lt {A : Nat → Prop} {n : Nat} (h : Ob A κ S n u) : n < S.length := by
  rcases h with ⟨ds, us, rfl, h2, h3⟩ | ⟨ks, ds, us, rfl, h2, h4, h3⟩
  · exact lt_of_get h2
  · exact lt_of_get h2
theorem VRel.klt (h : VRel F κ ρ S v c) {n : Nat} (hn : n ∈ κ) : n < S.length := by
  obtain ⟨k, hk, e⟩ := List.mem_iff_getElem.mp hn
  have hc : k < c.length := h.kl ▸ hk
  obtain ⟨m, ds, h1, h2, _⟩ := h.kc k _ (List.getElem?_eq_getElem hc)
  rw [List.getElem?_eq_getElem hk, e] at h1
  cases h1
  exact lt_of_get h2
theorem VRel.olt (h : VRel F κ ρ S v c) {n : Nat} (hn : Own ρ v n) : n < S.length := by
  obtain ⟨i, u, h1, h2⟩ := hn
  obtain ⟨m, e, _, _, o⟩ := h.own i u h1
  rw [h2] at e; cases e
  exact o.lt
theorem VRel.alt (h : VRel F κ ρ S v c) {n : Nat} (hn : Av F κ ρ v n) : n < S.length := by
  rcases hn with z | z | z
  · exact h.fl n z
  · exact h.klt z
  · exact h.olt z
theorem VRel.grow (h : VRel F κ ρ S v c) (hl : S.length ≤ S'.length) (hS : ∀ n, n < S.length → S'[n]? = S[n]?) (h1 : ∀ n, F' n → F n ∨ (S.length ≤ n ∧ n < S'.length)) : VRel F' κ ρ S' v c := by
  have hA : ∀ n, n < S.length → Av F' κ ρ v n → Av F κ ρ v n := fun n hn z => by
    rcases z with z | z
    · rcases h1 n z with w | w
      · exact .inl w
      · omega
    · exact .inr z
  have up : ∀ {d u}, Rd (Av F κ ρ v) κ S d u → Rd (Av F' κ ρ v) κ S' d u := fun z => z.up (fun n _ hn => hS n hn) hA (List.prefix_refl κ)
  have ups : ∀ {d u}, Rds (Av F κ ρ v) κ S d u → Rds (Av F' κ ρ v) κ S' d u := fun z => z.up (fun n _ hn => hS n hn) hA (List.prefix_refl κ)
  have obs : ∀ {n u}, Ob (Av F κ ρ v) κ S n u → Ob (Av F' κ ρ v) κ S' n u := fun z => z.to (fun n _ hn => hS n hn) hA (List.prefix_refl κ) (hS _ z.lt)
  have nf : ∀ n, n < S.length → ¬ F n → ¬ F' n := fun n hn z w => by
    rcases h1 n w with w | w
    · exact z w
    · omega
  refine ⟨h.len, fun i u e => ?_, fun i u e => ?_, fun i u e => ?_, h.dis, fun n hn => ?_, h.kl, h.knd, fun n hn => nf n (h.klt hn) (h.kf n hn), fun k us e => ?_⟩
  · obtain ⟨d, e1, e2⟩ := h.shr i u e; exact ⟨d, e1, up e2⟩
  · obtain ⟨n, e1, e2, e3, e4⟩ := h.lck i u e; exact ⟨n, e1, e2, e3, obs e4⟩
  · obtain ⟨n, e1, e2, e3, e4⟩ := h.own i u e; exact ⟨n, e1, nf n e4.lt e2, e3, obs e4⟩
  · rcases h1 n hn with w | w
    · have := h.fl n w; omega
    · exact w.2
  · obtain ⟨n, ds, e1, e2, e3⟩ := h.kc k us e
    exact ⟨n, ds, e1, (hS n (lt_of_get e2)).trans e2, ups e3⟩
theorem VRel.weak (h : VRel F κ ρ S v c) (h1 : ∀ n, F' n → F n) : VRel F' κ ρ S v c := h.grow (Nat.le_refl _) (fun _ _ => rfl) fun n z => .inl (h1 n z)
def plus (F : Nat → Prop) (n : Nat) : Nat → Prop := fun m => F m ∨ m = n
/-- an expression's answer -/
def Res (F : Nat → Prop) (ρ : Env) (S : Sto) (w : W) (d : D) (κ' : List Nat) (S' : Sto) (v' : VEnv) (c' : Ce) : Prop :=
  (w.1 = false ∧ VRel F κ' ρ S' v' c' ∧ Rd (Av F κ' ρ v') κ' S' d w.2) ∨
  (w.1 = true ∧ ∃ n, d = .ref n ∧ S.length ≤ n ∧ ¬ Av F κ' ρ v' n ∧ VRel (plus F n) κ' ρ S' v' c' ∧ Ob (Av (plus F n) κ' ρ v') κ' S' n w.2)
theorem Res.shared {w : W} (h : Res F ρ S w d κ' S' v' c') : VRel F κ' ρ S' v' c' ∧ Rd (Av F κ' ρ v') κ' S' d w.2 := by
  rcases h with ⟨_, h1, h2⟩ | ⟨_, n, rfl, h0, h1, h2, h3⟩
  · exact ⟨h1, h2⟩
  · refine ⟨h2.weak fun n z => .inl z, h3.rd h1 fun m _ z => ?_⟩
    rcases z with z | z
    · exact .inl (.inl z)
    · exact .inr z
theorem Res.sh {w : W} (h : Res F ρ S w d κ' S' v' c') : Res F ρ S (false, w.2) d κ' S' v' c' := .inl ⟨rfl, h.shared⟩
theorem Res.from {w : W} (hl : S.length ≤ S1.length) (h : Res F ρ S1 w d κ' S' v' c') : Res F ρ S w d κ' S' v' c' := by
  rcases h with h | ⟨h0, n, h1, h2, h3⟩
  · exact .inl h
  · exact .inr ⟨h0, n, h1, by omega, h3⟩
theorem Ex.new1 {o : O} : Ex ρ κ S v κ (S ++ [o]) v := ⟨List.prefix_refl κ, fun _ h => .inl h, ⟨by simp, fun n hn _ _ => List.getElem?_append_left hn⟩, fun _ u h => ⟨u, h⟩, fun _ _ h => h, rfl⟩
/-- behind an operation -/
theorem new_dct (h : VRel F κ ρ S v c) : Ex ρ κ S v κ (S ++ [.dt []]) v ∧ Res F ρ S (true, .dct [] []) (.ref S.length) κ (S ++ [.dt []]) v c := by
  refine ⟨.new1, .inr ⟨rfl, _, rfl, Nat.le_refl _, fun z => Nat.lt_irrefl _ (h.alt z), ?_, .inr ⟨[], [], [], rfl, by simp, rfl, .nil⟩⟩⟩
  refine h.grow (by simp) (fun n hn => List.getElem?_append_left hn) fun n z => ?_
  rcases z with z | z
  · exact .inl z
  · subst z; exact .inr ⟨Nat.le_refl _, by simp⟩
theorem OpP.res {w : W} {r : R D} (h : VRel F κ ρ S v c) (o : OpP (Av F κ ρ v) κ S w r) : ∃ d S', r = some (d, S') ∧ Ex ρ κ S v κ S' v ∧ Res F ρ S w d κ S' v c := by
  rcases o with ⟨h0, d, e, q⟩ | ⟨h0, ds, us, hw, e, q⟩
  · exact ⟨d, S, e, .refl, .inl ⟨h0, h, q⟩⟩
  · refine ⟨_, _, e, .new1, .inr ⟨h0, _, rfl, Nat.le_refl _, fun z => Nat.lt_irrefl _ (h.alt z), ?_, .inl ⟨ds, us, hw, by simp, ?_⟩⟩⟩
    · refine h.grow (by simp) (fun n hn => List.getElem?_append_left hn) fun n z => ?_
      rcases z with z | z
      · exact .inl z
      · subst z; exact .inr ⟨Nat.le_refl _, by simp⟩
    · refine q.up (fun n _ hn => List.getElem?_append_left hn) (fun n hn z => ?_) (List.prefix_refl κ)
      rcases z with z | z
      · rcases z with z | z
        · exact .inl z
        · omega
      · exact .inr z
/-- an argument -/
def ArOk (F : Nat → Prop) (κ : List Nat) (ρ : Env) (S : Sto) (v : VEnv) (a : Ar) (d : D) : Prop := match a with
  | .slot i => ρ[i]? = some (some d)
  | .val u => Rd (Av F κ ρ v) κ S d u
theorem ArOk.ex {a : Ar} (h : ArOk F κ ρ S v a d) (x : Ex ρ κ S v κ' S' v') : ArOk F κ' ρ S' v' a d := by
  cases a with
  | slot i => exact h
  | val u => exact Rd.ex h x
theorem VRel.at (h : VRel F κ ρ S v c) {i : Nat} {m : Md} (e : v[i]? = some (some (m, u))) : ∃ d : D, ρ[i]? = some (some d) ∧ RdP (Av F κ ρ v) κ S d u := by
  cases m with
  | shr => obtain ⟨d, h1, h2⟩ := h.shr i u e; exact ⟨d, h1, .inl h2⟩
  | lck => obtain ⟨n, h1, h2, h3, h4⟩ := h.lck i u e; exact ⟨_, h1, .inr ⟨n, rfl, h4⟩⟩
  | own => obtain ⟨n, h1, h2, h3, h4⟩ := h.own i u e; exact ⟨_, h1, .inr ⟨n, rfl, h4⟩⟩
theorem ArOk.res {a : Ar} (h : VRel F κ ρ S v c) (q : ArOk F κ ρ S v a d) (e : resA v a = some u) : RdP (Av F κ ρ v) κ S d u := by
  cases a with
  | val w => cases (show some w = some u from e); exact .inl q
  | slot i =>
    have e : (match v[i]? with
      | some (some (_, u)) => some u
      | _ => none) = some u := e
    split at e
    · rename_i m w hw
      cases e
      obtain ⟨d', h1, h2⟩ := h.at hw
      have q : ρ[i]? = some (some d) := q
      rw [q] at h1
      cases h1
      exact h2
    · cases e
end
end Ev
end
section
set_option linter.all false
set_option maxRecDepth 100000
set_option maxHeartbeats 4000000
/-! Expressions over values are expressions over a store. -/
namespace Ev
open PySem L2
section
variable (cl : Nat → List (Md × U) → Ce → Option (W × Ce)) (cd : Nat → List D → Sto → R D)
def SEV (e : E) : Prop := ∀ v c w v' c', vE cl e v c = some (w, v', c') → ∀ F κ ρ S, VRel F κ ρ S v c → ∃ d S' κ', evE cd e ρ S = some (d, S') ∧ Ex ρ κ S v κ' S' v' ∧ Res F ρ S w d κ' S' v' c'
def SAV (e : E) : Prop := ∀ v c a v' c', arE e v c (vE cl e v c) = some (a, v', c') → ∀ F κ ρ S, VRel F κ ρ S v c → ∃ d S' κ', evE cd e ρ S = some (d, S') ∧ Ex ρ κ S v κ' S' v' ∧ VRel F κ' ρ S' v' c' ∧ ArOk F κ' ρ S' v' a d
def SEsV (e : Es) : Prop := ∀ v c us v' c', vEs cl e v c = some (us, v', c') → ∀ F κ ρ S, VRel F κ ρ S v c → ∃ ds S' κ', evEs cd e ρ S = some (ds, S') ∧ Ex ρ κ S v κ' S' v' ∧ VRel F κ' ρ S' v' c' ∧ Rds (Av F κ' ρ v') κ' S' ds us
def ArsOk (F : Nat → Prop) (κ : List Nat) (ρ : Env) (S : Sto) (v : VEnv) : List Ar → List D → Prop
  | [], [] => True
  | a :: as, d :: ds => ArOk F κ ρ S v a d ∧ ArsOk F κ ρ S v as ds
  | _, _ => False
def SAsV (e : Es) : Prop := ∀ v c as v' c', vAs cl e v c = some (as, v', c') → ∀ F κ ρ S, VRel F κ ρ S v c → ∃ ds S' κ', evEs cd e ρ S = some (ds, S') ∧ Ex ρ κ S v κ' S' v' ∧ VRel F κ' ρ S' v' c' ∧ ArsOk F κ' ρ S' v' as ds
def OptR (A : Nat → Prop) (κ : List Nat) (S : Sto) : Option D → Option U → Prop
  | none, none => True
  | some d, some u => Rd A κ S d u
  | _, _ => False
def SOV (e : Eo) : Prop := ∀ v c o v' c', vO cl e v c = some (o, v', c') → ∀ F κ ρ S, VRel F κ ρ S v c → ∃ od S' κ', evO cd e ρ S = some (od, S') ∧ Ex ρ κ S v κ' S' v' ∧ VRel F κ' ρ S' v' c' ∧ OptR (Av F κ' ρ v') κ' S' od o
/-- a source: its items, and the lists that stay -/
structure SrcOk (F : Nat → Prop) (κ : List Nat) (ρ : Env) (S : Sto) (v : VEnv) (s : SrcU) (t : Src) : Prop where
  items : Rds (Av F κ ρ v) κ S t.items s.items
  held : ∀ p, p ∈ t.held → itemsAt S p.1 = some p.2 ∧ p.1 ∉ κ ∧ ¬ Own ρ (lockV v s.locks) p.1
def SIV (e : I) : Prop := ∀ v c s v' c', vI cl e v c = some (s, v', c') → ∀ F κ ρ S, VRel F κ ρ S v c → ∃ t S' κ', evI cd e ρ S = some (t, S') ∧ Ex ρ κ S v κ' S' v' ∧ VRel F κ' ρ S' v' c' ∧ SrcOk F κ' ρ S' v' s t
/-- calls -/
def CallV : Prop := ∀ f us c w c', cl f us c = some (w, c') → ∀ F κ S ds, VRel F κ (ds.map some) S (us.map some) c → ∃ d S' κ', cd f ds S = some (d, S') ∧ Ex [] κ S [] κ' S' [] ∧ Res F [] S w d κ' S' [] c'
end
section
variable {cl : Nat → List (Md × U) → Ce → Option (W × Ce)} {cd : Nat → List D → Sto → R D}
variable {F F' : Nat → Prop} {κ κ' κ1 κ2 : List Nat} {ρ : Env} {S S' S1 S2 : Sto} {v v' v1 v2 : VEnv} {c c' : Ce} {d : D} {u : U}
theorem isVar_eq {e : E} {i : Nat} (h : isVar e = some i) : e = .var i := by
  cases e <;> first | (cases h; rfl) | cases h
theorem ev_var {i : Nat} (h : ρ[i]? = some (some d)) : evE cd (.var i) ρ S = some (d, S) := by
  simp only [evE, h]
theorem ar_ok {e : E} (h : SEV cl cd e) : SAV cl cd e := by
  intro v c a v' c' e1 F κ ρ S r
  unfold arE at e1
  split at e1
  · rename_i i hi
    obtain rfl := isVar_eq hi
    unfold slotAr at e1
    split at e1
    · rename_i p hp
      cases e1
      obtain ⟨m, u⟩ := p
      obtain ⟨d, h1, _⟩ := r.at hp
      exact ⟨d, S, κ, ev_var h1, .refl, r, h1⟩
    · cases e1
  · unfold arOf at e1
    obtain ⟨w, v1, c1, e2, e1⟩ := vb_eq e1
    cases e1
    obtain ⟨d, S', κ', q1, q2, q3⟩ := h v c w v' c' e2 F κ ρ S r
    exact ⟨d, S', κ', q1, q2, q3.shared.1, q3.shared.2⟩
/-- behind an operation on what was reckoned -/
theorem fin_op {e : E} {w : W} {r : R D} (x : Ex ρ κ S v κ1 S1 v1) (h : VRel F κ1 ρ S1 v1 c) (o : OpP (Av F κ1 ρ v1) κ1 S1 w r) (he : evE cd e ρ S = r) : ∃ d S' κ', evE cd e ρ S = some (d, S') ∧ Ex ρ κ S v κ' S' v1 ∧ Res F ρ S w d κ' S' v1 c := by
  obtain ⟨d, S', e1, x1, q⟩ := o.res h
  exact ⟨d, S', κ1, he.trans e1, x.trans x1, q.from x.fm.le⟩
theorem lift_eq {o : Option W} {r : W × VEnv × Ce} (h : lift o v c = some r) : ∃ w, o = some w ∧ r = (w, v, c) := by
  cases o with
  | none => cases h
  | some w => cases h; exact ⟨w, rfl, rfl⟩
theorem liftB_eq {o : Option Bool} {r : W × VEnv × Ce} (h : liftB o v c = some r) : ∃ b, o = some b ∧ r = ((false, .bl b), v, c) := by
  cases o with
  | none => cases h
  | some w => cases h; exact ⟨w, rfl, rfl⟩
/-- two arguments, then what is done with them -/
theorem two_ok {ea eb e : E} (ha : SAV cl cd ea) (hb : SAV cl cd eb) {g : U → U → VEnv → Ce → VR W} {gd : Sto → D → D → R D}
    (hv : vE cl e v c = vb (arE ea v c (vE cl ea v c)) fun x v c => vb (arE eb v c (vE cl eb v c)) fun y v c => match resA v x, resA v y with
      | some x, some y => g x y v c
      | _, _ => none)
    (hd : evE cd e ρ S = bnd (evE cd ea ρ S) fun x S1 => bnd (evE cd eb ρ S1) fun y S2 => gd S2 x y)
    (hg : ∀ x y v c r κ S dx dy, VRel F κ ρ S v c → RdP (Av F κ ρ v) κ S dx x → RdP (Av F κ ρ v) κ S dy y → g x y v c = some r → ∃ w, r = (w, v, c) ∧ OpP (Av F κ ρ v) κ S w (gd S dx dy))
    {w : W} (e1 : vE cl e v c = some (w, v', c')) (r : VRel F κ ρ S v c) : ∃ d S' κ', evE cd e ρ S = some (d, S') ∧ Ex ρ κ S v κ' S' v' ∧ Res F ρ S w d κ' S' v' c' := by
  rw [hv] at e1
  obtain ⟨a, v1, c1, ea1, e1⟩ := vb_eq e1
  obtain ⟨b, v2, c2, eb1, e1⟩ := vb_eq e1
  obtain ⟨da, S1, κ1, q1, x1, r1, o1⟩ := ha v c a v1 c1 ea1 F κ ρ S r
  obtain ⟨db, S2, κ2, q2, x2, r2, o2⟩ := hb v1 c1 b v2 c2 eb1 F κ1 ρ S1 r1
  have o1 := o1.ex x2
  split at e1
  · rename_i x y hx hy
    obtain ⟨w', ew, op⟩ := hg x y v2 c2 _ κ2 S2 da db r2 (o1.res r2 hx) (o2.res r2 hy) e1
    cases ew
    exact fin_op (x1.trans x2) r2 op (by rw [hd, q1, bnd_some, q2, bnd_some])
  · cases e1
theorem one_ok {ea e : E} (ha : SAV cl cd ea) {g : U → VEnv → Ce → VR W} {gd : Sto → D → R D}
    (hv : vE cl e v c = vb (arE ea v c (vE cl ea v c)) fun x v c => match resA v x with
      | some x => g x v c
      | none => none)
    (hd : evE cd e ρ S = bnd (evE cd ea ρ S) fun x S1 => gd S1 x)
    (hg : ∀ x v c r κ S dx, VRel F κ ρ S v c → RdP (Av F κ ρ v) κ S dx x → g x v c = some r → ∃ w, r = (w, v, c) ∧ OpP (Av F κ ρ v) κ S w (gd S dx))
    {w : W} (e1 : vE cl e v c = some (w, v', c')) (r : VRel F κ ρ S v c) : ∃ d S' κ', evE cd e ρ S = some (d, S') ∧ Ex ρ κ S v κ' S' v' ∧ Res F ρ S w d κ' S' v' c' := by
  rw [hv] at e1
  obtain ⟨a, v1, c1, ea1, e1⟩ := vb_eq e1
  obtain ⟨da, S1, κ1, q1, x1, r1, o1⟩ := ha v c a v1 c1 ea1 F κ ρ S r
  split at e1
  · rename_i x hx
    obtain ⟨w', ew, op⟩ := hg x v1 c1 _ κ1 S1 da r1 (o1.res r1 hx) e1
    cases ew
    exact fin_op x1 r1 op (by rw [hd, q1, bnd_some])
  · cases e1
theorem ok_var (i : Nat) : SEV cl cd (.var i) := by
  intro v c w v' c' e1 F κ ρ S r
  simp only [vE] at e1
  split at e1
  · rename_i u hu
    cases e1
    obtain ⟨d, h1, h2⟩ := r.shr i u hu
    exact ⟨d, S, κ, ev_var h1, .refl, .inl ⟨rfl, r, h2⟩⟩
  · rename_i u hu
    cases e1
    obtain ⟨n, h1, h2, h3, h4⟩ := r.own i u hu
    have hi := lt_of_get hu
    have g : ∀ j, (v.set i (some (Md.shr, u)))[j]? = if i = j then some (some (Md.shr, u)) else v[j]? := fun j => by
      by_cases z : i = j
      · subst z; rw [if_pos rfl, List.getElem?_set_self hi]
      · rw [if_neg z, List.getElem?_set_ne z]
    have hown : ∀ j w, (v.set i (some (Md.shr, u)))[j]? = some (some (.own, w)) → j ≠ i ∧ v[j]? = some (some (.own, w)) := fun j w z => by
      rw [g] at z
      by_cases q : i = j
      · rw [if_pos q] at z; cases z
      · rw [if_neg q] at z; exact ⟨Ne.symm q, z⟩
    have hO : ∀ m, Own ρ (v.set i (some (Md.shr, u))) m → Own ρ v m ∧ m ≠ n := fun m ⟨j, w, z1, z2⟩ => by
      obtain ⟨y1, y2⟩ := hown j w z1
      exact ⟨⟨j, w, y2, z2⟩, fun q => y1 (r.dis j i n w u y2 hu (q ▸ z2) h1)⟩
    have hA : ∀ m, Av F κ ρ (v.set i (some (Md.shr, u))) m → Av F κ ρ v m := fun m z => by
      rcases z with z | z | z
      · exact .inl z
      · exact .inr (.inl z)
      · exact .inr (.inr (hO m z).1)
    have up : ∀ {d u'}, Rd (Av F κ ρ v) κ S d u' → Rd (Av F κ ρ (v.set i (some (Md.shr, u)))) κ S d u' := fun z => z.up (fun _ _ _ => rfl) (fun m _ => hA m) (List.prefix_refl κ)
    have ups : ∀ {d u'}, Rds (Av F κ ρ v) κ S d u' → Rds (Av F κ ρ (v.set i (some (Md.shr, u)))) κ S d u' := fun z => z.up (fun _ _ _ => rfl) (fun m _ => hA m) (List.prefix_refl κ)
    have obs : ∀ {d u'}, Ob (Av F κ ρ v) κ S d u' → Ob (Av F κ ρ (v.set i (some (Md.shr, u)))) κ S d u' := fun z => z.to (fun _ _ _ => rfl) (fun m _ => hA m) (List.prefix_refl κ) rfl
    have hn : ¬ Av F κ ρ (v.set i (some (Md.shr, u))) n := fun z => by
      rcases z with z | z | z
      · exact h2 z
      · exact h3 z
      · exact (hO n z).2 rfl
    have hd : Rd (Av F κ ρ (v.set i (some (Md.shr, u)))) κ S (.ref n) u := h4.rd hn fun m _ => hA m
    have hr : VRel F κ ρ S (v.set i (some (Md.shr, u))) c := by
      refine ⟨by simp [r.len], fun j w z => ?_, fun j w z => ?_, fun j w z => ?_, fun j k m w w' z1 z2 => r.dis j k m w w' (hown j w z1).2 (hown k w' z2).2, r.fl, r.kl, r.knd, r.kf, fun k us z => ?_⟩
      · rw [g] at z
        by_cases q : i = j
        · rw [if_pos q] at z; cases z; subst q; exact ⟨_, h1, hd⟩
        · rw [if_neg q] at z
          obtain ⟨d, y1, y2⟩ := r.shr j w z
          exact ⟨d, y1, up y2⟩
      · rw [g] at z
        by_cases q : i = j
        · rw [if_pos q] at z; cases z
        · rw [if_neg q] at z
          obtain ⟨m, y1, y2, y3, y4⟩ := r.lck j w z
          exact ⟨m, y1, y2, fun x => y3 (hO m x).1, obs y4⟩
      · obtain ⟨m, y1, y2, y3, y4⟩ := r.own j w (hown j w z).2
        exact ⟨m, y1, y2, y3, obs y4⟩
      · obtain ⟨m, ds, y1, y2, y3⟩ := r.kc k us z
        exact ⟨m, ds, y1, y2, ups y3⟩
    refine ⟨.ref n, S, κ, ev_var h1, ⟨List.prefix_refl κ, fun _ z => .inl z, ⟨Nat.le_refl _, fun _ _ _ _ => rfl⟩, fun j w z => ⟨w, (hown j w z).2⟩, fun j w z => ?_, by simp⟩, .inl ⟨rfl, hr, hd⟩⟩
    rw [g] at z
    by_cases q : i = j
    · rw [if_pos q] at z; cases z
    · rw [if_neg q] at z; exact z
  · cases e1
theorem ok_ix {a b : E} (ha : SAV cl cd a) (hb : SAV cl cd b) : SEV cl cd (.ix a b) := by
  intro v c w v' c' e1 F κ ρ S r
  refine two_ok ha hb (g := fun x y v c => match ixU c x y with
      | some u => some ((false, u), v, c)
      | none => none) (gd := ixD) (by simp only [vE] <;> rfl) (by simp only [evE] <;> rfl) ?_ e1 r
  intro x y v c r κ S dx dy h hx hy e
  split at e
  · rename_i u hu
    cases e
    refine ⟨_, rfl, ?_⟩
    unfold ixU at hu
    split at hu
    · rename_i i
      cases hy.intAt
      split at hu
      · obtain ⟨ds, rfl, h1⟩ := hx.tupAt
        obtain ⟨d, k1, k2⟩ := h1.atI hu
        exact opp_val k2 (by simp only [ixD, k1]; rfl)
      · obtain ⟨n, ds, rfl, h1, h2⟩ := hx.items rfl
        obtain ⟨d, k1, k2⟩ := h2.atI hu
        exact opp_val k2 (by simp only [ixD, h1, Option.bind_some, k1]; rfl)
      · obtain ⟨n, ds, rfl, h1, h2⟩ := hx.items rfl
        obtain ⟨d, k1, k2⟩ := h2.atI hu
        exact opp_val k2 (by simp only [ixD, h1, Option.bind_some, k1]; rfl)
      · rename_i k
        cases hc : c[k]? with
        | none => rw [hc] at hu; cases hu
        | some us =>
          rw [hc] at hu
          obtain ⟨n, ds, y1, y2, y3⟩ := h.kc k us hc
          have hdx : dx = .ref n := by
            rcases hx with hx | ⟨n', rfl, ⟨ds', us', q, _⟩ | ⟨ks', ds', us', q, _⟩⟩
            · cases hx with
              | cel z => rw [y1] at z; cases z; rfl
            · cases q
            · cases q
          subst hdx
          obtain ⟨d, k1, k2⟩ := y3.atI hu
          have hi : itemsAt S n = some ds := by unfold itemsAt; rw [y2]
          exact opp_val k2 (by simp only [ixD, hi, Option.bind_some, k1]; rfl)
      · rename_i z
        split at hu
        · rename_i hz
          cases hk : atI z.cps.toList i with
          | none => rw [hk] at hu; cases hu
          | some n =>
            rw [hk] at hu; cases hu
            cases hx.strAt
            exact opp_val (.str _) (by simp only [ixD, if_pos hz, hk]; rfl)
        · cases hu
      · cases hu
    · cases hu
  · cases e
end
end Ev
end
section
set_option linter.all false
set_option maxRecDepth 100000
set_option maxHeartbeats 4000000
/-! Expressions, on. -/
namespace Ev
open PySem L2
section
variable {cl : Nat → List (Md × U) → Ce → Option (W × Ce)} {cd : Nat → List D → Sto → R D}
variable {F F' : Nat → Prop} {κ κ' κ1 κ2 : List Nat} {ρ : Env} {S S' S1 S2 : Sto} {v v' v1 v2 : VEnv} {c c' : Ce} {d : D} {u : U}
theorem ok_lit (d : D) : SEV cl cd (.lit d) := by
  intro v c w v' c' e1 F κ ρ S r
  simp only [vE] at e1
  split at e1
  · rename_i u hu
    cases e1
    exact ⟨d, S, κ, by simp only [evE], .refl, .inl ⟨rfl, r, lit_rd hu⟩⟩
  · cases e1
theorem es_nil : SEsV cl cd .nil := by
  intro v c us v' c' e1 F κ ρ S r
  simp only [vEs] at e1
  cases e1
  exact ⟨[], S, κ, by simp only [evEs], .refl, r, .nil⟩
theorem es_cons {e : E} {es : Es} (h : SEV cl cd e) (hs : SEsV cl cd es) : SEsV cl cd (.cons e es) := by
  intro v c us v' c' e1 F κ ρ S r
  simp only [vEs] at e1
  obtain ⟨w, v1, c1, q1, e1⟩ := vb_eq e1
  obtain ⟨ws, v2, c2, q2, e1⟩ := vb_eq e1
  cases e1
  obtain ⟨d, S1, κ1, y1, x1, r1⟩ := h _ _ _ _ _ q1 F κ ρ S r
  obtain ⟨ds, S2, κ2, y2, x2, r2, z2⟩ := hs _ _ _ _ _ q2 F κ1 ρ S1 r1.shared.1
  exact ⟨d :: ds, S2, κ2, by simp only [evEs, y1, bnd_some, y2], x1.trans x2, r2, .cons (r1.shared.2.ex x2) z2⟩
theorem ok_tup {es : Es} (hs : SEsV cl cd es) : SEV cl cd (.tup es) := by
  intro v c w v' c' e1 F κ ρ S r
  simp only [vE] at e1
  obtain ⟨ws, v2, c2, q2, e1⟩ := vb_eq e1
  obtain ⟨w, hw, e1⟩ := lift_eq e1
  cases e1
  obtain ⟨ds, S2, κ2, y2, x2, r2, z2⟩ := hs _ _ _ _ _ q2 F κ ρ S r
  exact fin_op x2 r2 (opp_newT z2 hw) (by simp only [evE, y2, bnd_some])
theorem ok_lst {es : Es} (hs : SEsV cl cd es) : SEV cl cd (.lst es) := by
  intro v c w v' c' e1 F κ ρ S r
  simp only [vE] at e1
  obtain ⟨ws, v2, c2, q2, e1⟩ := vb_eq e1
  obtain ⟨w, hw, e1⟩ := lift_eq e1
  cases e1
  obtain ⟨ds, S2, κ2, y2, x2, r2, z2⟩ := hs _ _ _ _ _ q2 F κ ρ S r
  exact fin_op x2 r2 (opp_newL z2 hw) (by simp only [evE, y2, bnd_some])
theorem ok_bin {op : Operator} {a b : E} (ha : SAV cl cd a) (hb : SAV cl cd b) : SEV cl cd (.bin op a b) := by
  intro v c w v' c' e1 F κ ρ S r
  refine two_ok ha hb (g := fun x y v c => lift (binU op x y) v c) (gd := fun S x y => binD S op x y) (by simp only [vE] <;> rfl) (by simp only [evE] <;> rfl) ?_ e1 r
  intro x y v c r κ S dx dy h hx hy e
  obtain ⟨w, hw, e⟩ := lift_eq e
  exact ⟨w, e, op_bin hx hy hw⟩
theorem ok_cmp {op : CmpOp} {a b : E} (ha : SAV cl cd a) (hb : SAV cl cd b) : SEV cl cd (.cmp op a b) := by
  intro v c w v' c' e1 F κ ρ S r
  refine two_ok ha hb (g := fun x y v c => liftB (cmpU op x y) v c) (gd := fun S x y => (cmpD S op x y).map fun k => (.bl k, S)) (by simp only [vE] <;> rfl) (by simp only [evE] <;> rfl) ?_ e1 r
  intro x y v c r κ S dx dy h hx hy e
  obtain ⟨b, hw, e⟩ := liftB_eq e
  exact ⟨_, e, opp_val (.bl b) (by rw [op_cmp hx hy hw]; rfl)⟩
theorem ok_b2 {b : B2} {a a' : E} (ha : SAV cl cd a) (hb : SAV cl cd a') : SEV cl cd (.b2 b a a') := by
  intro v c w v' c' e1 F κ ρ S r
  refine two_ok ha hb (g := fun x y v c => lift (b2U b x y) v c) (gd := fun S x y => b2D S b x y) (by simp only [vE] <;> rfl) (by simp only [evE] <;> rfl) ?_ e1 r
  intro x y v c r κ S dx dy h hx hy e
  obtain ⟨w, hw, e⟩ := lift_eq e
  exact ⟨w, e, op_b2 hx hy hw⟩
theorem ok_rng {t : Bool} {a a' : E} (ha : SAV cl cd a) (hb : SAV cl cd a') : SEV cl cd (.rng t a a') := by
  intro v c w v' c' e1 F κ ρ S r
  refine two_ok ha hb (g := fun x y v c => lift (rngU t x y) v c) (gd := fun S x y => rngD S t x y) (by simp only [vE] <;> rfl) (by simp only [evE] <;> rfl) ?_ e1 r
  intro x y v c r κ S dx dy h hx hy e
  obtain ⟨w, hw, e⟩ := lift_eq e
  exact ⟨w, e, op_rng hx hy hw⟩
theorem ok_b1 {b : B1} {a : E} (ha : SAV cl cd a) : SEV cl cd (.b1 b a) := by
  intro v c w v' c' e1 F κ ρ S r
  refine one_ok ha (g := fun x v c => lift (b1U b x) v c) (gd := fun S x => b1D S b x) (by simp only [vE] <;> rfl) (by simp only [evE] <;> rfl) ?_ e1 r
  intro x v c r κ S dx h hx e
  obtain ⟨w, hw, e⟩ := lift_eq e
  exact ⟨w, e, op_b1 hx hw⟩
theorem ok_rev {a : E} (ha : SAV cl cd a) : SEV cl cd (.rev a) := by
  intro v c w v' c' e1 F κ ρ S r
  refine one_ok ha (g := fun x v c => lift (revU x) v c) (gd := fun S x => revD S x) (by simp only [vE] <;> rfl) (by simp only [evE] <;> rfl) ?_ e1 r
  intro x v c r κ S dx h hx e
  obtain ⟨w, hw, e⟩ := lift_eq e
  exact ⟨w, e, op_rev hx hw⟩
theorem ok_sm {b : SM} {a a' : E} (ha : SEV cl cd a) (hb : SAV cl cd a') : SEV cl cd (.sm b a a') := by
  intro v c w v' c' e1 F κ ρ S r
  simp only [vE] at e1
  obtain ⟨w1, v1, c1, ea1, e1⟩ := vb_eq e1
  obtain ⟨da, S1, κ1, q1, x1, r1⟩ := ha v c w1 v1 c1 ea1 F κ ρ S r
  have sh := r1.shared
  split at e1
  · rename_i t ht
    have hd : da = .str t := by
      have z := sh.2
      rw [ht] at z
      cases z; rfl
    subst hd
    obtain ⟨y, v2, c2, ea2, e1⟩ := vb_eq e1
    obtain ⟨db, S2, κ2, q2, x2, r2, o2⟩ := hb v1 c1 y v2 c2 ea2 F κ1 ρ S1 sh.1
    split at e1
    · rename_i y hy
      obtain ⟨w', hw, e1⟩ := lift_eq e1
      cases e1
      exact fin_op (x1.trans x2) r2 (op_sm (.inl (.str t)) (o2.res r2 hy) hw) (by simp only [evE, q1, bnd_some, isS, if_true, q2])
    · cases e1
  · cases e1
theorem ok_isi {t : Ty} {a : E} (ha : SAV cl cd a) : SEV cl cd (.isi a t) := by
  intro v c w v' c' e1 F κ ρ S r
  refine one_ok ha (g := fun x v c => liftB (isiU x t) v c) (gd := fun S x => (isiD S x t).map fun k => (.bl k, S)) (by simp only [vE] <;> rfl) (by simp only [evE] <;> rfl) ?_ e1 r
  intro x v c r κ S dx h hx e
  obtain ⟨b, hw, e⟩ := liftB_eq e
  exact ⟨_, e, opp_val (.bl b) (by rw [hx.isi hw]; rfl)⟩
theorem ok_not {a : E} (ha : SAV cl cd a) : SEV cl cd (.not a) := by
  intro v c w v' c' e1 F κ ρ S r
  refine one_ok ha (g := fun x v c => liftB ((truthU x).map (!·)) v c) (gd := fun S x => (truthD S x).map fun k => (.bl (!k), S)) (by simp only [vE] <;> rfl) (by simp only [evE] <;> rfl) ?_ e1 r
  intro x v c r κ S dx h hx e
  obtain ⟨b, hw, e⟩ := liftB_eq e
  exact ⟨_, e, opp_val (.bl b) (by rw [hx.tru (opt_map_not hw)]; simp)⟩
theorem ok_neg {a : E} (ha : SAV cl cd a) : SEV cl cd (.neg a) := by
  intro v c w v' c' e1 F κ ρ S r
  simp only [vE] at e1
  obtain ⟨a1, v1, c1, ea1, e1⟩ := vb_eq e1
  obtain ⟨da, S1, κ1, q1, x1, r1, o1⟩ := ha v c a1 v1 c1 ea1 F κ ρ S r
  split at e1
  · rename_i i hx
    cases e1
    cases (o1.res r1 hx).intAt
    exact ⟨_, S1, κ1, by simp only [evE, q1, bnd_some], x1, .inl ⟨rfl, r1, .int _⟩⟩
  · cases e1
theorem ok_chain {op op' : CmpOp} {a b b' : E} (ha : SAV cl cd a) (hb : SAV cl cd b) (hb' : SAV cl cd b') : SEV cl cd (.chain op op' a b b') := by
  intro v c w v' c' e1 F κ ρ S r
  simp only [vE] at e1
  obtain ⟨a1, v1, c1, ea1, e1⟩ := vb_eq e1
  obtain ⟨a2, v2, c2, ea2, e1⟩ := vb_eq e1
  obtain ⟨da, S1, κ1, q1, x1, r1, o1⟩ := ha v c a1 v1 c1 ea1 F κ ρ S r
  obtain ⟨db, S2, κ2, q2, x2, r2, o2⟩ := hb v1 c1 a2 v2 c2 ea2 F κ1 ρ S1 r1
  have o1 := o1.ex x2
  split at e1
  · rename_i x y hx hy
    split at e1
    · rename_i hc
      obtain ⟨a3, v3, c3, ea3, e1⟩ := vb_eq e1
      obtain ⟨dz, S3, κ3, q3, x3, r3, o3⟩ := hb' v2 c2 a3 v3 c3 ea3 F κ2 ρ S2 r2
      have o2 := o2.ex x3
      have hc' := op_cmp (o1.res r2 hx) ((o2 : ArOk _ _ _ _ _ _ _) |> fun _ => (by assumption : ArOk F κ2 ρ S2 v2 a2 db).res r2 hy) hc
      split at e1
      · rename_i y' z hy' hz
        obtain ⟨k, hk, e1⟩ := liftB_eq e1
        cases e1
        have hk' := op_cmp (o2.res r3 hy') (o3.res r3 hz) hk
        refine ⟨.bl k, S3, κ3, ?_, (x1.trans x2).trans x3, .inl ⟨rfl, r3, .bl k⟩⟩
        simp only [evE, q1, bnd_some, q2, hc', q3, hk', Option.map_some]
      · cases e1
    · rename_i hc
      cases e1
      have hc' := op_cmp (o1.res r2 hx) (o2.res r2 hy) hc
      exact ⟨.bl false, S2, κ2, by simp only [evE, q1, bnd_some, q2, hc'], x1.trans x2, .inl ⟨rfl, r2, .bl false⟩⟩
    · cases e1
  · cases e1
theorem ok_and {a b : E} (ha : SEV cl cd a) (hb : SEV cl cd b) : SEV cl cd (.and a b) := by
  intro v c w v' c' e1 F κ ρ S r
  simp only [vE] at e1
  obtain ⟨w1, v1, c1, ea1, e1⟩ := vb_eq e1
  obtain ⟨da, S1, κ1, q1, x1, r1⟩ := ha v c w1 v1 c1 ea1 F κ ρ S r
  have sh := r1.shared
  split at e1
  · rename_i ht
    have ht' : truthD S1 da = some true := RdP.tru (.inl sh.2) ht
    obtain ⟨d, S2, κ2, q2, x2, r2⟩ := hb _ _ _ _ _ e1 F κ1 ρ S1 sh.1
    exact ⟨d, S2, κ2, by simp only [evE, q1, bnd_some, ht', q2], x1.trans x2, r2.from x1.fm.le⟩
  · rename_i ht
    have ht' : truthD S1 da = some false := RdP.tru (.inl sh.2) ht
    cases e1
    exact ⟨da, S1, κ1, by simp only [evE, q1, bnd_some, ht'], x1, .inl ⟨rfl, sh⟩⟩
  · cases e1
theorem ok_or {a b : E} (ha : SEV cl cd a) (hb : SEV cl cd b) : SEV cl cd (.or a b) := by
  intro v c w v' c' e1 F κ ρ S r
  simp only [vE] at e1
  obtain ⟨w1, v1, c1, ea1, e1⟩ := vb_eq e1
  obtain ⟨da, S1, κ1, q1, x1, r1⟩ := ha v c w1 v1 c1 ea1 F κ ρ S r
  have sh := r1.shared
  split at e1
  · rename_i ht
    have ht' : truthD S1 da = some true := RdP.tru (.inl sh.2) ht
    cases e1
    exact ⟨da, S1, κ1, by simp only [evE, q1, bnd_some, ht'], x1, .inl ⟨rfl, sh⟩⟩
  · rename_i ht
    have ht' : truthD S1 da = some false := RdP.tru (.inl sh.2) ht
    obtain ⟨d, S2, κ2, q2, x2, r2⟩ := hb _ _ _ _ _ e1 F κ1 ρ S1 sh.1
    exact ⟨d, S2, κ2, by simp only [evE, q1, bnd_some, ht', q2], x1.trans x2, r2.from x1.fm.le⟩
  · cases e1
theorem ok_ite {q a b : E} (hq : SAV cl cd q) (ha : SEV cl cd a) (hb : SEV cl cd b) : SEV cl cd (.ite q a b) := by
  intro v c w v' c' e1 F κ ρ S r
  simp only [vE] at e1
  obtain ⟨a1, v1, c1, ea1, e1⟩ := vb_eq e1
  obtain ⟨da, S1, κ1, q1, x1, r1, o1⟩ := hq v c a1 v1 c1 ea1 F κ ρ S r
  split at e1
  · rename_i x hx
    have rp := o1.res r1 hx
    split at e1
    · rename_i ht
      have ht' := rp.tru ht
      obtain ⟨d, S2, κ2, q2, x2, r2⟩ := ha _ _ _ _ _ e1 F κ1 ρ S1 r1
      exact ⟨d, S2, κ2, by simp only [evE, q1, bnd_some, ht', q2], x1.trans x2, r2.from x1.fm.le⟩
    · rename_i ht
      have ht' := rp.tru ht
      obtain ⟨d, S2, κ2, q2, x2, r2⟩ := hb _ _ _ _ _ e1 F κ1 ρ S1 r1
      exact ⟨d, S2, κ2, by simp only [evE, q1, bnd_some, ht', q2], x1.trans x2, r2.from x1.fm.le⟩
    · cases e1
  · cases e1
theorem o_none : SOV cl cd .none := by
  intro v c o v' c' e1 F κ ρ S r
  simp only [vO] at e1
  cases e1
  exact ⟨none, S, κ, by simp only [evO], .refl, r, trivial⟩
theorem o_some {e : E} (h : SEV cl cd e) : SOV cl cd (.some e) := by
  intro v c o v' c' e1 F κ ρ S r
  simp only [vO] at e1
  obtain ⟨w, v1, c1, q1, e1⟩ := vb_eq e1
  cases e1
  obtain ⟨d, S1, κ1, y1, x1, r1⟩ := h _ _ _ _ _ q1 F κ ρ S r
  exact ⟨some d, S1, κ1, by simp only [evO, y1, bnd_some], x1, r1.shared.1, r1.shared.2⟩
theorem OptR.ex {od : Option D} {o : Option U} (h : OptR (Av F κ ρ v) κ S od o) (x : Ex ρ κ S v κ' S' v') : OptR (Av F κ' ρ v') κ' S' od o := by
  cases od <;> cases o <;> first | exact h | exact Rd.ex h x
theorem OptR.int {A : Nat → Prop} {od : Option D} {o : Option U} {i : Option Int} (h : OptR A κ S od o) (e : oIntU o = some i) : oInt od = some i := by
  cases o with
  | none => cases od <;> first | exact e | cases h
  | some u =>
    cases od with
    | none => cases h
    | some d =>
      cases u with
      | int k =>
        have h : Rd A κ S d (.int k) := h
        cases h
        exact e
      | _ => cases e
theorem ok_sl {a : E} {lo hi : Eo} (ha : SAV cl cd a) (hl : SOV cl cd lo) (hh : SOV cl cd hi) : SEV cl cd (.sl a lo hi) := by
  intro v c w v' c' e1 F κ ρ S r
  simp only [vE] at e1
  obtain ⟨a1, v1, c1, ea1, e1⟩ := vb_eq e1
  obtain ⟨l, v2, c2, el, e1⟩ := vb_eq e1
  obtain ⟨h, v3, c3, eh, e1⟩ := vb_eq e1
  obtain ⟨da, S1, κ1, q1, x1, r1, o1⟩ := ha v c a1 v1 c1 ea1 F κ ρ S r
  obtain ⟨dl, S2, κ2, q2, x2, r2, o2⟩ := hl _ _ _ _ _ el F κ1 ρ S1 r1
  obtain ⟨dh, S3, κ3, q3, x3, r3, o3⟩ := hh _ _ _ _ _ eh F κ2 ρ S2 r2
  split at e1
  · rename_i x l' h' hx hl' hh'
    obtain ⟨w, hw, e1⟩ := lift_eq e1
    cases e1
    have rp := ((o1.ex x2).ex x3).res r3 hx
    have e2 := (o2.ex x3).int hl'
    have e3 := o3.int hh'
    exact fin_op ((x1.trans x2).trans x3) r3 (op_sl rp hw) (by simp only [evE, q1, bnd_some, q2, q3, sl3, e2, e3])
  · cases e1
/-- an owned list is changed -/
theorem VRel.setObj (r : VRel F κ ρ S v c) {i n : Nat} {u : U} (hi : v[i]? = some (some (.own, u))) (hn : ρ[i]? = some (some (.ref n))) {o : O} {un : U}
    (q : ∀ (A : Nat → Prop) (S' : Sto), S'[n]? = some o → (∀ {d : List D} {u' : List U}, Rds (Av F κ ρ v) κ S d u' → Rds A κ S' d u') → Ob A κ S' n un) :
    VRel F κ ρ (S.set n o) (v.set i (some (.own, un))) c ∧ Ex ρ κ S v κ (S.set n o) (v.set i (some (.own, un))) := by
  have qq := q
  have hil := lt_of_get hi
  obtain ⟨n', e, nf, nk, ob⟩ := r.own i u hi
  rw [hn] at e; cases e
  have hnl := ob.lt
  have g : ∀ j, (v.set i (some (Md.own, un)))[j]? = if i = j then some (some (Md.own, un)) else v[j]? := fun j => by
    by_cases z : i = j
    · subst z; rw [if_pos rfl, List.getElem?_set_self hil]
    · rw [if_neg z, List.getElem?_set_ne z]
  have hown : ∀ (j : Nat) (w : U), (v.set i (some (Md.own, un)))[j]? = some (some (Md.own, w)) → ∃ w' : U, v[j]? = some (some (Md.own, w')) := fun j w z => by
    rw [g] at z
    by_cases q : i = j
    · subst q; exact ⟨u, hi⟩
    · rw [if_neg q] at z; exact ⟨w, z⟩
  have hO : ∀ m, Own ρ (v.set i (some (Md.own, un))) m → Own ρ v m := fun m ⟨j, w, z1, z2⟩ => by
    obtain ⟨w', y⟩ := hown j w z1
    exact ⟨j, w', y, z2⟩
  have on : Own ρ v n := ⟨i, u, hi, hn⟩
  have hA : ∀ m, Av F κ ρ (v.set i (some (Md.own, un))) m → Av F κ ρ v m := fun m z => by
    rcases z with z | z | z
    · exact .inl z
    · exact .inr (.inl z)
    · exact .inr (.inr (hO m z))
  have hS : ∀ m, m ≠ n → (S.set n o)[m]? = S[m]? := fun m z => List.getElem?_set_ne (Ne.symm z)
  have hS' : ∀ m, ¬ Av F κ ρ v m → m < S.length → (S.set n o)[m]? = S[m]? := fun m z _ => hS m fun q => z (q ▸ .inr (.inr on))
  have up : ∀ {d u'}, Rd (Av F κ ρ v) κ S d u' → Rd (Av F κ ρ (v.set i (some (Md.own, un)))) κ (S.set n o) d u' := fun z => z.up hS' (fun m _ => hA m) (List.prefix_refl κ)
  have ups : ∀ {d u'}, Rds (Av F κ ρ v) κ S d u' → Rds (Av F κ ρ (v.set i (some (Md.own, un)))) κ (S.set n o) d u' := fun z => z.up hS' (fun m _ => hA m) (List.prefix_refl κ)
  have obs : ∀ {m u'}, m ≠ n → Ob (Av F κ ρ v) κ S m u' → Ob (Av F κ ρ (v.set i (some (Md.own, un)))) κ (S.set n o) m u' := fun hm z => z.to hS' (fun m _ => hA m) (List.prefix_refl κ) (hS _ hm)
  constructor
  · refine ⟨by simp [r.len], fun j w z => ?_, fun j w z => ?_, fun j w z => ?_, fun j k m w w' z1 z2 z3 z4 => ?_, fun m z => by simp; exact r.fl m z, r.kl, r.knd, r.kf, fun k ws z => ?_⟩
    · rw [g] at z
      by_cases q : i = j
      · rw [if_pos q] at z; cases z
      · rw [if_neg q] at z
        obtain ⟨d, y1, y2⟩ := r.shr j w z
        exact ⟨d, y1, up y2⟩
    · rw [g] at z
      by_cases q : i = j
      · rw [if_pos q] at z; cases z
      · rw [if_neg q] at z
        obtain ⟨m, y1, y2, y3, y4⟩ := r.lck j w z
        exact ⟨m, y1, y2, fun x => y3 (hO m x), obs (fun q => y3 (q ▸ on)) y4⟩
    · rw [g] at z
      by_cases q : i = j
      · rw [if_pos q] at z
        cases z
        subst q
        exact ⟨n, hn, nf, nk, qq _ _ (List.getElem?_set_self hnl) ups⟩
      · rw [if_neg q] at z
        obtain ⟨m, y1, y2, y3, y4⟩ := r.own j w z
        exact ⟨m, y1, y2, y3, obs (fun x => q (r.dis i j n u w hi z hn (x ▸ y1))) y4⟩
    · obtain ⟨w1, y1⟩ := hown j w z1
      obtain ⟨w2, y2⟩ := hown k w' z2
      exact r.dis j k m w1 w2 y1 y2 z3 z4
    · obtain ⟨m, es, y1, y2, y3⟩ := r.kc k ws z
      refine ⟨m, es, y1, ?_, ups y3⟩
      rw [hS m fun q => nk (q ▸ List.mem_iff_getElem?.mpr ⟨k, y1⟩)]
      exact y2
  · refine ⟨List.prefix_refl κ, fun _ z => .inl z, ⟨by simp, fun m _ _ z => hS m fun q => z (q ▸ on)⟩, fun j w z => hown j w z, fun j w z => ?_, by simp⟩
    rw [g] at z
    by_cases q : i = j
    · rw [if_pos q] at z; cases z
    · rw [if_neg q] at z; exact z
theorem VRel.setOwn (r : VRel F κ ρ S v c) {i n : Nat} {u : U} (hi : v[i]? = some (some (.own, u))) (hn : ρ[i]? = some (some (.ref n))) {ds : List D} {us : List U} (q : Rds (Av F κ ρ v) κ S ds us) :
    VRel F κ ρ (S.set n (.lst ds)) (v.set i (some (.own, .lst us))) c ∧ Ex ρ κ S v κ (S.set n (.lst ds)) (v.set i (some (.own, .lst us))) :=
  r.setObj hi hn fun A S' h up => .inl ⟨ds, us, rfl, h, up q⟩
theorem VRel.setDct (r : VRel F κ ρ S v c) {i n : Nat} {u : U} (hi : v[i]? = some (some (.own, u))) (hn : ρ[i]? = some (some (.ref n))) {ks : List (List Key)} {ds : List D} {us : List U} (hl : ks.length = ds.length) (q : Rds (Av F κ ρ v) κ S ds us) :
    VRel F κ ρ (S.set n (.dt (ks.zip ds))) (v.set i (some (.own, .dct ks us))) c ∧ Ex ρ κ S v κ (S.set n (.dt (ks.zip ds))) (v.set i (some (.own, .dct ks us))) :=
  r.setObj hi hn fun A S' h up => .inr ⟨ks, ds, us, rfl, h, hl, up q⟩
theorem ok_dnew : SEV cl cd .dnew := by
  intro v c w v' c' e1 F κ ρ S r
  simp only [vE] at e1
  cases e1
  obtain ⟨h1, h2⟩ := new_dct r
  exact ⟨_, _, κ, by simp only [evE], h1, h2⟩
theorem ok_meth {b : M2} {a e : E} (he : SEV cl cd e) : SEV cl cd (.meth b a e) := by
  intro v c w v' c' e1 F κ ρ S r
  simp only [vE] at e1
  split at e1
  · rename_i i hi
    obtain rfl := isVar_eq hi
    by_cases hok : m2ok v i = true
    case neg => rw [if_neg hok] at e1; cases e1
    rw [if_pos hok] at e1
    obtain ⟨w1, v1, c1, q1, e1⟩ := vb_eq e1
    obtain ⟨dy, S1, κ1, y1, x1, r1⟩ := he _ _ _ _ _ q1 F κ ρ S r
    obtain ⟨r1, ry⟩ := r1.shared
    split at e1
    · rename_i u' v2 hm
      cases e1
      unfold m2U at hm
      split at hm
      · rename_i xs hx
        obtain ⟨n, hn, nf, nk, ob⟩ := r1.own i _ hx
        obtain ⟨ds, hS, hds⟩ := ob.lstAt
        obtain ⟨u0, h0⟩ := x1.mono i _ hx
        obtain ⟨n0, hn0, _, _, ob0⟩ := r.own i u0 h0
        obtain ⟨ds0, hS0⟩ : ∃ ds0, S[n0]? = some (.lst ds0) := by
          rcases ob0 with ⟨ds0, us0, _, hS0, _⟩ | ⟨ks0, ds0, us0, rfl, _⟩
          · exact ⟨ds0, hS0⟩
          · unfold m2ok at hok; rw [h0] at hok; cases hok
        rw [hn] at hn0; cases hn0
        have hL : isL S (.ref n) = true := by show (itemsAt S n).isSome = true; unfold itemsAt; rw [hS0]; rfl
        have fin : ∀ {ds' : List D} {us' : List U} {d0 : D}, Rds (Av F κ1 ρ v1) κ1 S1 ds' us' → Rd (Av F κ1 ρ v1) κ1 S1 d0 u' → v' = v1.set i (some (.own, .lst us')) → m2D S1 b (.ref n) dy = some (d0, S1.set n (.lst ds')) → ∃ d S' κ', evE cd (.meth b (.var i) e) ρ S = some (d, S') ∧ Ex ρ κ S v κ' S' v' ∧ Res F ρ S (false, u') d κ' S' v' c' := by
          intro ds' us' d0 h1 h2 h3 h4
          subst h3
          obtain ⟨r2, x2⟩ := r1.setOwn hx hn h1
          exact ⟨d0, _, κ1, by simp only [evE, hn, bnd_some, if_pos hL, y1, h4], x1.trans x2, .inl ⟨rfl, r2, h2.ex x2⟩⟩
        split at hm
        · split at hm
          · rename_i hl
            cases hm
            exact fin (hds.append (.cons ry .nil)) .non rfl (by simp only [m2D, hS, hds.length, if_pos hl])
          · cases hm
        · split at hm
          · rename_i ys hys
            rw [hys] at ry
            cases ry with
            | lst k1 k2 k3 =>
              split at hm
              · rename_i hl
                cases hm
                exact fin (hds.append k3) .non rfl (by simp only [m2D, hS, k2, hds.length, k3.length, if_pos hl])
              · cases hm
          · cases hm
        · split at hm
          · rename_i k hk
            rw [hk] at ry
            cases ry
            split at hm
            · rename_i d hd
              split at hm
              · rename_i hl
                cases hm
                obtain ⟨dd, z1, z2⟩ := hds.get hd
                exact fin (hds.eraseIdx _) z2 rfl (by simp only [m2D, hS, z1, if_pos hl])
              · cases hm
            · cases hm
          · cases hm
      · cases hm
    · cases e1
  · cases e1
end
end Ev
end
section
set_option linter.all false
set_option maxRecDepth 100000
set_option maxHeartbeats 4000000
/-! Calls, sources, slots locked, wiped, set. -/
namespace Ev
open PySem L2
section
variable {cl : Nat → List (Md × U) → Ce → Option (W × Ce)} {cd : Nat → List D → Sto → R D}
variable {F F' : Nat → Prop} {κ κ' κ1 κ2 : List Nat} {ρ : Env} {S S' S1 S2 : Sto} {v v' v1 v2 : VEnv} {c c' : Ce} {d : D} {u : U}
theorem own_nil {n : Nat} : ¬ Own [] [] n := fun ⟨i, u, h, _⟩ => by simp at h
/-- behind a call -/
theorem VRel.after {G : Nat → Prop} (r : VRel F κ ρ S v c) (x : Ex [] κ S [] κ' S' []) (rc : VRel G κ' [] S' [] c') (hO : ∀ n, Own ρ v n → G n) (h1 : ∀ n, F' n → G n) (h2 : ∀ n, n < S.length → F' n → F n) : VRel F' κ' ρ S' v c' := by
  have at_ : ∀ n, n < S.length → n ∉ κ → S'[n]? = S[n]? := fun n a b => x.fm.at_ n a b own_nil
  have hA : ∀ n, n < S.length → Av F' κ' ρ v n → Av F κ ρ v n := fun n hn z => by
    rcases z with z | z | z
    · exact .inl (h2 n hn z)
    · rcases x.new n z with y | y
      · exact .inr (.inl y)
      · omega
    · exact .inr (.inr z)
  have hS : ∀ n, ¬ Av F κ ρ v n → n < S.length → S'[n]? = S[n]? := fun n a b => at_ n b fun z => a (.inr (.inl z))
  have nk : ∀ n, n < S.length → n ∉ κ → n ∉ κ' := fun n a b z => by
    rcases x.new n z with y | y
    · exact b y
    · omega
  refine ⟨r.len, fun i u e => ?_, fun i u e => ?_, fun i u e => ?_, r.dis, fun n z => rc.fl n (h1 n z), rc.kl, rc.knd, fun n z w => rc.kf n z (h1 n w), fun k us e => ?_⟩
  · obtain ⟨d, e1, e2⟩ := r.shr i u e; exact ⟨d, e1, e2.up hS hA x.pre⟩
  · obtain ⟨n, e1, e2, e3, e4⟩ := r.lck i u e; exact ⟨n, e1, nk n e4.lt e2, e3, e4.to hS hA x.pre (at_ n e4.lt e2)⟩
  · obtain ⟨n, e1, e2, e3, e4⟩ := r.own i u e; exact ⟨n, e1, fun z => e2 (h2 n e4.lt z), nk n e4.lt e3, e4.to hS hA x.pre (at_ n e4.lt e3)⟩
  · obtain ⟨n, ds, e1, e2, e3⟩ := rc.kc k us e
    refine ⟨n, ds, e1, e2, e3.up (fun _ _ _ => rfl) (fun m _ z => ?_) (List.prefix_refl κ')⟩
    rcases z with z | z | z
    · exact .inl (h1 m z)
    · exact .inr (.inl z)
    · exact .inl (hO m z)
theorem Ex.nil (x : Ex [] κ S [] κ' S' []) : Ex ρ κ S v κ' S' v := ⟨x.pre, x.new, ⟨x.fm.le, fun n a b _ => x.fm.at_ n a b own_nil⟩, fun _ u h => ⟨u, h⟩, fun _ _ h => h, rfl⟩
theorem as_nil : SAsV cl cd .nil := by
  intro v c us v' c' e1 F κ ρ S r
  simp only [vAs] at e1
  cases e1
  exact ⟨[], S, κ, by simp only [evEs], .refl, r, trivial⟩
theorem ArsOk.ex : ∀ {as : List Ar} {ds : List D}, ArsOk F κ ρ S v as ds → Ex ρ κ S v κ' S' v' → ArsOk F κ' ρ S' v' as ds
  | [], [], _, _ => trivial
  | _ :: _, _ :: _, ⟨h, r⟩, x => ⟨h.ex x, ArsOk.ex r x⟩
  | [], _ :: _, h, _ => h.elim
  | _ :: _, [], h, _ => h.elim
theorem as_cons {e : E} {es : Es} (h : SAV cl cd e) (hs : SAsV cl cd es) : SAsV cl cd (.cons e es) := by
  intro v c us v' c' e1 F κ ρ S r
  simp only [vAs] at e1
  obtain ⟨w, v1, c1, q1, e1⟩ := vb_eq e1
  obtain ⟨ws, v2, c2, q2, e1⟩ := vb_eq e1
  cases e1
  obtain ⟨d, S1, κ1, y1, x1, r1, o1⟩ := h _ _ _ _ _ q1 F κ ρ S r
  obtain ⟨ds, S2, κ2, y2, x2, r2, z2⟩ := hs _ _ _ _ _ q2 F κ1 ρ S1 r1
  exact ⟨d :: ds, S2, κ2, by simp only [evEs, y1, bnd_some, y2], x1.trans x2, r2, o1.ex x2, z2⟩
theorem ars_get : ∀ {as : List Ar} {ds : List D} {us : List (Md × U)} {i : Nat} {p : Md × U}, ArsOk F κ ρ S v as ds → optAll (as.map (resC v)) = some us → us[i]? = some p → ∃ a d, ds[i]? = some d ∧ resC v a = some p ∧ ArOk F κ ρ S v a d
  | [], [], us, i, p, _, e, hp => by cases e; simp at hp
  | a :: as, d :: ds, us, i, p, ⟨h, r⟩, e, hp => by
    rw [List.map_cons] at e
    cases ha : resC v a with
    | none => rw [ha] at e; cases e
    | some q =>
      rw [ha] at e
      have e' : (optAll (as.map (resC v))).map (q :: ·) = some us := e
      cases hx : optAll (as.map (resC v)) with
      | none => rw [hx] at e'; cases e'
      | some ws =>
        rw [hx] at e'; cases e'
        cases i with
        | zero => simp at hp; subst hp; exact ⟨a, d, rfl, ha, h⟩
        | succ i => exact ars_get (i := i) r hx (by simpa using hp)
  | [], _ :: _, _, _, _, h, _, _ => h.elim
  | _ :: _, [], _, _, _, h, _, _ => h.elim
theorem ars_len : ∀ {as : List Ar} {ds : List D} {us : List (Md × U)}, ArsOk F κ ρ S v as ds → optAll (as.map (resC v)) = some us → ds.length = us.length
  | [], [], us, _, e => by cases e; rfl
  | a :: as, d :: ds, us, ⟨h, r⟩, e => by
    rw [List.map_cons] at e
    cases ha : resC v a with
    | none => rw [ha] at e; cases e
    | some q =>
      rw [ha] at e
      have e' : (optAll (as.map (resC v))).map (q :: ·) = some us := e
      cases hx : optAll (as.map (resC v)) with
      | none => rw [hx] at e'; cases e'
      | some ws => rw [hx] at e'; cases e'; simp [ars_len r hx]
  | [], _ :: _, _, h, _ => h.elim
  | _ :: _, [], _, h, _ => h.elim
theorem resC_ok {a : Ar} {m : Md} (r : VRel F κ ρ S v c) (h : ArOk F κ ρ S v a d) (e : resC v a = some (m, u)) : (m = .shr ∧ Rd (Av F κ ρ v) κ S d u) ∨ (m = .lck ∧ ∃ n, d = .ref n ∧ n ∉ κ ∧ Ob (Av F κ ρ v) κ S n u) := by
  cases a with
  | val w => cases (show some (Md.shr, w) = some (m, u) from e); exact .inl ⟨rfl, h⟩
  | slot i =>
    have h : ρ[i]? = some (some d) := h
    have e : (match v[i]? with
      | some (some (.shr, u)) => some (Md.shr, u)
      | some (some (_, u)) => some (.lck, u)
      | _ => none) = some (m, u) := e
    split at e
    · rename_i w hw
      cases e
      obtain ⟨d', k1, k2⟩ := r.shr i _ hw
      rw [h] at k1; cases k1
      exact .inl ⟨rfl, k2⟩
    · rename_i m' w hne hw
      cases e
      cases m' with
      | shr => exact (hne rfl).elim
      | lck =>
        obtain ⟨n, k1, k2, k3, k4⟩ := r.lck i _ hw
        rw [h] at k1; cases k1
        exact .inr ⟨rfl, n, rfl, k2, k4⟩
      | own =>
        obtain ⟨n, k1, k2, k3, k4⟩ := r.own i _ hw
        rw [h] at k1; cases k1
        exact .inr ⟨rfl, n, rfl, k3, k4⟩
    · cases e
theorem args_rel {as : List Ar} {ds : List D} {us : List (Md × U)} (r : VRel F κ ρ S v c) (h : ArsOk F κ ρ S v as ds) (e : optAll (as.map (resC v)) = some us) : VRel (fun n => F n ∨ Own ρ v n) κ (ds.map some) S (us.map some) c := by
  have gt : ∀ {i : Nat} {p : Md × U}, (us.map some)[i]? = some (some p) → us[i]? = some p := fun {i p} z => by
    rw [List.getElem?_map] at z
    cases hx : us[i]? with
    | none => rw [hx] at z; cases z
    | some q => rw [hx] at z; cases z; rfl
  have no : ∀ {i : Nat} {u : U}, (us.map some)[i]? = some (some (Md.own, u)) → False := fun {i u} z => by
    obtain ⟨a, d, k1, k2, k3⟩ := ars_get h e (gt z)
    rcases resC_ok r k3 k2 with ⟨q, _⟩ | ⟨q, _⟩ <;> cases q
  have nO : ∀ {n : Nat}, ¬ Own (ds.map some) (us.map some) n := fun ⟨i, u, z, _⟩ => no z
  have hA : ∀ n, Av (fun n => F n ∨ Own ρ v n) κ (ds.map some) (us.map some) n → Av F κ ρ v n := fun n z => by
    rcases z with (z | z) | z | z
    · exact .inl z
    · exact .inr (.inr z)
    · exact .inr (.inl z)
    · exact absurd z nO
  refine ⟨by simp [ars_len h e], fun i u z => ?_, fun i u z => ?_, fun i u z => absurd z no, fun i j n u w z => absurd z no, fun n z => ?_, r.kl, r.knd, fun n z w => ?_, fun k us z => ?_⟩
  · obtain ⟨a, d, k1, k2, k3⟩ := ars_get h e (gt z)
    rcases resC_ok r k3 k2 with ⟨_, q⟩ | ⟨q, _⟩
    · exact ⟨d, by rw [List.getElem?_map, k1]; rfl, q.up (fun _ _ _ => rfl) (fun m _ => hA m) (List.prefix_refl κ)⟩
    · cases q
  · obtain ⟨a, d, k1, k2, k3⟩ := ars_get h e (gt z)
    rcases resC_ok r k3 k2 with ⟨q, _⟩ | ⟨_, n, rfl, q1, q2⟩
    · cases q
    · exact ⟨n, by rw [List.getElem?_map, k1]; rfl, q1, nO, q2.to (fun _ _ _ => rfl) (fun m _ => hA m) (List.prefix_refl κ) rfl⟩
  · rcases z with z | z
    · exact r.fl n z
    · exact r.olt z
  · rcases w with w | ⟨i, u, w1, w2⟩
    · exact r.kf n z w
    · obtain ⟨n', k1, k2, k3, k4⟩ := r.own i u w1
      rw [w2] at k1; cases k1
      exact k3 z
  · obtain ⟨n, es, y1, y2, y3⟩ := r.kc k us z
    exact ⟨n, es, y1, y2, y3.up (fun _ _ _ => rfl) (fun m _ => hA m) (List.prefix_refl κ)⟩
theorem ok_call (hc : CallV cl cd) {f : Nat} {es : Es} (hs : SAsV cl cd es) : SEV cl cd (.call f es) := by
  intro v c w v' c' e1 F κ ρ S r
  simp only [vE] at e1
  obtain ⟨as, v1, c1, q1, e1⟩ := vb_eq e1
  obtain ⟨ds, S1, κ1, y1, x1, r1, o1⟩ := hs _ _ _ _ _ q1 F κ ρ S r
  split at e1
  · rename_i us hu
    split at e1
    · rename_i w2 c2 hcl
      cases e1
      obtain ⟨d, S2, κ2, y2, x2, r2⟩ := hc _ _ _ _ _ hcl _ κ1 S1 ds (args_rel r1 o1 hu)
      have hA : ∀ n, Av F κ2 ρ v' n → Av (fun n => F n ∨ Own ρ v' n) κ2 [] [] n := fun n z => by
        rcases z with z | z | z
        · exact .inl (.inl z)
        · exact .inr (.inl z)
        · exact .inl (.inr z)
      refine ⟨d, S2, κ2, by simp only [evE, y1, bnd_some, y2], x1.trans x2.nil, ?_⟩
      rcases r2 with ⟨h0, h1, h2⟩ | ⟨h0, n, h1, h2, h3, h4, h5⟩
      · refine .inl ⟨h0, r1.after x2 h1 (fun n z => .inr z) (fun n z => .inl z) (fun _ _ z => z), h2.up (fun _ _ _ => rfl) (fun m _ => hA m) (List.prefix_refl κ2)⟩
      · have hl := x1.fm.le
        refine .inr ⟨h0, n, h1, by omega, fun z => h3 (hA n z), r1.after x2 h4 (fun n z => .inl (.inr z)) (fun m z => ?_) (fun m hm z => ?_), h5.to (fun _ _ _ => rfl) (fun m _ z => ?_) (List.prefix_refl κ2) rfl⟩
        · rcases z with z | z
          · exact .inl (.inl z)
          · exact .inr z
        · rcases z with z | z
          · exact z
          · omega
        · rcases z with (z | z) | z | z
          · exact .inl (.inl (.inl z))
          · exact .inl (.inr z)
          · exact .inr (.inl z)
          · exact .inl (.inl (.inr z))
    · cases e1
  · cases e1
/-! ### slots -/
theorem lock_get (v : VEnv) : ∀ (L : List Nat) (i : Nat), (lockV v L)[i]? = if i ∈ L then (match v[i]? with
    | some (some (.own, u)) => some (some (Md.lck, u))
    | o => o) else v[i]?
  | [], i => by simp [lockV]
  | j :: L, i => by
    have ih := lock_get v L
    unfold lockV
    split
    · rename_i u hu
      have hj := lt_of_get hu
      by_cases z : j = i
      · subst z
        rw [List.getElem?_set_self hj, if_pos (List.mem_cons_self ..)]
        rw [ih] at hu
        split at hu
        · split at hu
          · cases hu
          · rename_i hne; exact absurd hu (hne u)
        · rw [hu]
      · rw [List.getElem?_set_ne z, ih]
        by_cases y : i ∈ L
        · rw [if_pos y, if_pos (List.mem_cons_of_mem _ y)]
        · rw [if_neg y, if_neg (fun q => by rcases List.mem_cons.mp q with q | q; exact z q.symm; exact y q)]
    · rename_i hne
      rw [ih]
      by_cases y : i ∈ L
      · rw [if_pos y, if_pos (List.mem_cons_of_mem _ y)]
      · rw [if_neg y]
        by_cases z : i = j
        · subst z
          rw [if_pos (List.mem_cons_self ..)]
          split
          · rename_i u hu
            exact absurd (by rw [ih, if_neg y]; exact hu) (hne u)
          · rfl
        · rw [if_neg (fun q => by rcases List.mem_cons.mp q with q | q; exact z q; exact y q)]
theorem lock_own {L : List Nat} {i : Nat} (h : (lockV v L)[i]? = some (some (.own, u))) : v[i]? = some (some (.own, u)) ∧ i ∉ L := by
  rw [lock_get] at h
  split at h
  · split at h
    · cases h
    · rename_i hne; exact absurd h (hne u)
  · rename_i hi; exact ⟨h, hi⟩
theorem lock_lck {L : List Nat} {i : Nat} (h : (lockV v L)[i]? = some (some (.lck, u))) : v[i]? = some (some (.lck, u)) ∨ (v[i]? = some (some (.own, u)) ∧ i ∈ L) := by
  rw [lock_get] at h
  split at h
  · rename_i hi
    split at h
    · rename_i w hw; cases h; exact .inr ⟨hw, hi⟩
    · exact .inl h
  · exact .inl h
theorem lock_shr {L : List Nat} {i : Nat} : (lockV v L)[i]? = some (some (.shr, u)) ↔ v[i]? = some (some (.shr, u)) := by
  rw [lock_get]
  split
  · split
    · rename_i w hw; rw [hw]; constructor <;> (intro z; cases z)
    · exact Iff.rfl
  · exact Iff.rfl
theorem lock_len (v : VEnv) : ∀ L : List Nat, (lockV v L).length = v.length
  | [] => rfl
  | j :: L => by unfold lockV; split <;> simp [lock_len v L]
def lkF (F : Nat → Prop) (ρ : Env) (v : VEnv) (L : List Nat) (n : Nat) : Prop := F n ∨ ∃ i u, i ∈ L ∧ v[i]? = some (some (Md.own, u)) ∧ ρ[i]? = some (some (D.ref n))
theorem lock_Own {L : List Nat} {n : Nat} (h : Own ρ (lockV v L) n) : Own ρ v n := by
  obtain ⟨i, u, h1, h2⟩ := h
  exact ⟨i, u, (lock_own h1).1, h2⟩
theorem own_lock {L : List Nat} {n : Nat} (h : Own ρ v n) : Own ρ (lockV v L) n ∨ ∃ i u, i ∈ L ∧ v[i]? = some (some (Md.own, u)) ∧ ρ[i]? = some (some (D.ref n)) := by
  obtain ⟨i, u, h1, h2⟩ := h
  by_cases z : i ∈ L
  · exact .inr ⟨i, u, z, h1, h2⟩
  · exact .inl ⟨i, u, by rw [lock_get, if_neg z]; exact h1, h2⟩
theorem lock_av {L : List Nat} {n : Nat} : Av (lkF F ρ v L) κ ρ (lockV v L) n ↔ Av F κ ρ v n := by
  constructor
  · rintro ((z | ⟨i, u, _, z1, z2⟩) | z | z)
    · exact .inl z
    · exact .inr (.inr ⟨i, u, z1, z2⟩)
    · exact .inr (.inl z)
    · exact .inr (.inr (lock_Own z))
  · rintro (z | z | z)
    · exact .inl (.inl z)
    · exact .inr (.inl z)
    · rcases own_lock (L := L) z with y | y
      · exact .inr (.inr y)
      · exact .inl (.inr y)
theorem VRel.lock (r : VRel F κ ρ S v c) (L : List Nat) : VRel (lkF F ρ v L) κ ρ S (lockV v L) c := by
  have hA : ∀ n, n < S.length → Av (lkF F ρ v L) κ ρ (lockV v L) n → Av F κ ρ v n := fun n _ => lock_av.mp
  have obs : ∀ {n u}, Ob (Av F κ ρ v) κ S n u → Ob (Av (lkF F ρ v L) κ ρ (lockV v L)) κ S n u := fun z => z.to (fun _ _ _ => rfl) hA (List.prefix_refl κ) rfl
  refine ⟨by rw [lock_len]; exact r.len, fun i u z => ?_, fun i u z => ?_, fun i u z => ?_, fun i j n u w z1 z2 => r.dis i j n u w (lock_own z1).1 (lock_own z2).1, fun n z => ?_, r.kl, r.knd, fun n z w => ?_, fun k us z => ?_⟩
  · obtain ⟨d, h1, h2⟩ := r.shr i u (lock_shr.mp z)
    exact ⟨d, h1, h2.up (fun _ _ _ => rfl) hA (List.prefix_refl κ)⟩
  · rcases lock_lck z with z | ⟨z, hi⟩
    · obtain ⟨n, h1, h2, h3, h4⟩ := r.lck i u z
      exact ⟨n, h1, h2, fun y => h3 (lock_Own y), obs h4⟩
    · obtain ⟨n, h1, h2, h3, h4⟩ := r.own i u z
      refine ⟨n, h1, h3, fun ⟨j, w, y1, y2⟩ => ?_, obs h4⟩
      obtain ⟨y1, y3⟩ := lock_own y1
      exact y3 (r.dis i j n u w z y1 h1 y2 ▸ hi)
  · obtain ⟨z1, z2⟩ := lock_own z
    obtain ⟨n, h1, h2, h3, h4⟩ := r.own i u z1
    refine ⟨n, h1, fun y => ?_, h3, obs h4⟩
    rcases y with y | ⟨j, w, y1, y2, y3⟩
    · exact h2 y
    · exact z2 (r.dis j i n w u y2 z1 y3 h1 ▸ y1)
  · rcases z with z | ⟨j, w, y1, y2, y3⟩
    · exact r.fl n z
    · exact r.olt ⟨j, w, y2, y3⟩
  · rcases w with w | ⟨j, w, y1, y2, y3⟩
    · exact r.kf n z w
    · obtain ⟨n', k1, k2, k3, k4⟩ := r.own j w y2
      rw [y3] at k1; cases k1
      exact k3 z
  · obtain ⟨n, es, y1, y2, y3⟩ := r.kc k us z
    exact ⟨n, es, y1, y2, y3.up (fun _ _ _ => rfl) hA (List.prefix_refl κ)⟩
theorem get_set' {α : Type} {l : List α} {i j : Nat} {a b : α} (h : (l.set i a)[j]? = some b) : (i = j ∧ b = a ∧ j < l.length) ∨ (i ≠ j ∧ l[j]? = some b) := by
  by_cases z : i = j
  · subst z
    have hi : i < l.length := by have := lt_of_get h; simpa using this
    rw [List.getElem?_set_self hi] at h
    cases h
    exact .inl ⟨rfl, rfl, hi⟩
  · rw [List.getElem?_set_ne z] at h
    exact .inr ⟨z, h⟩
/-- a slot gets a value -/
theorem VRel.set1 (r : VRel F κ ρ S v c) (i : Nat) (h : Rd (Av F κ ρ v) κ S d u) : VRel F κ (ρ.set i (some d)) S (v.set i (some (.shr, u))) c ∧ ∀ n, Av F κ (ρ.set i (some d)) (v.set i (some (.shr, u))) n → Av F κ ρ v n := by
  have hown : ∀ {j : Nat} {w : U}, (v.set i (some (Md.shr, u)))[j]? = some (some (Md.own, w)) → i ≠ j ∧ v[j]? = some (some (Md.own, w)) := fun z => by
    rcases get_set' z with ⟨_, q, _⟩ | q
    · cases q
    · exact q
  have hρ : ∀ {j : Nat}, i ≠ j → (ρ.set i (some d))[j]? = ρ[j]? := fun z => List.getElem?_set_ne z
  have hO : ∀ n, Own (ρ.set i (some d)) (v.set i (some (.shr, u))) n → Own ρ v n := fun n ⟨j, w, z1, z2⟩ => by
    obtain ⟨y1, y2⟩ := hown z1
    rw [hρ y1] at z2
    exact ⟨j, w, y2, z2⟩
  have hA : ∀ n, Av F κ (ρ.set i (some d)) (v.set i (some (.shr, u))) n → Av F κ ρ v n := fun n z => by
    rcases z with z | z | z
    · exact .inl z
    · exact .inr (.inl z)
    · exact .inr (.inr (hO n z))
  have up : ∀ {d' u'}, Rd (Av F κ ρ v) κ S d' u' → Rd (Av F κ (ρ.set i (some d)) (v.set i (some (.shr, u)))) κ S d' u' := fun z => z.up (fun _ _ _ => rfl) (fun n _ => hA n) (List.prefix_refl κ)
  have obs : ∀ {n u'}, Ob (Av F κ ρ v) κ S n u' → Ob (Av F κ (ρ.set i (some d)) (v.set i (some (.shr, u)))) κ S n u' := fun z => z.to (fun _ _ _ => rfl) (fun n _ => hA n) (List.prefix_refl κ) rfl
  refine ⟨⟨by simp [r.len], fun j w z => ?_, fun j w z => ?_, fun j w z => ?_, fun j k n w w' z1 z2 z3 z4 => ?_, r.fl, r.kl, r.knd, r.kf, fun k us z => ?_⟩, hA⟩
  · rcases get_set' z with ⟨q1, q2, q3⟩ | ⟨q1, q2⟩
    · cases q2
      subst q1
      exact ⟨d, List.getElem?_set_self (by rw [r.len]; exact q3), up h⟩
    · obtain ⟨d', y1, y2⟩ := r.shr j w q2
      exact ⟨d', by rw [hρ q1]; exact y1, up y2⟩
  · rcases get_set' z with ⟨q1, q2, q3⟩ | ⟨q1, q2⟩
    · cases q2
    · obtain ⟨n, y1, y2, y3, y4⟩ := r.lck j w q2
      exact ⟨n, by rw [hρ q1]; exact y1, y2, fun x => y3 (hO n x), obs y4⟩
  · obtain ⟨q1, q2⟩ := hown z
    obtain ⟨n, y1, y2, y3, y4⟩ := r.own j w q2
    exact ⟨n, by rw [hρ q1]; exact y1, y2, y3, obs y4⟩
  · obtain ⟨q1, q2⟩ := hown z1
    obtain ⟨p1, p2⟩ := hown z2
    rw [hρ q1] at z3
    rw [hρ p1] at z4
    exact r.dis j k n w w' q2 p2 z3 z4
  · obtain ⟨n, es, y1, y2, y3⟩ := r.kc k us z
    exact ⟨n, es, y1, y2, y3.up (fun _ _ _ => rfl) (fun n _ => hA n) (List.prefix_refl κ)⟩
/-- slots that a target's setting leaves as they are -/
structure Kpt (is : List Nat) (ρ ρ' : Env) (v v' : VEnv) : Prop where
  wl : v'.length = v.length
  ne : ∀ j, j ∉ is → v'[j]? = v[j]? ∧ ρ'[j]? = ρ[j]?
  md : ∀ (j : Nat) (p : Md × U), v'[j]? = some (some p) → p.1 = .shr ∨ (v'[j]? = v[j]? ∧ ρ'[j]? = ρ[j]?)
theorem Kpt.one {i : Nat} : Kpt [i] ρ (ρ.set i (some d)) v (v.set i (some (.shr, u))) := ⟨by simp, fun j hj => by
    have : i ≠ j := fun z => hj (by simp [z])
    exact ⟨List.getElem?_set_ne this, List.getElem?_set_ne this⟩, fun j p h => by
    rcases get_set' h with ⟨_, q, _⟩ | ⟨q, _⟩
    · cases q; exact .inl rfl
    · exact .inr ⟨List.getElem?_set_ne q, List.getElem?_set_ne q⟩⟩
theorem Kpt.trans {is js : List Nat} {ρ1 ρ2 : Env} (h : Kpt is ρ ρ1 v v1) (k : Kpt js ρ1 ρ2 v1 v2) : Kpt (is ++ js) ρ ρ2 v v2 := ⟨k.wl.trans h.wl, fun j hj => by
    have h1 : j ∉ is := fun z => hj (by simp [z])
    have h2 : j ∉ js := fun z => hj (by simp [z])
    exact ⟨(k.ne j h2).1.trans (h.ne j h1).1, (k.ne j h2).2.trans (h.ne j h1).2⟩, fun j p e => by
    rcases k.md j p e with z | ⟨z1, z2⟩
    · exact .inl z
    · rcases h.md j p (z1 ▸ e) with y | ⟨y1, y2⟩
      · exact .inl y
      · exact .inr ⟨z1.trans y1, z2.trans y2⟩⟩
theorem setAll_rel : ∀ {is : List Nat} {us : List U} {ds : List D} {ρ : Env} {v v' : VEnv}, VRel F κ ρ S v c → Rds (Av F κ ρ v) κ S ds us → setAllU is us v = some v' → ∃ ρ', setAll is ds ρ = some ρ' ∧ VRel F κ ρ' S v' c ∧ (∀ n, Av F κ ρ' v' n → Av F κ ρ v n) ∧ Kpt is ρ ρ' v v'
  | [], [], [], ρ, v, v', r, _, e => by cases e; exact ⟨ρ, rfl, r, fun _ z => z, rfl, fun _ _ => ⟨rfl, rfl⟩, fun _ _ _ => .inr ⟨rfl, rfl⟩⟩
  | [], [], d :: ds, ρ, v, v', r, h, e => by cases h
  | i :: is, u :: us, d :: ds, ρ, v, v', r, h, e => by
    cases h with
    | cons h1 h2 =>
      obtain ⟨r1, a1⟩ := r.set1 i h1
      obtain ⟨ρ', q1, q2, q3, q4⟩ := setAll_rel r1 (h2.up (fun _ _ _ => rfl) (fun n _ => a1 n) (List.prefix_refl κ)) e
      exact ⟨ρ', q1, q2, fun n z => a1 n (q3 n z), by simpa using (Kpt.one (d := d) (u := u) (ρ := ρ) (v := v)).trans q4⟩
  | i :: is, u :: us, [], ρ, v, v', r, h, e => by cases h
  | [], _ :: _, _, ρ, v, v', r, h, e => by cases e
  | _ :: _, [], _, ρ, v, v', r, h, e => by cases e
theorem set_rel {t : Tg} (r : VRel F κ ρ S v c) (h : Rd (Av F κ ρ v) κ S d u) (e : setU t u v = some v') : ∃ ρ', setT t d ρ = some ρ' ∧ VRel F κ ρ' S v' c ∧ (∀ n, Av F κ ρ' v' n → Av F κ ρ v n) ∧ Kpt (tgS t) ρ ρ' v v' := by
  cases t with
  | one i =>
    cases e
    obtain ⟨r1, a1⟩ := r.set1 i h
    exact ⟨_, rfl, r1, a1, Kpt.one⟩
  | many is =>
    cases u with
    | tup us =>
      cases h with
      | tup h => exact setAll_rel r h e
    | _ => cases e
end
end Ev
end
section
set_option linter.all false
set_option maxRecDepth 100000
set_option maxHeartbeats 4000000
/-! Sources and comprehensions. -/
namespace Ev
open PySem L2
section
variable {cl : Nat → List (Md × U) → Ce → Option (W × Ce)} {cd : Nat → List D → Sto → R D}
variable {F F' : Nat → Prop} {κ κ' κ1 κ2 : List Nat} {ρ : Env} {S S' S1 S2 : Sto} {v v' v1 v2 : VEnv} {c c' : Ce} {d : D} {u : U}
theorem hold_ok {a : Ar} {us : List U} {L : List Nat} (r : VRel F κ ρ S v c) (h : ArOk F κ ρ S v a d) (e : resA v a = some u) (hs : itemsU u = some us) (hL : ∀ i, i ∈ arLocks a → i ∈ L) :
    ∃ n ds, d = .ref n ∧ itemsAt S n = some ds ∧ Rds (Av F κ ρ v) κ S ds us ∧ n ∉ κ ∧ ¬ Own ρ (lockV v L) n := by
  have shared : Rd (Av F κ ρ v) κ S d u → ∃ n ds, d = .ref n ∧ itemsAt S n = some ds ∧ Rds (Av F κ ρ v) κ S ds us ∧ n ∉ κ ∧ ¬ Own ρ (lockV v L) n := fun z => by
    cases z with
    | lst h1 h2 h3 => cases hs; exact ⟨_, _, rfl, by unfold itemsAt; rw [h2], h3, fun z => h1 (.inr (.inl z)), fun z => h1 (.inr (.inr (lock_Own z)))⟩
    | fz h1 h2 h3 => cases hs; exact ⟨_, _, rfl, by unfold itemsAt; rw [h2], h3, fun z => h1 (.inr (.inl z)), fun z => h1 (.inr (.inr (lock_Own z)))⟩
    | _ => cases hs
  cases a with
  | val w => cases (show some w = some u from e); exact shared h
  | slot i =>
    have h : ρ[i]? = some (some d) := h
    have e : (match v[i]? with
      | some (some (_, u)) => some u
      | _ => none) = some u := e
    split at e
    · rename_i m w hw
      cases e
      cases m with
      | shr =>
        obtain ⟨d', k1, k2⟩ := r.shr i _ hw
        rw [h] at k1; cases k1
        exact shared k2
      | lck =>
        obtain ⟨n, k1, k2, k3, ob⟩ := r.lck i _ hw
        rw [h] at k1; cases k1
        rcases ob with ⟨ds, us', k4, k5, k6⟩ | ⟨ks', ds, us', k4, _⟩
        case inr => subst k4; cases hs
        subst k4
        cases hs
        exact ⟨n, ds, rfl, by unfold itemsAt; rw [k5], k6, k2, fun z => k3 (lock_Own z)⟩
      | own =>
        obtain ⟨n, k1, k2, k3, ob⟩ := r.own i _ hw
        rw [h] at k1; cases k1
        rcases ob with ⟨ds, us', k4, k5, k6⟩ | ⟨ks', ds, us', k4, _⟩
        case inr => subst k4; cases hs
        subst k4
        cases hs
        refine ⟨n, ds, rfl, by unfold itemsAt; rw [k5], k6, k3, fun ⟨j, w, y1, y2⟩ => ?_⟩
        obtain ⟨y1, y3⟩ := lock_own y1
        exact y3 (r.dis i j n _ w hw y1 h y2 ▸ hL i (by simp [arLocks]))
    · cases e
theorem src_ok {a : Ar} {s : SrcU} (r : VRel F κ ρ S v c) (h : ArOk F κ ρ S v a d) (e : srcU v a = some s) : ∃ t, srcD S d = some (t, S) ∧ SrcOk F κ ρ S v s t := by
  unfold srcU at e
  split at e
  · rename_i x hx
    cases e
    have hd := (h.res r hx).strAt
    subst hd
    exact ⟨_, rfl, ⟨Rds.signs, fun p hp => by cases hp⟩⟩
  · rename_i w hne hw
    cases hs : seqU w with
    | none => rw [hs] at e; cases e
    | some us =>
      rw [hs] at e
      cases e
      have rp := h.res r hw
      cases w with
      | tup xs =>
        cases hs
        obtain ⟨ds, rfl, h1⟩ := rp.tupAt
        exact ⟨⟨ds, []⟩, rfl, ⟨h1, fun p hp => by cases hp⟩⟩
      | lst xs =>
        cases hs
        obtain ⟨n, ds, rfl, h1, h2, h3, h4⟩ := hold_ok (L := arLocks a) r h hw rfl (fun _ z => z)
        exact ⟨⟨ds, [(n, ds)]⟩, by simp only [srcD, seqD, h1, heldD], ⟨h2, fun p hp => by cases (List.mem_singleton.mp hp); exact ⟨h1, h3, h4⟩⟩⟩
      | fz xs =>
        cases hs
        obtain ⟨n, ds, rfl, h1, h2, h3, h4⟩ := hold_ok (L := arLocks a) r h hw rfl (fun _ z => z)
        exact ⟨⟨ds, [(n, ds)]⟩, by simp only [srcD, seqD, h1, heldD], ⟨h2, fun p hp => by cases (List.mem_singleton.mp hp); exact ⟨h1, h3, h4⟩⟩⟩
      | _ => cases hs
  · cases e
theorem liftS_eq {o : Option SrcU} {r : SrcU × VEnv × Ce} (h : liftS o v c = some r) : ∃ s, o = some s ∧ r = (s, v, c) := by
  cases o with
  | none => cases h
  | some w => cases h; exact ⟨w, rfl, rfl⟩
theorem i_seq {e : E} (h : SAV cl cd e) : SIV cl cd (.seq e) := by
  intro v c s v' c' e1 F κ ρ S r
  simp only [vI] at e1
  obtain ⟨a, v1, c1, q1, e1⟩ := vb_eq e1
  obtain ⟨s1, hs, e1⟩ := liftS_eq e1
  cases e1
  obtain ⟨d, S1, κ1, y1, x1, r1, o1⟩ := h _ _ _ _ _ q1 F κ ρ S r
  obtain ⟨t, k1, k2⟩ := src_ok r1 o1 hs
  exact ⟨t, S1, κ1, by simp only [evI, y1, bnd_some, k1], x1, r1, k2⟩
theorem i_r1 {e : E} (h : SAV cl cd e) : SIV cl cd (.r1 e) := by
  intro v c s v' c' e1 F κ ρ S r
  simp only [vI] at e1
  obtain ⟨a, v1, c1, q1, e1⟩ := vb_eq e1
  obtain ⟨s1, hs, e1⟩ := liftS_eq e1
  cases e1
  obtain ⟨d, S1, κ1, y1, x1, r1, o1⟩ := h _ _ _ _ _ q1 F κ ρ S r
  unfold rng1U at hs
  split at hs
  · rename_i j hj
    split at hs
    · rename_i hc
      cases hs
      have hd := (o1.res r1 hj).intAt
      subst hd
      exact ⟨⟨rangeD 0 j.toNat, []⟩, S1, κ1, by simp only [evI, y1, bnd_some, rng1, if_pos hc], x1, r1, ⟨Rds.range, fun p hp => by cases hp⟩⟩
    · cases hs
  · cases hs
theorem i_r2 {e e' : E} (h : SAV cl cd e) (h' : SAV cl cd e') : SIV cl cd (.r2 e e') := by
  intro v c s v' c' e1 F κ ρ S r
  simp only [vI] at e1
  obtain ⟨a, v1, c1, q1, e1⟩ := vb_eq e1
  obtain ⟨b, v2, c2, q2, e1⟩ := vb_eq e1
  obtain ⟨s1, hs, e1⟩ := liftS_eq e1
  cases e1
  obtain ⟨d, S1, κ1, y1, x1, r1, o1⟩ := h _ _ _ _ _ q1 F κ ρ S r
  obtain ⟨d', S2, κ2, y2, x2, r2, o2⟩ := h' _ _ _ _ _ q2 F κ1 ρ S1 r1
  have o1 := o1.ex x2
  unfold rng2U at hs
  split at hs
  · rename_i i j hi hj
    split at hs
    · rename_i hc
      cases hs
      have hd := (o1.res r2 hi).intAt
      have hd' := (o2.res r2 hj).intAt
      subst hd hd'
      exact ⟨⟨rangeD i (j - i).toNat, []⟩, S2, κ2, by simp only [evI, y1, bnd_some, y2, rng2, if_pos hc], x1.trans x2, r2, ⟨Rds.range, fun p hp => by cases hp⟩⟩
    · cases hs
  · cases hs
theorem i_enum {e : E} (h : SAV cl cd e) : SIV cl cd (.enum e) := by
  intro v c s v' c' e1 F κ ρ S r
  simp only [vI] at e1
  obtain ⟨a, v1, c1, q1, e1⟩ := vb_eq e1
  obtain ⟨s1, hs, e1⟩ := liftS_eq e1
  cases e1
  obtain ⟨d, S1, κ1, y1, x1, r1, o1⟩ := h _ _ _ _ _ q1 F κ ρ S r
  unfold enumU at hs
  split at hs
  · rename_i w hw
    cases hq : seqU w with
    | none => rw [hq] at hs; cases hs
    | some us =>
      rw [hq] at hs
      cases hs
      have rp := o1.res r1 hw
      cases w with
      | tup xs =>
        cases hq
        obtain ⟨ds, rfl, h1⟩ := rp.tupAt
        exact ⟨⟨enums ds, []⟩, S1, κ1, by simp only [evI, y1, bnd_some, enumD], x1, r1, ⟨h1.enum, fun p hp => by cases hp⟩⟩
      | lst xs =>
        cases hq
        obtain ⟨n, ds, rfl, h1, h2, h3, h4⟩ := hold_ok (L := arLocks a) r1 o1 hw rfl (fun _ z => z)
        exact ⟨⟨enums ds, [(n, ds)]⟩, S1, κ1, by simp only [evI, y1, bnd_some, enumD, h1], x1, r1, ⟨h2.enum, fun p hp => by cases (List.mem_singleton.mp hp); exact ⟨h1, h3, h4⟩⟩⟩
      | fz xs =>
        cases hq
        obtain ⟨n, ds, rfl, h1, h2, h3, h4⟩ := hold_ok (L := arLocks a) r1 o1 hw rfl (fun _ z => z)
        exact ⟨⟨enums ds, [(n, ds)]⟩, S1, κ1, by simp only [evI, y1, bnd_some, enumD, h1], x1, r1, ⟨h2.enum, fun p hp => by cases (List.mem_singleton.mp hp); exact ⟨h1, h3, h4⟩⟩⟩
      | _ => cases hq
  · cases hs
theorem i_zip {e e' : E} (h : SAV cl cd e) (h' : SAV cl cd e') : SIV cl cd (.zip e e') := by
  intro v c s v' c' e1 F κ ρ S r
  simp only [vI] at e1
  obtain ⟨a, v1, c1, q1, e1⟩ := vb_eq e1
  obtain ⟨b, v2, c2, q2, e1⟩ := vb_eq e1
  obtain ⟨s1, hs, e1⟩ := liftS_eq e1
  cases e1
  obtain ⟨d, S1, κ1, y1, x1, r1, o1⟩ := h _ _ _ _ _ q1 F κ ρ S r
  obtain ⟨d', S2, κ2, y2, x2, r2, o2⟩ := h' _ _ _ _ _ q2 F κ1 ρ S1 r1
  have o1 := o1.ex x2
  unfold zipU at hs
  split at hs
  · rename_i xs ys hx hy
    cases hs
    obtain ⟨ds, rfl, h1⟩ := (o1.res r2 hx).tupAt
    obtain ⟨es, rfl, h2⟩ := (o2.res r2 hy).tupAt
    exact ⟨⟨zip2 ds es, []⟩, S2, κ2, by simp only [evI, y1, bnd_some, y2, zipD], x1.trans x2, r2, ⟨h1.zip h2, fun p hp => by cases hp⟩⟩
  · rename_i x y hne hx hy
    split at hs
    · rename_i xs ys hxs hys
      cases hs
      obtain ⟨n, ds, rfl, h1, h2, h3, h4⟩ := hold_ok (L := arLocks a ++ arLocks b) r2 o1 hx hxs (fun _ z => by simp [z])
      obtain ⟨m, es, rfl, k1, k2, k3, k4⟩ := hold_ok (L := arLocks a ++ arLocks b) r2 o2 hy hys (fun _ z => by simp [z])
      refine ⟨⟨zip2 ds es, [(n, ds), (m, es)]⟩, S2, κ2, by simp only [evI, y1, bnd_some, y2, zipD, h1, k1], x1.trans x2, r2, ⟨h2.zip k2, fun p hp => ?_⟩⟩
      rcases List.mem_cons.mp hp with rfl | hp
      · exact ⟨h1, h3, h4⟩
      · cases (List.mem_singleton.mp hp); exact ⟨k1, k3, k4⟩
    · cases hs
  · cases hs
/-! ### slots wiped -/
theorem wipeV_at (v : VEnv) : ∀ (L : List Nat) (i : Nat), (wipeV v L)[i]? = if i ∈ L ∧ i < v.length then some none else v[i]?
  | [], i => by simp [wipeV]
  | j :: L, i => by
    have ih := wipeV_at v L
    have hl : ∀ L : List Nat, (wipeV v L).length = v.length := fun L => by induction L with
      | nil => rfl
      | cons a r ih => simp [wipeV, ih]
    show ((wipeV v L).set j none)[i]? = _
    by_cases z : j = i
    · subst z
      by_cases y : j < v.length
      · rw [List.getElem?_set_self (by rw [hl]; exact y), if_pos ⟨List.mem_cons_self .., y⟩]
      · rw [if_neg (fun q => y q.2), List.getElem?_eq_none (by simp [hl]; omega), List.getElem?_eq_none (by omega)]
    · rw [List.getElem?_set_ne z, ih]
      have : (i ∈ j :: L ∧ i < v.length) ↔ (i ∈ L ∧ i < v.length) := ⟨fun q => ⟨by rcases List.mem_cons.mp q.1 with w | w; exact absurd w.symm z; exact w, q.2⟩, fun q => ⟨List.mem_cons_of_mem _ q.1, q.2⟩⟩
      simp only [this]
theorem wipeE_at (v : Env) : ∀ (L : List Nat) (i : Nat), (wipeE v L)[i]? = if i ∈ L ∧ i < v.length then some none else v[i]?
  | [], i => by simp [wipeE]
  | j :: L, i => by
    have ih := wipeE_at v L
    have hl : ∀ L : List Nat, (wipeE v L).length = v.length := fun L => by induction L with
      | nil => rfl
      | cons a r ih => simp [wipeE, ih]
    show ((wipeE v L).set j none)[i]? = _
    by_cases z : j = i
    · subst z
      by_cases y : j < v.length
      · rw [List.getElem?_set_self (by rw [hl]; exact y), if_pos ⟨List.mem_cons_self .., y⟩]
      · rw [if_neg (fun q => y q.2), List.getElem?_eq_none (by simp [hl]; omega), List.getElem?_eq_none (by omega)]
    · rw [List.getElem?_set_ne z, ih]
      have : (i ∈ j :: L ∧ i < v.length) ↔ (i ∈ L ∧ i < v.length) := ⟨fun q => ⟨by rcases List.mem_cons.mp q.1 with w | w; exact absurd w.symm z; exact w, q.2⟩, fun q => ⟨List.mem_cons_of_mem _ q.1, q.2⟩⟩
      simp only [this]
theorem wipeV_len (v : VEnv) : ∀ L : List Nat, (wipeV v L).length = v.length
  | [] => rfl
  | j :: L => by simp [wipeV, wipeV_len v L]
theorem wipeE_len (v : Env) : ∀ L : List Nat, (wipeE v L).length = v.length
  | [] => rfl
  | j :: L => by simp [wipeE, wipeE_len v L]
theorem wipeV_some {L : List Nat} {i : Nat} {p : Md × U} (h : (wipeV v L)[i]? = some (some p)) : i ∉ L ∧ v[i]? = some (some p) := by
  rw [wipeV_at] at h
  split at h
  · cases h
  · rename_i hn
    exact ⟨fun z => hn ⟨z, lt_of_get h⟩, h⟩
theorem wipeV_ne {L : List Nat} {i : Nat} (h : i ∉ L) : (wipeV v L)[i]? = v[i]? := by rw [wipeV_at, if_neg (fun z => h z.1)]
theorem wipeE_ne {L : List Nat} {i : Nat} (h : i ∉ L) : (wipeE ρ L)[i]? = ρ[i]? := by rw [wipeE_at, if_neg (fun z => h z.1)]
/-- none of these slots owns anything -/
def NoOwn (v : VEnv) (L : List Nat) : Prop := ∀ (i : Nat) (u : U), i ∈ L → v[i]? ≠ some (some (.own, u))
theorem wipe_Own {L : List Nat} (hf : NoOwn v L) {n : Nat} : Own (wipeE ρ L) (wipeV v L) n ↔ Own ρ v n := by
  constructor
  · rintro ⟨i, u, h1, h2⟩
    obtain ⟨k1, k2⟩ := wipeV_some h1
    rw [wipeE_ne k1] at h2
    exact ⟨i, u, k2, h2⟩
  · rintro ⟨i, u, h1, h2⟩
    have hi : i ∉ L := fun z => hf i u z h1
    exact ⟨i, u, by rw [wipeV_ne hi]; exact h1, by rw [wipeE_ne hi]; exact h2⟩
theorem VRel.wipe {L : List Nat} (r : VRel F κ ρ S v c) (hf : NoOwn v L) : VRel F κ (wipeE ρ L) S (wipeV v L) c := by
  have hA : ∀ n, n < S.length → Av F κ (wipeE ρ L) (wipeV v L) n → Av F κ ρ v n := fun n _ z => by
    rcases z with z | z | z
    · exact .inl z
    · exact .inr (.inl z)
    · exact .inr (.inr ((wipe_Own hf).mp z))
  have obs : ∀ {n u}, Ob (Av F κ ρ v) κ S n u → Ob (Av F κ (wipeE ρ L) (wipeV v L)) κ S n u := fun z => z.to (fun _ _ _ => rfl) hA (List.prefix_refl κ) rfl
  refine ⟨by rw [wipeE_len, wipeV_len]; exact r.len, fun i u z => ?_, fun i u z => ?_, fun i u z => ?_, fun i j n u w z1 z2 z3 z4 => ?_, r.fl, r.kl, r.knd, r.kf, fun k us z => ?_⟩
  · obtain ⟨k1, k2⟩ := wipeV_some z
    obtain ⟨d, h1, h2⟩ := r.shr i u k2
    exact ⟨d, by rw [wipeE_ne k1]; exact h1, h2.up (fun _ _ _ => rfl) hA (List.prefix_refl κ)⟩
  · obtain ⟨k1, k2⟩ := wipeV_some z
    obtain ⟨n, h1, h2, h3, h4⟩ := r.lck i u k2
    exact ⟨n, by rw [wipeE_ne k1]; exact h1, h2, fun y => h3 ((wipe_Own hf).mp y), obs h4⟩
  · obtain ⟨k1, k2⟩ := wipeV_some z
    obtain ⟨n, h1, h2, h3, h4⟩ := r.own i u k2
    exact ⟨n, by rw [wipeE_ne k1]; exact h1, h2, h3, obs h4⟩
  · obtain ⟨k1, k2⟩ := wipeV_some z1
    obtain ⟨l1, l2⟩ := wipeV_some z2
    rw [wipeE_ne k1] at z3
    rw [wipeE_ne l1] at z4
    exact r.dis i j n u w k2 l2 z3 z4
  · obtain ⟨n, es, y1, y2, y3⟩ := r.kc k us z
    exact ⟨n, es, y1, y2, y3.up (fun _ _ _ => rfl) hA (List.prefix_refl κ)⟩
/-- a list that none of the slots holds is changed -/
theorem VRel.setTemp (r : VRel F κ ρ S v c) {q : Nat} {o : O} (hq : F q) (hl : ∀ (i n : Nat) (u : U), v[i]? = some (some (.lck, u)) → ρ[i]? = some (some (.ref n)) → n ≠ q) : VRel F κ ρ (S.set q o) v c ∧ ∀ {d u}, Rd (Av F κ ρ v) κ S d u → Rd (Av F κ ρ v) κ (S.set q o) d u := by
  have hS : ∀ n, n ≠ q → (S.set q o)[n]? = S[n]? := fun n z => List.getElem?_set_ne (Ne.symm z)
  have hS' : ∀ n, ¬ Av F κ ρ v n → n < S.length → (S.set q o)[n]? = S[n]? := fun n z _ => hS n fun y => z (y ▸ .inl hq)
  refine ⟨⟨r.len, fun i u z => ?_, fun i u z => ?_, fun i u z => ?_, r.dis, fun n z => by simp; exact r.fl n z, r.kl, r.knd, r.kf, fun k us z => ?_⟩, fun z => z.up hS' (fun _ _ y => y) (List.prefix_refl κ)⟩
  · obtain ⟨d, h1, h2⟩ := r.shr i u z
    exact ⟨d, h1, h2.up hS' (fun _ _ y => y) (List.prefix_refl κ)⟩
  · obtain ⟨n, h1, h2, h3, h4⟩ := r.lck i u z
    exact ⟨n, h1, h2, h3, h4.to hS' (fun _ _ y => y) (List.prefix_refl κ) (hS n (hl i n u z h1))⟩
  · obtain ⟨n, h1, h2, h3, h4⟩ := r.own i u z
    exact ⟨n, h1, h2, h3, h4.to hS' (fun _ _ y => y) (List.prefix_refl κ) (hS n fun y => h2 (y ▸ hq))⟩
  · obtain ⟨n, es, y1, y2, y3⟩ := r.kc k us z
    exact ⟨n, es, y1, (hS n fun y => r.kf n (List.mem_iff_getElem?.mpr ⟨k, y1⟩) (y ▸ hq)).trans y2, y3.up hS' (fun _ _ y => y) (List.prefix_refl κ)⟩
end
end Ev
end
section
set_option linter.all false
set_option maxRecDepth 100000
set_option maxHeartbeats 4000000
/-! Comprehensions. -/
namespace Ev
open PySem L2
section
variable {cl : Nat → List (Md × U) → Ce → Option (W × Ce)} {cd : Nat → List D → Sto → R D}
variable {F F' : Nat → Prop} {κ κ' κ1 κ2 : List Nat} {ρ : Env} {S S' S1 S2 : Sto} {v v' v1 v2 : VEnv} {c c' : Ce} {d : D} {u : U}
theorem wipeE_eq {L : List Nat} {ρ2 : Env} (hl : ρ2.length = ρ.length) (h : ∀ j, j ∉ L → ρ2[j]? = ρ[j]?) : wipeE ρ2 L = wipeE ρ L := by
  apply List.ext_getElem?
  intro i
  rw [wipeE_at, wipeE_at, hl]
  split
  · rfl
  · rename_i hn
    by_cases z : i ∈ L
    · have : ¬ i < ρ.length := fun y => hn ⟨z, y⟩
      rw [List.getElem?_eq_none (by omega), List.getElem?_eq_none (by omega)]
    · exact h i z
/-- the turn's own slots are gone -/
theorem back_rel {own is : List Nat} {ρ2 : Env} {v4 : VEnv} {κ4 : List Nat} {S4 : Sto} {c4 : Ce} (hs : ∀ j, j ∈ is → j ∈ own) (r : VRel F κ (wipeE ρ own) S (wipeV v own) c) (k : Kpt is (wipeE ρ own) ρ2 (wipeV v own) v2) (x : Ex ρ2 κ S v2 κ4 S4 v4) (r4 : VRel F κ4 ρ2 S4 v4 c4) :
    VRel F κ4 (wipeE ρ own) S4 (wipeV v4 own) c4 ∧ Ex (wipeE ρ own) κ S (wipeV v own) κ4 S4 (wipeV v4 own) ∧ ∀ n, Av F κ4 (wipeE ρ own) (wipeV v4 own) n ↔ Av F κ4 ρ2 v4 n := by
  have md : ∀ (j : Nat) (m : Md) (u : U), m ≠ .shr → v2[j]? = some (some (m, u)) → (wipeV v own)[j]? = some (some (m, u)) ∧ ρ2[j]? = (wipeE ρ own)[j]? := fun j m u hm e => by
    rcases k.md j _ e with z | ⟨z1, z2⟩
    · exact absurd z hm
    · exact ⟨z1 ▸ e, z2⟩
  have no : NoOwn v4 own := fun i u hi e => by
    obtain ⟨u', e'⟩ := x.mono i u e
    obtain ⟨e2, _⟩ := md i .own u' (by simp) e'
    exact (wipeV_some e2).1 hi
  have hl : ρ2.length = (wipeE ρ own).length := by rw [r4.len, x.wl, k.wl, ← r.len]
  have he : wipeE ρ2 own = wipeE ρ own := by
    have h1 : wipeE ρ2 own = wipeE (wipeE ρ own) own := wipeE_eq hl fun j hj => (k.ne j fun z => hj (hs j z)).2
    have h2 : wipeE (wipeE ρ own) own = wipeE ρ own := wipeE_eq (wipeE_len _ _) fun j hj => wipeE_ne hj
    exact h1.trans h2
  have r5 := r4.wipe no
  rw [he] at r5
  refine ⟨r5, ⟨x.pre, x.new, ⟨x.fm.le, fun n h1 h2 h3 => x.fm.at_ n h1 h2 fun ⟨i, u, z1, z2⟩ => ?_⟩, fun i u e => ?_, fun i u e => ?_, by rw [wipeV_len, x.wl, k.wl]⟩, fun n => ?_⟩
  · obtain ⟨e1, e2⟩ := md i .own u (by simp) z1
    exact h3 ⟨i, u, e1, e2 ▸ z2⟩
  · obtain ⟨e1, e2⟩ := wipeV_some e
    obtain ⟨u', e3⟩ := x.mono i u e2
    exact ⟨u', (md i .own u' (by simp) e3).1⟩
  · obtain ⟨e1, e2⟩ := wipeV_some e
    exact (md i .lck u (by simp) (x.lk i u e2)).1
  · have hO : Own (wipeE ρ own) (wipeV v4 own) n ↔ Own ρ2 v4 n := by rw [← he]; exact wipe_Own no
    unfold Av
    rw [hO]
noncomputable abbrev stepV (cl : Nat → List (Md × U) → Ce → Option (W × Ce)) (elt : E) (tg : Tg) (own : List Nat) (cond : Eo) : U → VEnv → Ce → VR (Option U) := fun d v c => match setU tg d (wipeV v own) with
        | none => none
        | some v2 => vb (vO cl cond v2 c) fun o v3 c3 => match o with
          | none => vb (vE cl elt v3 c3) fun w v4 c4 => some (some w.2, v4, c4)
          | some q => match truthU q with
            | some true => vb (vE cl elt v3 c3) fun w v4 c4 => some (some w.2, v4, c4)
            | some false => some (none, v3, c3)
            | none => none
theorem step_ok {elt : E} {tg : Tg} {own : List Nat} {cond : Eo} (he : SEV cl cd elt) (ho : SOV cl cd cond) (hs : ∀ j, j ∈ tgS tg → j ∈ own) (r : VRel F κ (wipeE ρ own) S (wipeV v own) c) (h : Rd (Av F κ (wipeE ρ own) (wipeV v own)) κ S d u) {o : Option U} (e : stepV cl elt tg own cond u v c = some (o, v', c')) :
    ∃ od S' κ', stepC (evE cd elt) (evO cd cond) tg (wipeE ρ own) d S = some (od, S') ∧ VRel F κ' (wipeE ρ own) S' (wipeV v' own) c' ∧ Ex (wipeE ρ own) κ S (wipeV v own) κ' S' (wipeV v' own) ∧ OptR (Av F κ' (wipeE ρ own) (wipeV v' own)) κ' S' od o ∧ v'.length = v.length := by
  unfold stepV at e
  split at e
  · cases e
  · rename_i v2 h2
    obtain ⟨ρ2, k1, k2, k3, k4⟩ := set_rel r h h2
    obtain ⟨q, v3, c3, e3, e⟩ := vb_eq e
    obtain ⟨dq, S3, κ3, y3, x3, r3, o3⟩ := ho _ _ _ _ _ e3 F κ ρ2 S k2
    have fin : ∀ {w : W} {v4 : VEnv} {c4 : Ce}, vE cl elt v3 c3 = some (w, v4, c4) → ∃ d4 S4 κ4, evE cd elt ρ2 S3 = some (d4, S4) ∧ VRel F κ4 (wipeE ρ own) S4 (wipeV v4 own) c4 ∧ Ex (wipeE ρ own) κ S (wipeV v own) κ4 S4 (wipeV v4 own) ∧ Rd (Av F κ4 (wipeE ρ own) (wipeV v4 own)) κ4 S4 d4 w.2 ∧ v4.length = v.length := fun {w v4 c4} z => by
      obtain ⟨d4, S4, κ4, y4, x4, r4⟩ := he _ _ _ _ _ z F κ3 ρ2 S3 r3
      obtain ⟨b1, b2, b3⟩ := back_rel hs r k4 (x3.trans x4) r4.shared.1
      refine ⟨d4, S4, κ4, y4, b1, b2, r4.shared.2.up (fun _ _ _ => rfl) (fun n _ => (b3 n).mp) (List.prefix_refl κ4), ?_⟩
      rw [x4.wl, x3.wl, k4.wl, wipeV_len]
    split at e
    · obtain ⟨w, v4, c4, e4, e⟩ := vb_eq e
      cases e
      obtain ⟨d4, S4, κ4, y4, b1, b2, b3, b4⟩ := fin e4
      cases dq with
      | some _ => exact o3.elim
      | none => exact ⟨some d4, S4, κ4, by simp only [stepC, k1, y3, bnd_some, y4], b1, b2, b3, b4⟩
    · rename_i qu
      cases dq with
      | none => exact o3.elim
      | some dq =>
        have o3 : Rd (Av F κ3 ρ2 v3) κ3 S3 dq qu := o3
        split at e
        · rename_i ht
          obtain ⟨w, v4, c4, e4, e⟩ := vb_eq e
          cases e
          obtain ⟨d4, S4, κ4, y4, b1, b2, b3, b4⟩ := fin e4
          have ht' : truthD S3 dq = some true := RdP.tru (.inl o3) ht
          exact ⟨some d4, S4, κ4, by simp only [stepC, k1, y3, bnd_some, ht', y4], b1, b2, b3, b4⟩
        · rename_i ht
          cases e
          have ht' : truthD S3 dq = some false := RdP.tru (.inl o3) ht
          obtain ⟨b1, b2, b3⟩ := back_rel hs r k4 x3 r3
          exact ⟨none, S3, κ3, by simp only [stepC, k1, y3, bnd_some, ht'], b1, b2, trivial, by rw [x3.wl, k4.wl, wipeV_len]⟩
        · cases e
theorem items_same {n : Nat} (h : S'[n]? = S[n]?) : itemsAt S' n = itemsAt S n := by unfold itemsAt; rw [h]
theorem loop_ok {elt : E} {tg : Tg} {own : List Nat} {cond : Eo} {t : Src} {q : Nat} {vh : VEnv} {S0 : Sto} {κ0 : List Nat} (he : SEV cl cd elt) (ho : SOV cl cd cond) (hs : ∀ j, j ∈ tgS tg → j ∈ own) (hq : F q)
    (hheld : ∀ p, p ∈ t.held → p.1 < S0.length ∧ p.1 ∉ κ0 ∧ ¬ Own (wipeE ρ own) vh p.1 ∧ p.1 ≠ q)
    (hlk : ∀ (i n : Nat) (u : U), vh[i]? = some (some (.lck, u)) → (wipeE ρ own)[i]? = some (some (.ref n)) → n ≠ q) :
    ∀ (us : List U) (ds : List D) (acc : List U) (ad : List D) (v : VEnv) (c : Ce) (κ : List Nat) (S : Sto) {us9 : List U} {v9 : VEnv} {c9 : Ce}, compU (stepV cl elt tg own cond) us acc v c = some (us9, v9, c9) →
      VRel F κ (wipeE ρ own) S (wipeV v own) c → (∀ n, n ∈ κ → n ∈ κ0 ∨ S0.length ≤ n) → S0.length ≤ S.length → (∀ (i : Nat) (u' : U), (wipeV v own)[i]? = some (some (.own, u')) → ∃ u, vh[i]? = some (some (.own, u))) → (∀ (i : Nat) (u : U), (wipeV v own)[i]? = some (some (.lck, u)) → vh[i]? = some (some (.lck, u))) →
      (∀ p, p ∈ t.held → itemsAt S p.1 = some p.2) → S[q]? = some (.lst ad) → Rds (Av F κ (wipeE ρ own) (wipeV v own)) κ S ad acc → Rds (Av F κ (wipeE ρ own) (wipeV v own)) κ S ds us →
      ∃ S9 κ9 d9, compL t q (stepC (evE cd elt) (evO cd cond) tg (wipeE ρ own)) ds S = some ((), S9) ∧ VRel F κ9 (wipeE ρ own) S9 (wipeV v9 own) c9 ∧ κ <+: κ9 ∧ (∀ n, n ∈ κ9 → n ∈ κ ∨ S.length ≤ n) ∧ S.length ≤ S9.length ∧ (∀ n, n < S.length → n ∉ κ → ¬ Own (wipeE ρ own) (wipeV v own) n → n ≠ q → S9[n]? = S[n]?) ∧
        (∀ (i : Nat) (u' : U), (wipeV v9 own)[i]? = some (some (.own, u')) → ∃ u, (wipeV v own)[i]? = some (some (.own, u))) ∧ (∀ (i : Nat) (u : U), (wipeV v9 own)[i]? = some (some (.lck, u)) → (wipeV v own)[i]? = some (some (.lck, u))) ∧
        S9[q]? = some (.lst d9) ∧ Rds (Av F κ9 (wipeE ρ own) (wipeV v9 own)) κ9 S9 d9 us9 ∧ v9.length = v.length := by
  intro us
  induction us with
  | nil =>
    intro ds acc ad v c κ S us9 v9 c9 e r xn xl xm xk hh h1 h2 h3
    cases h3
    cases e
    refine ⟨S, κ, ad, ?_, r, List.prefix_refl κ, fun _ z => .inl z, Nat.le_refl _, fun _ _ _ _ _ => rfl, fun i u z => ⟨u, z⟩, fun _ _ z => z, h1, h2, rfl⟩
    unfold compL
    rw [if_pos (show t.ok S from hh)]
  | cons u us ih =>
    intro ds acc ad v c κ S us9 v9 c9 e r xn xl xm xk hh h1 h2 h3
    cases h3 with
    | @cons d ds _ _ hd h3 =>
      unfold compU at e
      obtain ⟨o, v1, c1, e1, e⟩ := vb_eq e
      obtain ⟨od, S1, κ1, y1, r1, x1, o1, l1⟩ := step_ok he ho hs r hd e1
      have hqS : q < S.length := lt_of_get h1
      have nq : q ∉ κ := fun z => r.kf q z hq
      have oq : ¬ Own (wipeE ρ own) (wipeV v own) q := fun ⟨i, w, z1, z2⟩ => by
        obtain ⟨n, k1, k2, _⟩ := r.own i w z1
        rw [z2] at k1; cases k1
        exact k2 hq
      have h1' : S1[q]? = some (.lst ad) := (x1.fm.at_ q hqS nq oq).trans h1
      have hle := x1.fm.le
      have hh1 : ∀ p, p ∈ t.held → itemsAt S1 p.1 = some p.2 := fun p hp => by
        obtain ⟨a2, a3, a4, a5⟩ := hheld p hp
        have b2 : p.1 ∉ κ := fun z => by
          rcases xn p.1 z with w | w
          · exact a3 w
          · omega
        rw [items_same (x1.fm.at_ p.1 (by omega) b2 fun ⟨i, w, z1, z2⟩ => by
          obtain ⟨w', z3⟩ := xm i w z1
          exact a4 ⟨i, w', z3, z2⟩)]
        exact hh p hp
      have xn1 : ∀ n, n ∈ κ1 → n ∈ κ0 ∨ S0.length ≤ n := fun n z => by
        rcases x1.new n z with w | w
        · exact xn n w
        · exact .inr (by omega)
      have xm1 : ∀ (i : Nat) (u' : U), (wipeV v1 own)[i]? = some (some (.own, u')) → ∃ u, vh[i]? = some (some (.own, u)) := fun i u' z => by
        obtain ⟨w, z⟩ := x1.mono i u' z
        exact xm i w z
      have xk1 : ∀ (i : Nat) (u : U), (wipeV v1 own)[i]? = some (some (.lck, u)) → vh[i]? = some (some (.lck, u)) := fun i u' z => xk i u' (x1.lk i u' z)
      have fin : ∀ {S2 S9 : Sto} {κ9 : List Nat} {d9 : List D}, S2.length = S1.length → (∀ n, n ≠ q → S2[n]? = S1[n]?) → compL t q (stepC (evE cd elt) (evO cd cond) tg (wipeE ρ own)) (d :: ds) S = some ((), S9) →
          VRel F κ9 (wipeE ρ own) S9 (wipeV v9 own) c9 → κ1 <+: κ9 → (∀ n, n ∈ κ9 → n ∈ κ1 ∨ S2.length ≤ n) → S2.length ≤ S9.length → (∀ n, n < S2.length → n ∉ κ1 → ¬ Own (wipeE ρ own) (wipeV v1 own) n → n ≠ q → S9[n]? = S2[n]?) →
          (∀ (i : Nat) (u' : U), (wipeV v9 own)[i]? = some (some (.own, u')) → ∃ u, (wipeV v1 own)[i]? = some (some (.own, u))) → (∀ (i : Nat) (u : U), (wipeV v9 own)[i]? = some (some (.lck, u)) → (wipeV v1 own)[i]? = some (some (.lck, u))) → S9[q]? = some (.lst d9) → Rds (Av F κ9 (wipeE ρ own) (wipeV v9 own)) κ9 S9 d9 us9 → v9.length = v1.length →
          ∃ S9 κ9 d9, compL t q (stepC (evE cd elt) (evO cd cond) tg (wipeE ρ own)) (d :: ds) S = some ((), S9) ∧ VRel F κ9 (wipeE ρ own) S9 (wipeV v9 own) c9 ∧ κ <+: κ9 ∧ (∀ n, n ∈ κ9 → n ∈ κ ∨ S.length ≤ n) ∧ S.length ≤ S9.length ∧ (∀ n, n < S.length → n ∉ κ → ¬ Own (wipeE ρ own) (wipeV v own) n → n ≠ q → S9[n]? = S[n]?) ∧
            (∀ (i : Nat) (u' : U), (wipeV v9 own)[i]? = some (some (.own, u')) → ∃ u, (wipeV v own)[i]? = some (some (.own, u))) ∧ (∀ (i : Nat) (u : U), (wipeV v9 own)[i]? = some (some (.lck, u)) → (wipeV v own)[i]? = some (some (.lck, u))) ∧
            S9[q]? = some (.lst d9) ∧ Rds (Av F κ9 (wipeE ρ own) (wipeV v9 own)) κ9 S9 d9 us9 ∧ v9.length = v.length := by
        intro S2 S9 κ9 d9 hl2 hS2 z1 z2 z3 z4 z5 z6 z7 z8 z9 z10 z11
        refine ⟨S9, κ9, d9, z1, z2, x1.pre.trans z3, fun n hn => ?_, by omega, fun n a b c' e' => ?_, fun i u' hi => ?_, fun i u' hi => x1.lk i u' (z8 i u' hi), z9, z10, z11.trans l1⟩
        · rcases z4 n hn with w | w
          · exact x1.new n w
          · exact .inr (by omega)
        · refine ((z6 n (by omega) (fun w => ?_) (fun w => c' (x1.own w)) e').trans (hS2 n e')).trans (x1.fm.at_ n a b c')
          rcases x1.new n w with w | w
          · exact b w
          · omega
        · obtain ⟨u1, w⟩ := z7 i u' hi
          exact x1.mono i u1 w
      cases o with
      | none =>
        cases od with
        | some _ => exact o1.elim
        | none =>
          obtain ⟨S9, κ9, d9, z1, z2, z3, z4, z5, z6, z7, z8, z9, z10, z11⟩ := ih ds acc ad v1 c1 κ1 S1 e r1 xn1 (by omega) xm1 xk1 hh1 h1' (h2.ex x1) (h3.ex x1)
          exact fin rfl (fun _ _ => rfl) (by conv => lhs; unfold compL
                                             rw [if_pos (show t.ok S from hh), y1, bnd_some]; exact z1) z2 z3 z4 z5 z6 z7 z8 z9 z10 z11
      | some y =>
        cases od with
        | none => exact o1.elim
        | some dy =>
          have o1 : Rd (Av F κ1 (wipeE ρ own) (wipeV v1 own)) κ1 S1 dy y := o1
          simp only at e
          split at e
          · rename_i hlen
            have hl2 : ∀ (i n : Nat) (u : U), (wipeV v1 own)[i]? = some (some (.lck, u)) → (wipeE ρ own)[i]? = some (some (.ref n)) → n ≠ q := fun i n w z1 z2 => hlk i n w (xk1 i w z1) z2
            obtain ⟨r2, up⟩ := r1.setTemp (o := .lst (ad ++ [dy])) hq hl2
            have ups : ∀ {a b}, Rds (Av F κ1 (wipeE ρ own) (wipeV v1 own)) κ1 S1 a b → Rds (Av F κ1 (wipeE ρ own) (wipeV v1 own)) κ1 (S1.set q (.lst (ad ++ [dy]))) a b := fun z => z.up (fun n hn _ => List.getElem?_set_ne fun w => hn (w ▸ .inl hq)) (fun _ _ w => w) (List.prefix_refl κ1)
            have hh2 : ∀ p, p ∈ t.held → itemsAt (S1.set q (.lst (ad ++ [dy]))) p.1 = some p.2 := fun p hp => by
              rw [items_same (List.getElem?_set_ne (Ne.symm (hheld p hp).2.2.2))]
              exact hh1 p hp
            obtain ⟨S9, κ9, d9, z1, z2, z3, z4, z5, z6, z7, z8, z9, z10, z11⟩ := ih ds (acc ++ [y]) (ad ++ [dy]) v1 c1 κ1 (S1.set q (.lst (ad ++ [dy]))) e r2 xn1 (by simp; omega) xm1 xk1 hh2 (List.getElem?_set_self (lt_of_get h1')) (ups ((h2.ex x1).append (.cons o1 .nil))) (ups (h3.ex x1))
            refine fin (by simp) (fun n hn => List.getElem?_set_ne (Ne.symm hn)) ?_ z2 z3 z4 z5 z6 z7 z8 z9 z10 z11
            conv => lhs; unfold compL
            rw [if_pos (show t.ok S from hh), y1, bnd_some]
            simp only [h1', if_pos (show ad.length < 100000 by rw [h2.length]; exact hlen)]
            exact z1
          · cases e
/-! ### slots back, slots unlocked -/
theorem back_get (v : VEnv) (v' : VEnv) (hl : v'.length = v.length) : ∀ (L : List Nat) (i : Nat), (backV v v' L)[i]? = if i ∈ L then v[i]? else v'[i]?
  | [], i => by simp [backV]
  | j :: L, i => by
    have ih := back_get v v' hl L
    have hlen : ∀ L : List Nat, (backV v v' L).length = v.length := fun L => by
      induction L with
      | nil => exact hl
      | cons a r ih => unfold backV; split <;> simp [ih]
    unfold backV
    split
    · rename_i o ho
      by_cases z : j = i
      · subst z
        rw [List.getElem?_set_self (by rw [hlen]; exact lt_of_get ho), if_pos (List.mem_cons_self ..), ho]
      · rw [List.getElem?_set_ne z, ih]
        by_cases y : i ∈ L
        · rw [if_pos y, if_pos (List.mem_cons_of_mem _ y)]
        · rw [if_neg y, if_neg (fun q => by rcases List.mem_cons.mp q with q | q; exact z q.symm; exact y q)]
    · rename_i ho
      rw [ih]
      by_cases y : i ∈ L
      · rw [if_pos y, if_pos (List.mem_cons_of_mem _ y)]
      · rw [if_neg y]
        by_cases z : i = j
        · subst z
          rw [if_pos (List.mem_cons_self ..), ho]
          exact List.getElem?_eq_none (by rw [hl]; exact List.getElem?_eq_none_iff.mp ho)
        · rw [if_neg (fun q => by rcases List.mem_cons.mp q with q | q; exact z q; exact y q)]
theorem back_len (v v' : VEnv) : ∀ L : List Nat, (backV v v' L).length = v'.length
  | [] => rfl
  | j :: L => by unfold backV; split <;> simp [back_len v v' L]
theorem unlock_len (v v' : VEnv) : ∀ L : List Nat, (unlockV v v' L).length = v'.length
  | [] => rfl
  | j :: L => by unfold unlockV; split <;> simp [unlock_len v v' L]
theorem unlock_get (v v' : VEnv) : ∀ (L : List Nat) (i : Nat) (p : Option (Md × U)), (unlockV v v' L)[i]? = some p → v'[i]? = some p ∨ ∃ u u0, i ∈ L ∧ v[i]? = some (some (.own, u0)) ∧ v'[i]? = some (some (.lck, u)) ∧ p = some (.own, u)
  | [], i, p, h => .inl h
  | j :: L, i, p, h => by
    have ih := unlock_get v v' L
    have up : ∀ {p}, (unlockV v v' L)[i]? = some p → v'[i]? = some p ∨ ∃ u u0, i ∈ j :: L ∧ v[i]? = some (some (.own, u0)) ∧ v'[i]? = some (some (.lck, u)) ∧ p = some (.own, u) := fun {p} z => by
      rcases ih i p z with z | ⟨u, u0, z1, z2⟩
      · exact .inl z
      · exact .inr ⟨u, u0, List.mem_cons_of_mem _ z1, z2⟩
    unfold unlockV at h
    split at h
    · rename_i u0 u h1 h2
      rcases get_set' h with ⟨rfl, q, _⟩ | ⟨_, q⟩
      · subst q
        rcases ih j _ h2 with z | ⟨u', u0', _, _, _, z⟩
        · exact .inr ⟨u, u0, List.mem_cons_self .., h1, z, rfl⟩
        · cases z
      · exact up q
    · exact up h
/-- locked slots that were owned are no more locked -/
theorem unlock_lck (v v' : VEnv) : ∀ (L : List Nat) (i : Nat) (u u0 : U), i ∈ L → v[i]? = some (some (.own, u0)) → (unlockV v v' L)[i]? ≠ some (some (.lck, u))
  | j :: L, i, u, u0, hi, h1, h => by
    unfold unlockV at h
    split at h
    · rename_i w0 w e1 e2
      rcases get_set' h with ⟨_, q, _⟩ | ⟨hn, q⟩
      · cases q
      · rcases List.mem_cons.mp hi with z | z
        · exact hn z.symm
        · exact unlock_lck v v' L i u u0 z h1 q
    · rename_i hne
      rcases List.mem_cons.mp hi with z | z
      · subst z; exact hne u0 u h1 h
      · exact unlock_lck v v' L i u u0 z h1 h
theorem ok_comp {elt : E} {tg : Tg} {own : List Nat} {it : I} {cond : Eo} (he : SEV cl cd elt) (ho : SOV cl cd cond) (hi : SIV cl cd it) : SEV cl cd (.comp elt tg own it cond) := by
  intro v c w v' c' e1 F κ ρ S r
  simp only [vE] at e1
  obtain ⟨s, v1, c1, q1, e1⟩ := vb_eq e1
  obtain ⟨t, S1, κ1, y1, x1, r1, ok⟩ := hi _ _ _ _ _ q1 F κ ρ S r
  split at e1
  · rename_i hc
    obtain ⟨us9, v9, c9, q9, e1⟩ := vb_eq e1
    cases e1
    obtain ⟨hfr, htg⟩ := hc
    have fr : ∀ i, i ∈ own → ∀ m u, m ≠ Md.shr → (lockV v1 s.locks)[i]? ≠ some (some (m, u)) := fun i hi m u hm z => by
      have y := List.all_eq_true.mp hfr i hi
      unfold free1 at y
      rw [z] at y
      cases m with
      | shr => exact hm rfl
      | own => cases y
      | lck => cases y
    have hs : ∀ j, j ∈ tgS tg → j ∈ own := fun j hj => by
      have y := List.all_eq_true.mp htg j hj
      simpa using y
    have rl := r1.lock s.locks
    have r0 := rl.wipe (L := own) fun i u hi z => fr i hi .own u (by simp) z
    have wO : ∀ n, Own (wipeE ρ own) (wipeV (lockV v1 s.locks) own) n ↔ Own ρ (lockV v1 s.locks) n := fun n => wipe_Own fun i u hi z => fr i hi .own u (by simp) z
    have r0' : VRel (plus (lkF F ρ v1 s.locks) S1.length) κ1 (wipeE ρ own) (S1 ++ [.lst []]) (wipeV (lockV v1 s.locks) own) c1 := r0.grow (by simp) (fun n hn => List.getElem?_append_left hn) fun n z => by
      rcases z with z | z
      · exact .inl z
      · subst z; exact .inr ⟨Nat.le_refl _, by simp⟩
    have av0 : ∀ n, n < S1.length → Av (plus (lkF F ρ v1 s.locks) S1.length) κ1 (wipeE ρ own) (wipeV (lockV v1 s.locks) own) n → Av F κ1 ρ v1 n := fun n hn z => by
      apply (lock_av (L := s.locks)).mp
      rcases z with (z | z) | z | z
      · exact .inl z
      · omega
      · exact .inr (.inl z)
      · exact .inr (.inr ((wO n).mp z))
    have hheld : ∀ p, p ∈ t.held → p.1 < S1.length ∧ p.1 ∉ κ1 ∧ ¬ Own (wipeE ρ own) (wipeV (lockV v1 s.locks) own) p.1 ∧ p.1 ≠ S1.length := fun p hp => by
      obtain ⟨a1, a2, a3⟩ := ok.held p hp
      have hl : p.1 < S1.length := by
        unfold itemsAt at a1
        split at a1
        · rename_i e; exact lt_of_get e
        · rename_i e; exact lt_of_get e
        · cases a1
        · cases a1
      exact ⟨hl, a2, fun z => a3 ((wO _).mp z), by omega⟩
    have hlk : ∀ (i n : Nat) (u : U), (wipeV (lockV v1 s.locks) own)[i]? = some (some (.lck, u)) → (wipeE ρ own)[i]? = some (some (.ref n)) → n ≠ S1.length := fun i n u z1 z2 => by
      obtain ⟨n', k1, k2, k3, k4⟩ := r0.lck i u z1
      rw [z2] at k1; cases k1
      have := k4.lt
      omega
    obtain ⟨S9, κ9, d9, z1, z2, z3, z4, z5, z6, z7, z8, z9, z10, z11⟩ := loop_ok (S0 := S1) (κ0 := κ1) (vh := wipeV (lockV v1 s.locks) own) he ho hs (F := plus (lkF F ρ v1 s.locks) S1.length) (q := S1.length) (.inr rfl) hheld hlk s.items t.items [] [] (lockV v1 s.locks) c1 κ1 (S1 ++ [.lst []]) q9 r0' (fun _ z => .inl z) (by simp) (fun i u z => ⟨u, z⟩) (fun _ _ z => z)
      (fun p hp => by rw [items_same (List.getElem?_append_left (hheld p hp).1)]; exact (ok.held p hp).1) (by simp) .nil (ok.items.up (fun n _ hn => List.getElem?_append_left hn) av0 (List.prefix_refl κ1))
    simp only [List.length_append, List.length_singleton] at z4 z5 z6
    -- the last environment
    have hb : ∀ i, (backV (lockV v1 s.locks) v9 own)[i]? = if i ∈ own then (lockV v1 s.locks)[i]? else v9[i]? := back_get _ _ z11 own
    have b9 : ∀ (i : Nat) (m : Md) (u : U), m ≠ .shr → (backV (lockV v1 s.locks) v9 own)[i]? = some (some (m, u)) → i ∉ own ∧ (wipeV v9 own)[i]? = some (some (m, u)) := fun i m u hm z => by
      rw [hb] at z
      by_cases y : i ∈ own
      · rw [if_pos y] at z; exact absurd z (fr i y m u hm)
      · rw [if_neg y] at z; exact ⟨y, by rw [wipeV_ne y]; exact z⟩
    -- an owned slot: unlocked, or owned all along
    have own9 : ∀ (i : Nat) (u : U), (unlockV v1 (backV (lockV v1 s.locks) v9 own) s.locks)[i]? = some (some (.own, u)) → i ∉ own ∧ ((i ∈ s.locks ∧ v1[i]? = some (some (.own, u)) ∧ (wipeV v9 own)[i]? = some (some (.lck, u))) ∨ ((wipeV v9 own)[i]? = some (some (.own, u)) ∧ (∃ u0, v1[i]? = some (some (.own, u0))) ∧ i ∉ s.locks)) := fun i u z => by
      rcases unlock_get _ _ _ _ _ z with z | ⟨u', u0, k1, k2, k3, k4⟩
      · obtain ⟨y1, y2⟩ := b9 i .own u (by simp) z
        obtain ⟨u0, y3⟩ := z7 i u y2
        rw [wipeV_ne y1] at y3
        obtain ⟨y4, y5⟩ := lock_own y3
        exact ⟨y1, .inr ⟨y2, ⟨u0, y4⟩, y5⟩⟩
      · cases k4
        obtain ⟨y1, y2⟩ := b9 i .lck u (by simp) k3
        have y3 := z8 i u y2
        rw [wipeV_ne y1] at y3
        rcases lock_lck y3 with y4 | ⟨y4, y5⟩
        · rw [k2] at y4; cases y4
        · exact ⟨y1, .inl ⟨y5, y4, y2⟩⟩
    have lck9 : ∀ (i : Nat) (u : U), (unlockV v1 (backV (lockV v1 s.locks) v9 own) s.locks)[i]? = some (some (.lck, u)) → i ∉ own ∧ (wipeV v9 own)[i]? = some (some (.lck, u)) ∧ v1[i]? = some (some (.lck, u)) := fun i u z => by
      rcases unlock_get _ _ _ _ _ z with z' | ⟨u', u0, k1, k2, k3, k4⟩
      · obtain ⟨y1, y2⟩ := b9 i .lck u (by simp) z'
        have y3 := z8 i u y2
        rw [wipeV_ne y1] at y3
        rcases lock_lck y3 with y4 | ⟨y4, y5⟩
        · exact ⟨y1, y2, y4⟩
        · exact absurd z (unlock_lck _ _ _ i u u y5 y4)
      · cases k4
    have own1 : ∀ n, Own ρ (unlockV v1 (backV (lockV v1 s.locks) v9 own) s.locks) n → Own ρ v1 n := fun n ⟨i, u, k1, k2⟩ => by
      obtain ⟨_, ⟨_, y, _⟩ | ⟨_, ⟨u0, y⟩, _⟩⟩ := own9 i u k1
      · exact ⟨i, u, y, k2⟩
      · exact ⟨i, u0, y, k2⟩
    have hle := x1.fm.le
    have av1 : ∀ n, n < S1.length → Av (plus F S1.length) κ9 ρ (unlockV v1 (backV (lockV v1 s.locks) v9 own) s.locks) n → Av F κ1 ρ v1 n := fun n hn z => by
      rcases z with (z | z) | z | z
      · exact .inl z
      · omega
      · rcases z4 n z with w | w
        · exact .inr (.inl w)
        · omega
      · exact .inr (.inr (own1 n z))
    have av9 : ∀ n, Av (plus F S1.length) κ9 ρ (unlockV v1 (backV (lockV v1 s.locks) v9 own) s.locks) n → Av (plus (lkF F ρ v1 s.locks) S1.length) κ9 (wipeE ρ own) (wipeV v9 own) n := fun n z => by
      rcases z with (z | z) | z | z
      · exact .inl (.inl (.inl z))
      · exact .inl (.inr z)
      · exact .inr (.inl z)
      · obtain ⟨i, u, k1, k2⟩ := z
        obtain ⟨y0, ⟨y1, y2, y3⟩ | ⟨y1, y2, y3⟩⟩ := own9 i u k1
        · exact .inl (.inl (.inr ⟨i, u, y1, y2, k2⟩))
        · exact .inr (.inr ⟨i, u, y1, by rw [wipeE_ne y0]; exact k2⟩)
    have s19 : ∀ n, n < S1.length → n ∉ κ1 → ¬ Own ρ v1 n → S9[n]? = S1[n]? := fun n h1 h2 h3 => by
      rw [z6 n (by omega) h2 (fun z => h3 (lock_Own ((wO n).mp z))) (by omega), List.getElem?_append_left h1]
    have s19' : ∀ n, ¬ Av F κ1 ρ v1 n → n < S1.length → S9[n]? = S1[n]? := fun n h1 h2 => s19 n h2 (fun z => h1 (.inr (.inl z))) (fun z => h1 (.inr (.inr z)))
    have obs : ∀ {n u}, Ob (Av (plus (lkF F ρ v1 s.locks) S1.length) κ9 (wipeE ρ own) (wipeV v9 own)) κ9 S9 n u → Ob (Av (plus F S1.length) κ9 ρ (unlockV v1 (backV (lockV v1 s.locks) v9 own) s.locks)) κ9 S9 n u := fun z => z.to (fun _ _ _ => rfl) (fun n _ => av9 n) (List.prefix_refl κ9) rfl
    have rf : VRel (plus F S1.length) κ9 ρ S9 (unlockV v1 (backV (lockV v1 s.locks) v9 own) s.locks) c' := by
      refine ⟨by rw [unlock_len, back_len, z11, lock_len]; exact r1.len, fun i u z => ?_, fun i u z => ?_, fun i u z => ?_, fun i j n u w k1 k2 k3 k4 => ?_, fun n z => ?_, z2.kl, z2.knd, fun n a b => ?_, fun k us z => ?_⟩
      · have z' : (backV (lockV v1 s.locks) v9 own)[i]? = some (some (.shr, u)) := by
          rcases unlock_get _ _ _ _ _ z with z | ⟨_, _, _, _, _, k4⟩
          · exact z
          · cases k4
        rw [hb] at z'
        by_cases y : i ∈ own
        · rw [if_pos y] at z'
          obtain ⟨d, h1, h2⟩ := r1.shr i u (lock_shr.mp z')
          exact ⟨d, h1, h2.up s19' av1 z3⟩
        · rw [if_neg y] at z'
          obtain ⟨d, h1, h2⟩ := z2.shr i u (by rw [wipeV_ne y]; exact z')
          rw [wipeE_ne y] at h1
          exact ⟨d, h1, h2.up (fun _ _ _ => rfl) (fun n _ => av9 n) (List.prefix_refl κ9)⟩
      · obtain ⟨y0, y1, y2⟩ := lck9 i u z
        obtain ⟨n, h1, h2, h3, h4⟩ := z2.lck i u y1
        rw [wipeE_ne y0] at h1
        obtain ⟨n', k1, k2, k3, k4⟩ := r1.lck i u y2
        rw [h1] at k1; cases k1
        exact ⟨n, h1, h2, fun w => k3 (own1 n w), obs h4⟩
      · obtain ⟨y0, ⟨y1, y2, y3⟩ | ⟨y1, ⟨u0, y2⟩, y3⟩⟩ := own9 i u z
        · obtain ⟨n, h1, h2, h3, h4⟩ := z2.lck i u y3
          rw [wipeE_ne y0] at h1
          obtain ⟨n', k1, k2, k3, k4⟩ := r1.own i u y2
          rw [h1] at k1; cases k1
          refine ⟨n, h1, fun w => ?_, h2, obs h4⟩
          rcases w with w | w
          · exact k2 w
          · have := k4.lt; omega
        · obtain ⟨n, h1, h2, h3, h4⟩ := z2.own i u y1
          rw [wipeE_ne y0] at h1
          refine ⟨n, h1, fun w => h2 ?_, h3, obs h4⟩
          rcases w with w | w
          · exact .inl (.inl w)
          · exact .inr w
      · have o1 : ∀ (i : Nat) (u : U), (unlockV v1 (backV (lockV v1 s.locks) v9 own) s.locks)[i]? = some (some (.own, u)) → ∃ u0, v1[i]? = some (some (.own, u0)) := fun i u k1 => by
          obtain ⟨_, ⟨_, y, _⟩ | ⟨_, y, _⟩⟩ := own9 i u k1
          · exact ⟨u, y⟩
          · exact y
        obtain ⟨a, a'⟩ := o1 i u k1
        obtain ⟨b, b'⟩ := o1 j w k2
        exact r1.dis i j n a b a' b' k3 k4
      · rcases z with z | z
        · have := r1.fl n z; omega
        · omega
      · refine z2.kf n a ?_
        rcases b with b | b
        · exact .inl (.inl b)
        · exact .inr b
      · obtain ⟨n, es, a1, a2, a3⟩ := z2.kc k us z
        exact ⟨n, es, a1, a2, a3.up (fun _ _ _ => rfl) (fun n _ => av9 n) (List.prefix_refl κ9)⟩
    refine ⟨.ref S1.length, S9, κ9, by simp only [evE, y1, bnd_some, z1], x1.trans ⟨z3, fun n hn => ?_, ⟨by omega, s19⟩, fun i u z => ?_, fun i u z => (lck9 i u z).2.2, by rw [unlock_len, back_len, z11, lock_len]⟩, .inr ⟨rfl, S1.length, rfl, hle, fun z => ?_, rf, .inl ⟨d9, us9, rfl, z9, z10.up (fun _ _ _ => rfl) (fun n _ => av9 n) (List.prefix_refl κ9)⟩⟩⟩
    · rcases z4 n hn with w | w
      · exact .inl w
      · exact .inr (by omega)
    · obtain ⟨_, ⟨_, y, _⟩ | ⟨_, y, _⟩⟩ := own9 i u z
      · exact ⟨u, y⟩
      · exact y
    · rcases z with z | z | z
      · have := r1.fl _ z; omega
      · exact z2.kf _ z (.inr rfl)
      · have := r1.olt (own1 _ z); omega
  · cases e1
mutual
theorem E_ok (hc : CallV cl cd) : ∀ e : E, SEV cl cd e
  | .bad => fun v c w v' c' e => by simp only [vE] at e; cases e
  | .var i => ok_var i
  | .lit d => ok_lit d
  | .tup es => ok_tup (Es_ok hc es)
  | .lst es => ok_lst (Es_ok hc es)
  | .bin op a b => ok_bin (ar_ok (E_ok hc a)) (ar_ok (E_ok hc b))
  | .neg a => ok_neg (ar_ok (E_ok hc a))
  | .cmp op a b => ok_cmp (ar_ok (E_ok hc a)) (ar_ok (E_ok hc b))
  | .chain op op' a b c => ok_chain (ar_ok (E_ok hc a)) (ar_ok (E_ok hc b)) (ar_ok (E_ok hc c))
  | .and a b => ok_and (E_ok hc a) (E_ok hc b)
  | .or a b => ok_or (E_ok hc a) (E_ok hc b)
  | .not a => ok_not (ar_ok (E_ok hc a))
  | .ite c a b => ok_ite (ar_ok (E_ok hc c)) (E_ok hc a) (E_ok hc b)
  | .call f es => ok_call hc (As_ok hc es)
  | .b1 b a => ok_b1 (ar_ok (E_ok hc a))
  | .b2 b a c => ok_b2 (ar_ok (E_ok hc a)) (ar_ok (E_ok hc c))
  | .meth b a c => ok_meth (E_ok hc c)
  | .isi a t => ok_isi (ar_ok (E_ok hc a))
  | .ix a b => ok_ix (ar_ok (E_ok hc a)) (ar_ok (E_ok hc b))
  | .sl a lo hi => ok_sl (ar_ok (E_ok hc a)) (O_ok hc lo) (O_ok hc hi)
  | .rev a => ok_rev (ar_ok (E_ok hc a))
  | .dnew => ok_dnew
  | .sm b a c => ok_sm (E_ok hc a) (ar_ok (E_ok hc c))
  | .rng t a b => ok_rng (ar_ok (E_ok hc a)) (ar_ok (E_ok hc b))
  | .comp elt tg own it cond => ok_comp (E_ok hc elt) (O_ok hc cond) (I_ok hc it)
theorem I_ok (hc : CallV cl cd) : ∀ e : I, SIV cl cd e
  | .bad => fun v c w v' c' e => by simp only [vI] at e; cases e
  | .seq e => i_seq (ar_ok (E_ok hc e))
  | .r1 e => i_r1 (ar_ok (E_ok hc e))
  | .r2 e e' => i_r2 (ar_ok (E_ok hc e)) (ar_ok (E_ok hc e'))
  | .zip e e' => i_zip (ar_ok (E_ok hc e)) (ar_ok (E_ok hc e'))
  | .enum e => i_enum (ar_ok (E_ok hc e))
theorem Es_ok (hc : CallV cl cd) : ∀ e : Es, SEsV cl cd e
  | .nil => es_nil
  | .cons e r => es_cons (E_ok hc e) (Es_ok hc r)
theorem As_ok (hc : CallV cl cd) : ∀ e : Es, SAsV cl cd e
  | .nil => as_nil
  | .cons e r => as_cons (ar_ok (E_ok hc e)) (As_ok hc r)
theorem O_ok (hc : CallV cl cd) : ∀ e : Eo, SOV cl cd e
  | .none => o_none
  | .some e => o_some (E_ok hc e)
end
end
end Ev
end
section
set_option linter.all false
set_option maxRecDepth 100000
set_option maxHeartbeats 4000000
/-! Statements over values, and whole defs. -/
namespace Ev
open PySem L2
structure Sx (κ : List Nat) (ρ : Env) (S : Sto) (v : VEnv) (κ' : List Nat) (ρ' : Env) (S' : Sto) (v' : VEnv) : Prop where
  pre : κ <+: κ'
  new : ∀ n, n ∈ κ' → n ∈ κ ∨ S.length ≤ n
  fm : Fm κ ρ v S S'
  ow : ∀ n, Own ρ' v' n → Own ρ v n ∨ S.length ≤ n
  lk : ∀ (i : Nat) (u : U), v'[i]? = some (some (.lck, u)) → v[i]? = some (some (.lck, u)) ∧ ρ'[i]? = ρ[i]?
  wl : v'.length = v.length
structure Bx (κ : List Nat) (ρ : Env) (S : Sto) (v : VEnv) (κ' : List Nat) (S' : Sto) : Prop where
  pre : κ <+: κ'
  new : ∀ n, n ∈ κ' → n ∈ κ ∨ S.length ≤ n
  fm : Fm κ ρ v S S'
def ResR (F : Nat → Prop) (ρ : Env) (v : VEnv) (S : Sto) (w : W) (d : D) (κ' : List Nat) (S' : Sto) (c' : Ce) : Prop :=
  (w.1 = false ∧ VRel F κ' [] S' [] c' ∧ Rd (Av F κ' [] []) κ' S' d w.2) ∨
  (w.1 = true ∧ ∃ n, d = .ref n ∧ (Own ρ v n ∨ S.length ≤ n) ∧ ¬ Av F κ' [] [] n ∧ VRel (plus F n) κ' [] S' [] c' ∧ Ob (Av (plus F n) κ' [] []) κ' S' n w.2)
def PostT (F : Nat → Prop) (κ : List Nat) (ρ : Env) (S : Sto) (v : VEnv) (fl : FlU) (v' : VEnv) (c' : Ce) (r : R Fl) : Prop := match fl with
  | .nx => ∃ ρ' S' κ', r = some (.nx ρ', S') ∧ Sx κ ρ S v κ' ρ' S' v' ∧ VRel F κ' ρ' S' v' c'
  | .ret w => ∃ d S' κ', r = some (.ret d, S') ∧ Bx κ ρ S v κ' S' ∧ ResR F ρ v S w d κ' S' c'
section
variable {cl : Nat → List (Md × U) → Ce → Option (W × Ce)} {cd : Nat → List D → Sto → R D} {wf : Nat}
variable {F F' : Nat → Prop} {κ κ' κ1 κ2 : List Nat} {ρ ρ' ρ1 ρ2 : Env} {S S' S1 S2 : Sto} {v v' v1 v2 : VEnv} {c c' : Ce} {d : D} {u : U}
theorem Ex.sx (x : Ex ρ κ S v κ' S' v') : Sx κ ρ S v κ' ρ S' v' := ⟨x.pre, x.new, x.fm, fun n z => .inl (x.own z), fun i u z => ⟨x.lk i u z, rfl⟩, x.wl⟩
theorem Sx.bx (x : Sx κ ρ S v κ' ρ' S' v') : Bx κ ρ S v κ' S' := ⟨x.pre, x.new, x.fm⟩
theorem Sx.tb (x : Sx κ ρ S v κ1 ρ1 S1 v1) (y : Bx κ1 ρ1 S1 v1 κ2 S2) : Bx κ ρ S v κ2 S2 := by
  have hl := x.fm.le
  refine ⟨x.pre.trans y.pre, fun n h => ?_, ⟨Nat.le_trans x.fm.le y.fm.le, fun n h1 h2 h3 => ?_⟩⟩
  · rcases y.new n h with z | z
    · exact x.new n z
    · exact .inr (by omega)
  · refine (y.fm.at_ n (by omega) (fun z => ?_) (fun z => ?_)).trans (x.fm.at_ n h1 h2 h3)
    · rcases x.new n z with w | w
      · exact h2 w
      · omega
    · rcases x.ow n z with w | w
      · exact h3 w
      · omega
theorem Sx.trans (x : Sx κ ρ S v κ1 ρ1 S1 v1) (y : Sx κ1 ρ1 S1 v1 κ2 ρ2 S2 v2) : Sx κ ρ S v κ2 ρ2 S2 v2 := by
  have b := x.tb y.bx
  have hl := x.fm.le
  refine ⟨b.pre, b.new, b.fm, fun n z => ?_, fun i u z => ?_, y.wl.trans x.wl⟩
  · rcases y.ow n z with w | w
    · exact x.ow n w
    · exact .inr (by omega)
  · obtain ⟨a1, a2⟩ := y.lk i u z
    obtain ⟨b1, b2⟩ := x.lk i u a1
    exact ⟨b1, a2.trans b2⟩
theorem Sx.refl : Sx κ ρ S v κ ρ S v := Ex.refl.sx
theorem ResR.from {w : W} (x : Sx κ ρ S v κ1 ρ1 S1 v1) (h : ResR F ρ1 v1 S1 w d κ' S' c') : ResR F ρ v S w d κ' S' c' := by
  have hl := x.fm.le
  rcases h with h | ⟨h0, n, h1, h2, h3⟩
  · exact .inl h
  · refine .inr ⟨h0, n, h1, ?_, h3⟩
    rcases h2 with z | z
    · exact x.ow n z
    · exact .inr (by omega)
theorem Sx.post {fl : FlU} {r : R Fl} (x : Sx κ ρ S v κ1 ρ1 S1 v1) (h : PostT F κ1 ρ1 S1 v1 fl v' c' r) : PostT F κ ρ S v fl v' c' r := by
  cases fl with
  | nx =>
    obtain ⟨ρ', S', κ', h1, h2, h3⟩ := h
    exact ⟨ρ', S', κ', h1, x.trans h2, h3⟩
  | ret w =>
    obtain ⟨d, S', κ', h1, h2, h3⟩ := h
    exact ⟨d, S', κ', h1, x.tb h2, h3.from x⟩
theorem Sx.av (x : Sx κ ρ S v κ' ρ' S' v') {n : Nat} (hn : n < S.length) (h : Av F κ' ρ' v' n) : Av F κ ρ v n := by
  rcases h with h | h | h
  · exact .inl h
  · rcases x.new n h with z | z
    · exact .inr (.inl z)
    · omega
  · rcases x.ow n h with z | z
    · exact .inr (.inr z)
    · omega
theorem Rds.sx {ds : List D} {us : List U} (h : Rds (Av F κ ρ v) κ S ds us) (x : Sx κ ρ S v κ' ρ' S' v') : Rds (Av F κ' ρ' v') κ' S' ds us :=
  h.up (fun n hn hl => x.fm.at_ n hl (fun z => hn (.inr (.inl z))) (fun z => hn (.inr (.inr z)))) (fun n hn => x.av hn) x.pre
theorem av_nil {n : Nat} (h : Av F κ [] [] n) : Av F κ ρ v n := by
  rcases h with z | z | z
  · exact .inl z
  · exact .inr (.inl z)
  · exact absurd z own_nil
theorem VRel.drop (r : VRel F κ ρ S v c) : VRel F κ [] S [] c := ⟨rfl, fun i u h => by simp at h, fun i u h => by simp at h, fun i u h => by simp at h, fun i j n u w h => by simp at h, r.fl, r.kl, r.knd, r.kf, fun k us z => by
  obtain ⟨n, es, a1, a2, a3⟩ := r.kc k us z
  exact ⟨n, es, a1, a2, a3.up (fun _ _ _ => rfl) (fun n _ => av_nil) (List.prefix_refl κ)⟩⟩
theorem Res.ret {w : W} (h : Res F ρ S w d κ' S' v' c') : ResR F ρ v S w d κ' S' c' := by
  rcases h with ⟨h0, h1, h2⟩ | ⟨h0, n, h1, h2, h3, h4, h5⟩
  · exact .inl ⟨h0, h1.drop, h2.up (fun _ _ _ => rfl) (fun n _ => av_nil) (List.prefix_refl κ')⟩
  · exact .inr ⟨h0, n, h1, .inr h2, fun z => h3 (av_nil z), h4.drop, h5.to (fun _ _ _ => rfl) (fun n _ => av_nil) (List.prefix_refl κ') rfl⟩
/-- a slot gets a list of its own -/
theorem VRel.set1own {n i : Nat} (r : VRel (plus F n) κ ρ S v c) (hn : ¬ Av F κ ρ v n) (h : Ob (Av (plus F n) κ ρ v) κ S n u) (hlk : ∀ (i m : Nat) (u : U), v[i]? = some (some (.lck, u)) → ρ[i]? = some (some (.ref m)) → m ≠ n) : VRel F κ (ρ.set i (some (.ref n))) S (v.set i (some (.own, u))) c ∧ ∀ m, Own (ρ.set i (some (.ref n))) (v.set i (some (.own, u))) m → Own ρ v m ∨ m = n := by
  have hρ : ∀ {j : Nat}, i ≠ j → (ρ.set i (some (.ref n)))[j]? = ρ[j]? := fun z => List.getElem?_set_ne z
  have hown : ∀ {j : Nat} {w : U}, (v.set i (some (Md.own, u)))[j]? = some (some (Md.own, w)) → (i = j ∧ w = u ∧ j < v.length) ∨ (i ≠ j ∧ v[j]? = some (some (Md.own, w))) := fun z => by
    rcases get_set' z with ⟨a, q, b⟩ | q
    · cases q; exact .inl ⟨a, rfl, b⟩
    · exact .inr q
  have hO : ∀ m, Own (ρ.set i (some (.ref n))) (v.set i (some (.own, u))) m → Own ρ v m ∨ m = n := fun m ⟨j, w, z1, z2⟩ => by
    rcases hown z1 with ⟨a, b, e⟩ | ⟨a, b⟩
    · subst a
      rw [List.getElem?_set_self (by rw [r.len]; exact e)] at z2
      cases z2
      exact .inr rfl
    · rw [hρ a] at z2
      exact .inl ⟨j, w, b, z2⟩
  have hA : ∀ m, Av F κ (ρ.set i (some (.ref n))) (v.set i (some (.own, u))) m → Av (plus F n) κ ρ v m := fun m z => by
    rcases z with z | z | z
    · exact .inl (.inl z)
    · exact .inr (.inl z)
    · rcases hO m z with z | z
      · exact .inr (.inr z)
      · exact .inl (.inr z)
  have up : ∀ {d' u'}, Rd (Av (plus F n) κ ρ v) κ S d' u' → Rd (Av F κ (ρ.set i (some (.ref n))) (v.set i (some (.own, u)))) κ S d' u' := fun z => z.up (fun _ _ _ => rfl) (fun n _ => hA n) (List.prefix_refl κ)
  have obs : ∀ {n' u'}, Ob (Av (plus F n) κ ρ v) κ S n' u' → Ob (Av F κ (ρ.set i (some (.ref n))) (v.set i (some (.own, u)))) κ S n' u' := fun z => z.to (fun _ _ _ => rfl) (fun n _ => hA n) (List.prefix_refl κ) rfl
  refine ⟨⟨by simp [r.len], fun j w z => ?_, fun j w z => ?_, fun j w z => ?_, fun j k m w w' z1 z2 z3 z4 => ?_, fun m z => r.fl m (.inl z), r.kl, r.knd, fun m z w => r.kf m z (.inl w), fun k us z => ?_⟩, hO⟩
  · rcases get_set' z with ⟨_, q, _⟩ | ⟨q1, q2⟩
    · cases q
    · obtain ⟨d', y1, y2⟩ := r.shr j w q2
      exact ⟨d', by rw [hρ q1]; exact y1, up y2⟩
  · rcases get_set' z with ⟨_, q, _⟩ | ⟨q1, q2⟩
    · cases q
    · obtain ⟨m, y1, y2, y3, y4⟩ := r.lck j w q2
      refine ⟨m, by rw [hρ q1]; exact y1, y2, fun x => ?_, obs y4⟩
      rcases hO m x with x | x
      · exact y3 x
      · exact hlk j m w q2 y1 x
  · rcases hown z with ⟨a, b, e⟩ | ⟨a, b⟩
    · subst a b
      exact ⟨n, List.getElem?_set_self (by rw [r.len]; exact e), fun z => hn (.inl z), fun z => hn (.inr (.inl z)), obs h⟩
    · obtain ⟨m, y1, y2, y3, y4⟩ := r.own j w b
      exact ⟨m, by rw [hρ a]; exact y1, fun z => y2 (.inl z), y3, obs y4⟩
  · have mixed : ∀ {j : Nat} {w : U}, i ≠ j → v[j]? = some (some (Md.own, w)) → ρ[j]? = some (some (.ref n)) → False := fun _ b z => hn (.inr (.inr ⟨_, _, b, z⟩))
    rcases hown z1 with ⟨a, b, e⟩ | ⟨a, b⟩
    · rcases hown z2 with ⟨a', b', e'⟩ | ⟨a', b'⟩
      · exact a.symm.trans a'
      · subst a
        rw [List.getElem?_set_self (by rw [r.len]; exact e)] at z3
        cases z3
        rw [hρ a'] at z4
        exact (mixed a' b' z4).elim
    · rcases hown z2 with ⟨a', b', e'⟩ | ⟨a', b'⟩
      · subst a'
        rw [List.getElem?_set_self (by rw [r.len]; exact e')] at z4
        cases z4
        rw [hρ a] at z3
        exact (mixed a b z3).elim
      · rw [hρ a] at z3
        rw [hρ a'] at z4
        exact r.dis j k m w w' b b' z3 z4
  · obtain ⟨m, es, y1, y2, y3⟩ := r.kc k us z
    exact ⟨m, es, y1, y2, y3.up (fun _ _ _ => rfl) (fun n _ => hA n) (List.prefix_refl κ)⟩
/-- a cell is changed -/
theorem VRel.setCel (r : VRel F κ ρ S v c) {k n : Nat} {us us' : List U} {ds' : List D} (hk : c[k]? = some us) (hn : κ[k]? = some n) (q : Rds (Av F κ ρ v) κ S ds' us') : VRel F κ ρ (S.set n (.lst ds')) v (c.set k us') ∧ Ex ρ κ S v κ (S.set n (.lst ds')) v := by
  have nk : n ∈ κ := List.mem_iff_getElem?.mpr ⟨k, hn⟩
  have hnl := r.klt nk
  have hS : ∀ m, m ≠ n → (S.set n (.lst ds'))[m]? = S[m]? := fun m z => List.getElem?_set_ne (Ne.symm z)
  have hS' : ∀ m, ¬ Av F κ ρ v m → m < S.length → (S.set n (.lst ds'))[m]? = S[m]? := fun m z _ => hS m fun y => z (y ▸ .inr (.inl nk))
  refine ⟨⟨r.len, fun i u z => ?_, fun i u z => ?_, fun i u z => ?_, r.dis, fun m z => by simp; exact r.fl m z, by simp [r.kl], r.knd, r.kf, fun j ws z => ?_⟩, List.prefix_refl κ, fun _ z => .inl z, ⟨by simp, fun m _ z _ => hS m fun y => z (y ▸ nk)⟩, fun _ u z => ⟨u, z⟩, fun _ _ z => z, rfl⟩
  · obtain ⟨d, h1, h2⟩ := r.shr i u z
    exact ⟨d, h1, h2.up hS' (fun _ _ y => y) (List.prefix_refl κ)⟩
  · obtain ⟨m, h1, h2, h3, h4⟩ := r.lck i u z
    exact ⟨m, h1, h2, h3, h4.to hS' (fun _ _ y => y) (List.prefix_refl κ) (hS m fun y => h2 (y ▸ nk))⟩
  · obtain ⟨m, h1, h2, h3, h4⟩ := r.own i u z
    exact ⟨m, h1, h2, h3, h4.to hS' (fun _ _ y => y) (List.prefix_refl κ) (hS m fun y => h3 (y ▸ nk))⟩
  · rcases get_set' z with ⟨a, b, _⟩ | ⟨a, b⟩
    · subst a b
      exact ⟨n, ds', hn, List.getElem?_set_self hnl, q.up hS' (fun _ _ y => y) (List.prefix_refl κ)⟩
    · obtain ⟨m, es, y1, y2, y3⟩ := r.kc j ws b
      refine ⟨m, es, y1, (hS m fun y => ?_).trans y2, y3.up hS' (fun _ _ y => y) (List.prefix_refl κ)⟩
      subst y
      have h1 := lt_of_get y1
      have h2 := lt_of_get hn
      rw [List.getElem?_eq_getElem h1] at y1
      rw [List.getElem?_eq_getElem h2] at hn
      have ee : κ[j] = κ[k] := (Option.some.inj y1).trans (Option.some.inj hn).symm
      have pw := List.pairwise_iff_getElem.mp r.knd
      rcases Nat.lt_trichotomy j k with w | w | w
      · exact pw j k h1 h2 w ee
      · exact a w.symm
      · exact pw k j h2 h1 w ee.symm
theorem Kpt.sx {is : List Nat} (k : Kpt is ρ ρ' v v') : Sx κ ρ S v κ ρ' S v' := by
  have md : ∀ (j : Nat) (m : Md) (u : U), m ≠ .shr → v'[j]? = some (some (m, u)) → v[j]? = some (some (m, u)) ∧ ρ'[j]? = ρ[j]? := fun j m u hm e => by
    rcases k.md j _ e with z | ⟨z1, z2⟩
    · exact absurd z hm
    · exact ⟨z1 ▸ e, z2⟩
  exact ⟨List.prefix_refl κ, fun _ z => .inl z, ⟨Nat.le_refl _, fun _ _ _ _ => rfl⟩, fun n ⟨i, u, z1, z2⟩ => by
    obtain ⟨a, b⟩ := md i .own u (by simp) z1
    exact .inl ⟨i, u, a, b ▸ z2⟩, fun i u z => md i .lck u (by simp) z, k.wl⟩
variable (cl cd wf) in
def STV (t : T) : Prop := ∀ v c fl v' c', vT cl wf t v c = some (fl, v', c') → ∀ F κ ρ S, VRel F κ ρ S v c → PostT F κ ρ S v fl v' c' (evT cd wf t ρ S)
variable (cl cd wf) in
def STsV (t : Ts) : Prop := ∀ v c fl v' c', vTs cl wf t v c = some (fl, v', c') → ∀ F κ ρ S, VRel F κ ρ S v c → PostT F κ ρ S v fl v' c' (evTs cd wf t ρ S)
theorem t_asg {t : Tg} {e : E} (he : SEV cl cd e) : STV cl cd wf (.asg t e) := by
  intro v c fl v' c' e1 F κ ρ S r
  simp only [vT] at e1
  obtain ⟨w, v1, c1, q1, e1⟩ := vb_eq e1
  obtain ⟨d, S1, κ1, y1, x1, r1⟩ := he _ _ _ _ _ q1 F κ ρ S r
  have many : ∀ {t : Tg} {v2 : VEnv}, setU t w.2 v1 = some v2 → PostT F κ ρ S v .nx v2 c1 (evT cd wf (.asg t e) ρ S) := fun {t v2} z => by
    obtain ⟨ρ', k1, k2, k3, k4⟩ := set_rel r1.shared.1 r1.shared.2 z
    exact ⟨ρ', S1, κ1, by simp only [evT, y1, bnd_some, k1, Option.map_some], x1.sx.trans k4.sx, k2⟩
  cases t with
  | one i =>
    cases (show some (FlU.nx, v1.set i (some (mdOf w)), c1) = some (fl, v', c') from e1)
    rcases r1 with ⟨h0, h1, h2⟩ | ⟨h0, n, h1, h2, h3, h4, h5⟩
    · have hm : mdOf w = (.shr, w.2) := by unfold mdOf; rw [h0]; rfl
      rw [hm]
      exact many rfl
    · have hm : mdOf w = (.own, w.2) := by unfold mdOf; rw [h0]; rfl
      rw [hm]
      subst h1
      have hlk : ∀ (i m : Nat) (u : U), v1[i]? = some (some (.lck, u)) → ρ[i]? = some (some (.ref m)) → m ≠ n := fun i m u z1 z2 => by
        obtain ⟨m', k1, k2, k3, k4⟩ := r.lck i u (x1.lk i u z1)
        rw [z2] at k1; cases k1
        have := k4.lt
        omega
      obtain ⟨r2, o2⟩ := h4.set1own (i := i) h3 h5 hlk
      refine ⟨_, S1, κ1, by simp only [evT, y1, bnd_some, setT, Option.map_some], ⟨x1.pre, x1.new, x1.fm, fun m z => ?_, fun j u z => ?_, by simp [x1.wl]⟩, r2⟩
      · rcases o2 m z with z | z
        · exact .inl (x1.own z)
        · subst z; exact .inr h2
      · rcases get_set' z with ⟨_, b, _⟩ | ⟨a, b⟩
        · cases b
        · exact ⟨x1.lk j u b, List.getElem?_set_ne a⟩
  | many is =>
    have e1 : (match setU (.many is) w.2 v1 with
      | some v => some (FlU.nx, v, c1)
      | none => none) = some (fl, v', c') := e1
    split at e1
    · rename_i v2 h2
      cases e1
      exact many h2
    · cases e1
theorem t_par {i j : Nat} {a b : E} (ha : SEV cl cd a) (hb : SEV cl cd b) : STV cl cd wf (.par i j a b) := by
  intro v c fl v' c' e1 F κ ρ S r
  simp only [vT] at e1
  obtain ⟨w, v1, c1, q1, e1⟩ := vb_eq e1
  obtain ⟨w2, v2, c2, q2, e1⟩ := vb_eq e1
  cases e1
  obtain ⟨d, S1, κ1, y1, x1, r1⟩ := ha _ _ _ _ _ q1 F κ ρ S r
  obtain ⟨d2, S2, κ2, y2, x2, r2⟩ := hb _ _ _ _ _ q2 F κ1 ρ S1 r1.shared.1
  obtain ⟨k1, k2⟩ := r2.shared.1.set1 i (r1.shared.2.ex x2)
  obtain ⟨l1, l2⟩ := k1.set1 j (r2.shared.2.up (fun _ _ _ => rfl) (fun n _ => k2 n) (List.prefix_refl κ2))
  exact ⟨_, S2, κ2, by simp only [evT, y1, bnd_some, y2], (x1.trans x2).sx.trans ((Kpt.one (d := d) (u := w.2)).trans (Kpt.one (i := j) (d := d2) (u := w2.2))).sx, l1⟩
theorem t_setIx {o i e : E} (hi : SAV cl cd i) (he : SEV cl cd e) : STV cl cd wf (.setIx o i e) := by
  intro v c fl v' c' e1 F κ ρ S r
  simp only [vT] at e1
  split at e1
  · rename_i q hq
    obtain rfl := isVar_eq hq
    obtain ⟨w, v1, c1, q1, e1⟩ := vb_eq e1
    obtain ⟨a, v2, c2, q2, e1⟩ := vb_eq e1
    obtain ⟨d, S1, κ1, y1, x1, r1⟩ := he _ _ _ _ _ q1 F κ ρ S r
    obtain ⟨d2, S2, κ2, y2, x2, r2, o2⟩ := hi _ _ _ _ _ q2 F κ1 ρ S1 r1.shared.1
    have rd := r1.shared.2.ex x2
    split at e1
    · rename_i y hy
      have ry := o2.res r2 hy
      unfold setIxU at e1
      split at e1
      · rename_i k
        cases ry.intAt
        split at e1
        · rename_i xs hx
          split at e1
          · rename_i j hj
            cases e1
            obtain ⟨n, hn, nf, nk, ob⟩ := r2.own q _ hx
            obtain ⟨ds, hS, hds⟩ := ob.lstAt
            obtain ⟨r3, x3⟩ := r2.setOwn hx hn (hds.set rd j)
            have hj' : ixN ds.length k = some j := by rw [hds.length]; exact hj
            exact ⟨ρ, _, κ2, by simp only [evT, y1, bnd_some, evE, hn, y2, setIxD, hS, hj'], ((x1.trans x2).trans x3).sx, r3⟩
          · cases e1
        · rename_i g hx
          split at e1
          · rename_i xs hc
            split at e1
            · rename_i j hj
              cases e1
              obtain ⟨dg, hn, hrd⟩ := r2.shr q _ hx
              cases hrd with
              | @cel n _ hκ =>
                obtain ⟨n', ds, b1, b2, b3⟩ := r2.kc g xs hc
                rw [hκ] at b1; cases b1
                obtain ⟨r3, x3⟩ := r2.setCel hc hκ (b3.set rd j)
                have hj' : ixN ds.length k = some j := by rw [b3.length]; exact hj
                exact ⟨ρ, _, κ2, by simp only [evT, y1, bnd_some, evE, hn, y2, setIxD, b2, hj'], ((x1.trans x2).trans x3).sx, r3⟩
            · cases e1
          · cases e1
        · cases e1
      · cases e1
    · cases e1
  · cases e1
theorem t_augIx {o i e : E} (hi : SEV cl cd i) (he : SEV cl cd e) : STV cl cd wf (.augIx o i e) := by
  intro v c fl v' c' e1 F κ ρ S r
  simp only [vT] at e1
  split at e1
  · rename_i q hq
    obtain rfl := isVar_eq hq
    obtain ⟨w, v1, c1, q1, e1⟩ := vb_eq e1
    obtain ⟨d, S1, κ1, y1, x1, r1⟩ := hi _ _ _ _ _ q1 F κ ρ S r
    split at e1
    · rename_i m hm
      obtain ⟨w2, v2, c2, q2, e1⟩ := vb_eq e1
      obtain ⟨d2, S2, κ2, y2, x2, r2⟩ := he _ _ _ _ _ q2 F κ1 ρ S1 r1.shared.1
      split at e1
      · rename_i b hb
        unfold augU at hm
        split at hm
        · rename_i xs k hx hk
          have rk := r1.shared.2
          rw [hk] at rk
          cases rk
          have rb := r2.shared.2
          rw [hb] at rb
          cases rb
          split at hm
          · rename_i j hj
            split at hm
            · rename_i m' hm'
              split at hm
              · rename_i h0
                cases hm
                obtain ⟨n, hn, nf, nk, ob⟩ := r1.shared.1.own q _ hx
                obtain ⟨ds, hS, hds⟩ := ob.lstAt
                have hj' : ixN ds.length k = some j := by rw [hds.length]; exact hj
                have hg : ds[j]? = some (.int m) := by
                  obtain ⟨dd, g1, g2⟩ := hds.get hm'
                  cases g2
                  exact g1
                have hA : augD S1 (.ref n) (.int k) = some m := by simp only [augD, hS, hj', hg, if_pos h0]
                rw [hk] at e1
                unfold setOwnU at e1
                split at e1
                · rename_i ys kk hy hkk
                  cases hkk
                  split at e1
                  · rename_i j2 hj2
                    cases e1
                    obtain ⟨n2, hn2, nf2, nk2, ob2⟩ := r2.shared.1.own q _ hy
                    rw [hn] at hn2
                    cases hn2
                    obtain ⟨ds2, hS2, hds2⟩ := ob2.lstAt
                    obtain ⟨r3, x3⟩ := r2.shared.1.setOwn hy hn (hds2.set (.int (m + b)) j2)
                    have hj2' : ixN ds2.length k = some j2 := by rw [hds2.length]; exact hj2
                    exact ⟨ρ, _, κ2, by simp only [evT, y1, bnd_some, evE, hn, y2, setIxD, hA, hS2, hj2'], ((x1.trans x2).trans x3).sx, r3⟩
                  · cases e1
                · cases e1
              · cases hm
            · cases hm
          · cases hm
        · cases hm
      · cases e1
    · cases e1
  · cases e1
theorem keyOf_rd {A : Nat → Prop} {d : D} {u : U} {k : Key} (h : Rd A κ S d u) (e : keyOfU u = some k) : keyOf d = some k := by
  cases h <;> first | exact e | cases e
theorem keysOf_rd {A : Nat → Prop} : ∀ {ds : List D} {us : List U} {ks : List Key}, Rds A κ S ds us → optAll (us.map keyOfU) = some ks → optAll (ds.map keyOf) = some ks
  | _, _, _, .nil, e => e
  | _, _, ks, @Rds.cons _ _ _ d ds u us h r, e => by
    rw [List.map_cons] at e ⊢
    cases hx : keyOfU u with
    | none => rw [hx] at e; cases e
    | some p =>
      rw [hx] at e
      rw [keyOf_rd h hx]
      have e' : (optAll (us.map keyOfU)).map (p :: ·) = some ks := e
      show (optAll (ds.map keyOf)).map (p :: ·) = some ks
      cases hy : optAll (us.map keyOfU) with
      | none => rw [hy] at e'; cases e'
      | some qs => rw [hy] at e'; rw [keysOf_rd r hy]; exact e'
/-- the values of a dict, one set -/
def putDs : List (List Key) → List D → List Key → D → List D
  | k' :: ks, x :: ds, k, d => (if k' = k then d else x) :: putDs ks ds k d
  | _, ds, _, _ => ds
theorem putDs_len (k : List Key) (d : D) : ∀ (ks : List (List Key)) (ds : List D), (putDs ks ds k d).length = ds.length
  | [], ds => by cases ds <;> rfl
  | _ :: _, [] => rfl
  | _ :: ks, _ :: ds => by simp only [putDs, List.length_cons, putDs_len k d ks ds]
theorem putDs_zip (k : List Key) (d : D) : ∀ (ks : List (List Key)) (ds : List D), (ks.zip ds).map (fun e => if e.1 = k then (e.1, d) else e) = ks.zip (putDs ks ds k d)
  | [], ds => rfl
  | _ :: _, [] => rfl
  | k' :: ks, x :: ds => by
    simp only [List.zip_cons_cons, List.map_cons, putDs, putDs_zip k d ks ds]
    congr 1
    split <;> rfl
theorem putDs_rd {A : Nat → Prop} {k : List Key} {d : D} {u : U} (q : Rd A κ S d u) : ∀ (ks : List (List Key)) {ds : List D} {us : List U}, Rds A κ S ds us → Rds A κ S (putDs ks ds k d) (putUs ks us k u)
  | [], _, _, h => by cases h <;> simp only [putDs, putUs] <;> first | exact .nil | (constructor <;> assumption)
  | _ :: _, _, _, .nil => .nil
  | k' :: ks, _, _, .cons h r => by
    simp only [putDs, putUs]
    refine .cons ?_ (putDs_rd q ks r)
    split
    · exact q
    · exact h
theorem any_zip (k : List Key) : ∀ (ks : List (List Key)) (ds : List D), ks.length = ds.length → ((ks.zip ds).any fun e => decide (e.1 = k)) = (ks.any fun e => decide (e = k))
  | [], _, _ => rfl
  | _ :: _, [], h => by cases h
  | _ :: ks, _ :: ds, h => by simp only [List.zip_cons_cons, List.any_cons, any_zip k ks ds (by simpa using h)]
theorem t_setD {o e : E} {es : Es} (hs : SEsV cl cd es) (he : SEV cl cd e) : STV cl cd wf (.setD o es e) := by
  intro v c fl v' c' e1 F κ ρ S r
  simp only [vT] at e1
  split at e1
  · rename_i q hq
    obtain rfl := isVar_eq hq
    obtain ⟨w, v1, c1, q1, e1⟩ := vb_eq e1
    obtain ⟨ys, v2, c2, q2, e1⟩ := vb_eq e1
    obtain ⟨d, S1, κ1, y1, x1, r1⟩ := he _ _ _ _ _ q1 F κ ρ S r
    obtain ⟨ds2, S2, κ2, y2, x2, r2, z2⟩ := hs _ _ _ _ _ q2 F κ1 ρ S1 r1.shared.1
    have rd := r1.shared.2.ex x2
    unfold setDU at e1
    split at e1
    · rename_i ks us hx
      split at e1
      · rename_i k hk
        split at e1
        · rename_i hz
          cases e1
          obtain ⟨n, hn, nf, nk, ob⟩ := r2.own q _ hx
          obtain ⟨ds, hS, hl, hds⟩ := ob.dctAt
          have hk' := keysOf_rd z2 hk
          have hzl : (ks.zip ds).length < 100000 ∧ k.length ≤ 100000 := by rw [List.length_zip, ← hl, Nat.min_self]; exact hz
          unfold putU
          by_cases ha : (ks.any fun e => decide (e = k)) = true
          · rw [if_pos ha]
            obtain ⟨r3, x3⟩ := r2.setDct hx hn (ks := ks) (ds := putDs ks ds k d) (by rw [putDs_len]; exact hl) (putDs_rd rd ks hds)
            refine ⟨ρ, _, κ2, ?_, ((x1.trans x2).trans x3).sx, r3⟩
            have hp : putD (ks.zip ds) k d = ks.zip (putDs ks ds k d) := by unfold putD; rw [any_zip k ks ds hl, if_pos ha, putDs_zip]
            simp only [evT, y1, bnd_some, evE, hn, y2, setDD, hS, hk', if_pos hzl, hp]
          · rw [if_neg ha]
            obtain ⟨r3, x3⟩ := r2.setDct hx hn (ks := ks ++ [k]) (ds := ds ++ [d]) (by simp [hl]) (hds.append (.cons rd .nil))
            refine ⟨ρ, _, κ2, ?_, ((x1.trans x2).trans x3).sx, r3⟩
            have hp : putD (ks.zip ds) k d = (ks ++ [k]).zip (ds ++ [d]) := by unfold putD; rw [any_zip k ks ds hl, if_neg ha, List.zip_append hl]; rfl
            simp only [evT, y1, bnd_some, evE, hn, y2, setDD, hS, hk', if_pos hzl, hp]
        · cases e1
      · cases e1
    · cases e1
  · cases e1
theorem t_expr {e : E} (he : SEV cl cd e) : STV cl cd wf (.expr e) := by
  intro v c fl v' c' e1 F κ ρ S r
  simp only [vT] at e1
  obtain ⟨w, v1, c1, q1, e1⟩ := vb_eq e1
  cases e1
  obtain ⟨d, S1, κ1, y1, x1, r1⟩ := he _ _ _ _ _ q1 F κ ρ S r
  exact ⟨ρ, S1, κ1, by simp only [evT, y1, bnd_some], x1.sx, r1.shared.1⟩
theorem t_ret {e : E} (he : SEV cl cd e) : STV cl cd wf (.ret e) := by
  intro v c fl v' c' e1 F κ ρ S r
  simp only [vT, retOf] at e1
  split at e1
  · rename_i i hi
    obtain rfl := isVar_eq hi
    split at e1
    · rename_i u hu
      cases e1
      obtain ⟨n, hn, nf, nk, ob⟩ := r.own i u hu
      have on : Own ρ v n := ⟨i, u, hu, hn⟩
      have hA : ∀ m, Av (plus F n) κ [] [] m → Av F κ ρ v m := fun m z => by
        rcases z with (z | z) | z | z
        · exact .inl z
        · subst z; exact .inr (.inr on)
        · exact .inr (.inl z)
        · exact absurd z own_nil
      refine ⟨.ref n, S, κ, by simp only [evT, evE, hn, bnd_some], ⟨List.prefix_refl κ, fun _ z => .inl z, ⟨Nat.le_refl _, fun _ _ _ _ => rfl⟩⟩, .inr ⟨rfl, n, rfl, .inl on, fun z => ?_, ⟨rfl, fun i u h => by simp at h, fun i u h => by simp at h, fun i u h => by simp at h, fun i j n u w h => by simp at h, fun m z => ?_, r.kl, r.knd, fun m a b => ?_, fun k us z => ?_⟩, ob.to (fun _ _ _ => rfl) (fun m _ => hA m) (List.prefix_refl κ) rfl⟩⟩
      · rcases z with z | z | z
        · exact nf z
        · exact nk z
        · exact own_nil z
      · rcases z with z | z
        · exact r.fl m z
        · subst z; exact ob.lt
      · rcases b with b | b
        · exact r.kf m a b
        · subst b; exact nk a
      · obtain ⟨m, es, a1, a2, a3⟩ := r.kc k us z
        exact ⟨m, es, a1, a2, a3.up (fun _ _ _ => rfl) (fun m _ => hA m) (List.prefix_refl κ)⟩
    · rename_i u hu
      cases e1
      obtain ⟨d, h1, h2⟩ := r.shr i u hu
      exact ⟨d, S, κ, by simp only [evT, evE, h1, bnd_some], ⟨List.prefix_refl κ, fun _ z => .inl z, ⟨Nat.le_refl _, fun _ _ _ _ => rfl⟩⟩, .inl ⟨rfl, r.drop, h2.up (fun _ _ _ => rfl) (fun n _ => av_nil) (List.prefix_refl κ)⟩⟩
    · cases e1
  · obtain ⟨w, v1, c1, q1, e1⟩ := vb_eq e1
    cases e1
    obtain ⟨d, S1, κ1, y1, x1, r1⟩ := he _ _ _ _ _ q1 F κ ρ S r
    exact ⟨d, S1, κ1, by simp only [evT, y1, bnd_some], x1.sx.bx, r1.ret⟩
theorem c_ok {e : E} (he : SAV cl cd e) {b : Bool} (h : vC cl e v c = some (b, v', c')) (r : VRel F κ ρ S v c) : ∃ S' κ', evC cd e ρ S = some (b, S') ∧ Ex ρ κ S v κ' S' v' ∧ VRel F κ' ρ S' v' c' := by
  unfold vC at h
  obtain ⟨a, v1, c1, q1, h⟩ := vb_eq h
  obtain ⟨d, S1, κ1, y1, x1, r1, o1⟩ := he _ _ _ _ _ q1 F κ ρ S r
  split at h
  · rename_i x hx
    split at h
    · rename_i b' hb
      cases h
      exact ⟨S1, κ1, by simp only [evC, y1, bnd_some, (o1.res r1 hx).tru hb, Option.map_some], x1, r1⟩
    · cases h
  · cases h
theorem ts_nil : STsV cl cd wf .nil := by
  intro v c fl v' c' e1 F κ ρ S r
  simp only [vTs] at e1
  cases e1
  exact ⟨ρ, S, κ, by simp only [evTs], .refl, r⟩
theorem ts_cons {t : T} {ts : Ts} (h : STV cl cd wf t) (hs : STsV cl cd wf ts) : STsV cl cd wf (.cons t ts) := by
  intro v c fl v' c' e1 F κ ρ S r
  simp only [vTs] at e1
  obtain ⟨f1, v1, c1, q1, e1⟩ := vb_eq e1
  have p1 := h _ _ _ _ _ q1 F κ ρ S r
  cases f1 with
  | nx =>
    obtain ⟨ρ1, S1, κ1, y1, x1, r1⟩ := p1
    have e : evTs cd wf (.cons t ts) ρ S = evTs cd wf ts ρ1 S1 := by simp only [evTs, y1, bnd_some]
    rw [e]
    exact x1.post (hs _ _ _ _ _ e1 F κ1 ρ1 S1 r1)
  | ret w =>
    cases e1
    obtain ⟨d, S1, κ1, y1, x1, r1⟩ := p1
    exact ⟨d, S1, κ1, by simp only [evTs, y1, bnd_some], x1, r1⟩
theorem t_ife {e : E} {a b : Ts} (he : SAV cl cd e) (ha : STsV cl cd wf a) (hb : STsV cl cd wf b) : STV cl cd wf (.ife e a b) := by
  intro v c fl v' c' e1 F κ ρ S r
  simp only [vT] at e1
  obtain ⟨b1, v1, c1, q1, e1⟩ := vb_eq e1
  obtain ⟨S1, κ1, y1, x1, r1⟩ := c_ok he q1 r
  split at e1
  · rename_i hb1
    have e : evT cd wf (.ife e a b) ρ S = evTs cd wf a ρ S1 := by simp only [evT, y1, bnd_some, if_pos hb1]
    rw [e]
    exact x1.sx.post (ha _ _ _ _ _ e1 F κ1 ρ S1 r1)
  · rename_i hb1
    have e : evT cd wf (.ife e a b) ρ S = evTs cd wf b ρ S1 := by simp only [evT, y1, bnd_some, if_neg hb1]
    rw [e]
    exact x1.sx.post (hb _ _ _ _ _ e1 F κ1 ρ S1 r1)
theorem t_while {e : E} {b : Ts} (he : SAV cl cd e) (hb : STsV cl cd wf b) : STV cl cd wf (.while e b) := by
  have key : ∀ (k : Nat) v c fl v' c', whileU (vC cl e) (vTs cl wf b) k v c = some (fl, v', c') → ∀ F κ ρ S, VRel F κ ρ S v c → PostT F κ ρ S v fl v' c' (whileL (evC cd e) (evTs cd wf b) k ρ S) := by
    intro k
    induction k with
    | zero => intro v c fl v' c' e1; cases e1
    | succ k ih =>
      intro v c fl v' c' e1 F κ ρ S r
      unfold whileU at e1
      obtain ⟨b1, v1, c1, q1, e1⟩ := vb_eq e1
      obtain ⟨S1, κ1, y1, x1, r1⟩ := c_ok he q1 r
      unfold whileL
      rw [y1, bnd_some]
      split at e1
      · rename_i hb1
        rw [if_pos hb1]
        obtain ⟨f2, v2, c2, q2, e1⟩ := vb_eq e1
        have p2 := hb _ _ _ _ _ q2 F κ1 ρ S1 r1
        cases f2 with
        | nx =>
          obtain ⟨ρ2, S2, κ2, y2, x2, r2⟩ := p2
          rw [y2, bnd_some]
          exact (x1.sx.trans x2).post (ih _ _ _ _ _ e1 F κ2 ρ2 S2 r2)
        | ret w =>
          cases e1
          obtain ⟨d, S2, κ2, y2, x2, r2⟩ := p2
          rw [y2, bnd_some]
          exact ⟨d, S2, κ2, rfl, x1.sx.tb x2, r2.from x1.sx⟩
      · rename_i hb1
        rw [if_neg hb1]
        cases e1
        exact ⟨ρ, S1, κ1, rfl, x1.sx, r1⟩
  intro v c fl v' c' e1 F κ ρ S r
  have := key wf v c fl v' c' (by simpa only [vT] using e1) F κ ρ S r
  simpa only [evT] using this
theorem ResR.weak {w : W} (h : ResR F ρ v S w d κ' S' c') (h1 : ∀ n, F' n → F n) (h2 : ∀ n, Own ρ v n → Own ρ' v' n) : ResR F' ρ' v' S w d κ' S' c' := by
  have hA : ∀ n, Av F' κ' [] [] n → Av F κ' [] [] n := fun n z => by
    rcases z with z | z
    · exact .inl (h1 n z)
    · exact .inr z
  rcases h with ⟨k0, k1, k2⟩ | ⟨k0, n, k1, k2, k3, k4, k5⟩
  · exact .inl ⟨k0, k1.weak h1, k2.up (fun _ _ _ => rfl) (fun n _ => hA n) (List.prefix_refl κ')⟩
  · refine .inr ⟨k0, n, k1, ?_, fun z => k3 (hA n z), k4.weak fun m z => ?_, k5.to (fun _ _ _ => rfl) (fun m _ z => ?_) (List.prefix_refl κ') rfl⟩
    · rcases k2 with z | z
      · exact .inl (h2 n z)
      · exact .inr z
    · rcases z with z | z
      · exact .inl (h1 m z)
      · exact .inr z
    · rcases z with (z | z) | z
      · exact .inl (.inl (h1 m z))
      · exact .inl (.inr z)
      · exact .inr z
theorem t_for {t : Tg} {it : I} {b : Ts} (hi : SIV cl cd it) (hb : STsV cl cd wf b) : STV cl cd wf (.for t it b) := by
  intro v c fl v' c' e1 F κ ρ S r
  simp only [vT] at e1
  obtain ⟨s, v1, c1, q1, e1⟩ := vb_eq e1
  obtain ⟨f9, v9, c9, q9, e1⟩ := vb_eq e1
  obtain ⟨sd, S1, κ1, y1, x1, r1, ok⟩ := hi _ _ _ _ _ q1 F κ ρ S r
  have rl := r1.lock s.locks
  have hheld : ∀ p, p ∈ sd.held → itemsAt S1 p.1 = some p.2 ∧ p.1 < S1.length ∧ p.1 ∉ κ1 ∧ ¬ Own ρ (lockV v1 s.locks) p.1 := fun p hp => by
    obtain ⟨a1, a2, a3⟩ := ok.held p hp
    refine ⟨a1, ?_, a2, a3⟩
    unfold itemsAt at a1
    split at a1
    · rename_i e; exact lt_of_get e
    · rename_i e; exact lt_of_get e
    · cases a1
    · cases a1
  have key : ∀ (us : List U) (ds : List D) (v : VEnv) (c : Ce) (κ : List Nat) (ρ2 : Env) (S : Sto) {fl : FlU} {v9 : VEnv} {c9 : Ce}, forU (fun d v c => match setU t d v with
      | none => none
      | some v2 => vTs cl wf b v2 c) us v c = some (fl, v9, c9) → VRel (lkF F ρ v1 s.locks) κ ρ2 S v c → Sx κ1 ρ S1 (lockV v1 s.locks) κ ρ2 S v → Rds (Av (lkF F ρ v1 s.locks) κ ρ2 v) κ S ds us →
      PostT (lkF F ρ v1 s.locks) κ1 ρ S1 (lockV v1 s.locks) fl v9 c9 (forL sd (stepF t (evTs cd wf b)) ds ρ2 S) := by
    intro us
    induction us with
    | nil =>
      intro ds v c κ ρ2 S fl v9 c9 e r x h
      cases h
      cases e
      have hok : sd.ok S := fun p hp => by
        obtain ⟨a1, a2, a3, a4⟩ := hheld p hp
        rw [items_same (x.fm.at_ p.1 a2 a3 a4)]
        exact a1
      refine ⟨ρ2, S, κ, ?_, x, r⟩
      unfold forL
      rw [if_pos hok]
    | cons u us ih =>
      intro ds v c κ ρ2 S fl v9 c9 e r x h
      cases h with
      | @cons d ds _ _ hd h =>
        have hok : sd.ok S := fun p hp => by
          obtain ⟨a1, a2, a3, a4⟩ := hheld p hp
          rw [items_same (x.fm.at_ p.1 a2 a3 a4)]
          exact a1
        unfold forU at e
        obtain ⟨f1, va, ca, qa, e⟩ := vb_eq e
        split at qa
        · cases qa
        · rename_i v2 h2
          obtain ⟨ρ3, k1, k2, k3, k4⟩ := set_rel r hd h2
          have p1 := hb _ _ _ _ _ qa _ κ ρ3 S k2
          have es : stepF t (evTs cd wf b) d ρ2 S = evTs cd wf b ρ3 S := by simp only [stepF, k1]
          cases f1 with
          | nx =>
            obtain ⟨ρ4, S4, κ4, y4, x4, r4⟩ := p1
            have e4 : forL sd (stepF t (evTs cd wf b)) (d :: ds) ρ2 S = forL sd (stepF t (evTs cd wf b)) ds ρ4 S4 := by
              conv => lhs; unfold forL
              rw [if_pos hok, es, y4, bnd_some]
            rw [e4]
            have x5 := k4.sx.trans x4
            exact ih ds va ca κ4 ρ4 S4 e r4 (x.trans x5) (h.sx x5)
          | ret w =>
            cases e
            obtain ⟨d4, S4, κ4, y4, x4, r4⟩ := p1
            have x5 : Sx κ1 ρ S1 (lockV v1 s.locks) κ ρ3 S v2 := x.trans k4.sx
            refine ⟨d4, S4, κ4, ?_, x5.tb x4, r4.from x5⟩
            conv => lhs; unfold forL
            rw [if_pos hok, es, y4, bnd_some]
  have main := key s.items sd.items (lockV v1 s.locks) c1 κ1 ρ S1 q9 rl .refl (ok.items.up (fun _ _ _ => rfl) (fun n _ => lock_av.mp) (List.prefix_refl κ1))
  have eD : evT cd wf (.for t it b) ρ S = forL sd (stepF t (evTs cd wf b)) sd.items ρ S1 := by simp only [evT, y1, bnd_some]
  rw [eD]
  cases f9 with
  | ret w =>
    cases e1
    obtain ⟨d, S9, κ9, y9, x9, r9⟩ := main
    have xx : Bx κ1 ρ S1 v1 κ9 S9 := ⟨x9.pre, x9.new, ⟨x9.fm.le, fun n h1 h2 h3 => x9.fm.at_ n h1 h2 fun z => h3 (lock_Own z)⟩⟩
    exact x1.sx.post (fl := .ret w) ⟨d, S9, κ9, y9, xx, r9.weak (fun n z => .inl z) (fun n z => lock_Own z)⟩
  | nx =>
    cases e1
    obtain ⟨ρ9, S9, κ9, y9, x9, r9⟩ := main
    have ow : ∀ (i : Nat) (u : U), (unlockV v1 v9 s.locks)[i]? = some (some (.own, u)) → v9[i]? = some (some (.own, u)) ∨ (i ∈ s.locks ∧ v1[i]? = some (some (.own, u)) ∧ v9[i]? = some (some (.lck, u)) ∧ ρ9[i]? = ρ[i]?) := fun i u z => by
      rcases unlock_get _ _ _ _ _ z with z | ⟨u', u0, k1, k2, k3, k4⟩
      · exact .inl z
      · cases k4
        obtain ⟨a, b⟩ := x9.lk i u k3
        rcases lock_lck a with a | ⟨a, _⟩
        · rw [k2] at a; cases a
        · exact .inr ⟨k1, a, k3, b⟩
    have lc : ∀ (i : Nat) (u : U), (unlockV v1 v9 s.locks)[i]? = some (some (.lck, u)) → v9[i]? = some (some (.lck, u)) ∧ v1[i]? = some (some (.lck, u)) ∧ ρ9[i]? = ρ[i]? := fun i u z => by
      rcases unlock_get _ _ _ _ _ z with z' | ⟨_, _, _, _, _, k4⟩
      · obtain ⟨a, b⟩ := x9.lk i u z'
        rcases lock_lck a with a | ⟨a, a'⟩
        · exact ⟨z', a, b⟩
        · exact absurd z (unlock_lck _ _ _ i u u a' a)
      · cases k4
    have oO : ∀ n, Own ρ9 (unlockV v1 v9 s.locks) n → Own ρ9 v9 n ∨ (lkF F ρ v1 s.locks n ∧ Own ρ v1 n) := fun n ⟨i, u, z1, z2⟩ => by
      rcases ow i u z1 with z | ⟨k1, k2, k3, k4⟩
      · exact .inl ⟨i, u, z, z2⟩
      · rw [k4] at z2
        exact .inr ⟨.inr ⟨i, u, k1, k2, z2⟩, i, u, k2, z2⟩
    have hA : ∀ n, Av F κ9 ρ9 (unlockV v1 v9 s.locks) n → Av (lkF F ρ v1 s.locks) κ9 ρ9 v9 n := fun n z => by
      rcases z with z | z | z
      · exact .inl (.inl z)
      · exact .inr (.inl z)
      · rcases oO n z with z | z
        · exact .inr (.inr z)
        · exact .inl z.1
    have obs : ∀ {n u}, Ob (Av (lkF F ρ v1 s.locks) κ9 ρ9 v9) κ9 S9 n u → Ob (Av F κ9 ρ9 (unlockV v1 v9 s.locks)) κ9 S9 n u := fun z => z.to (fun _ _ _ => rfl) (fun n _ => hA n) (List.prefix_refl κ9) rfl
    refine x1.sx.post (fl := .nx) ⟨ρ9, S9, κ9, y9, ⟨x9.pre, x9.new, ⟨x9.fm.le, fun n h1 h2 h3 => x9.fm.at_ n h1 h2 fun z => h3 (lock_Own z)⟩, fun n z => ?_, fun i u z => (lc i u z).2, by rw [unlock_len, x9.wl, lock_len]⟩, ⟨by rw [unlock_len]; exact r9.len, fun i u z => ?_, fun i u z => ?_, fun i u z => ?_, fun i j n u w z1 z2 z3 z4 => ?_, fun n z => r9.fl n (.inl z), r9.kl, r9.knd, fun n a b => r9.kf n a (.inl b), fun k us z => ?_⟩⟩
    · rcases oO n z with z | z
      · rcases x9.ow n z with z | z
        · exact .inl (lock_Own z)
        · exact .inr z
      · exact .inl z.2
    · have z' : v9[i]? = some (some (.shr, u)) := by
        rcases unlock_get _ _ _ _ _ z with z | ⟨_, _, _, _, _, k4⟩
        · exact z
        · cases k4
      obtain ⟨d, h1, h2⟩ := r9.shr i u z'
      exact ⟨d, h1, h2.up (fun _ _ _ => rfl) (fun n _ => hA n) (List.prefix_refl κ9)⟩
    · obtain ⟨a1, a2, a3⟩ := lc i u z
      obtain ⟨n, h1, h2, h3, h4⟩ := r9.lck i u a1
      obtain ⟨n', k1, k2, k3, k4⟩ := r1.lck i u a2
      rw [a3, k1] at h1
      cases h1
      refine ⟨n, by rw [a3]; exact k1, h2, fun w => ?_, obs h4⟩
      rcases oO n w with w | w
      · exact h3 w
      · exact k3 w.2
    · rcases ow i u z with z | ⟨k1, k2, k3, k4⟩
      · obtain ⟨n, h1, h2, h3, h4⟩ := r9.own i u z
        exact ⟨n, h1, fun w => h2 (.inl w), h3, obs h4⟩
      · obtain ⟨n, h1, h2, h3, h4⟩ := r9.lck i u k3
        obtain ⟨n', l1, l2, l3, l4⟩ := r1.own i u k2
        rw [k4, l1] at h1
        cases h1
        exact ⟨n, by rw [k4]; exact l1, l2, h2, obs h4⟩
    · have nF : ∀ (i : Nat) (u : U) (n : Nat), v9[i]? = some (some (.own, u)) → ρ9[i]? = some (some (.ref n)) → ¬ lkF F ρ v1 s.locks n := fun i u n a b => by
        obtain ⟨n', k1, k2, _⟩ := r9.own i u a
        rw [b] at k1; cases k1
        exact k2
      rcases ow i u z1 with a | ⟨a1, a2, a3, a4⟩
      · rcases ow j w z2 with b | ⟨b1, b2, b3, b4⟩
        · exact r9.dis i j n u w a b z3 z4
        · rw [b4] at z4
          exact absurd (.inr ⟨j, w, b1, b2, z4⟩) (nF i u n a z3)
      · rw [a4] at z3
        rcases ow j w z2 with b | ⟨b1, b2, b3, b4⟩
        · exact absurd (.inr ⟨i, u, a1, a2, z3⟩) (nF j w n b z4)
        · rw [b4] at z4
          exact r1.dis i j n u w a2 b2 z3 z4
    · obtain ⟨n, es, a1, a2, a3⟩ := r9.kc k us z
      exact ⟨n, es, a1, a2, a3.up (fun _ _ _ => rfl) (fun n _ => hA n) (List.prefix_refl κ9)⟩
mutual
theorem T_ok (hc : CallV cl cd) : ∀ t : T, STV cl cd wf t
  | .bad => fun v c fl v' c' e => by simp only [vT] at e; cases e
  | .asg t e => t_asg (E_ok hc e)
  | .par i j a b => t_par (E_ok hc a) (E_ok hc b)
  | .setIx o i e => t_setIx (ar_ok (E_ok hc i)) (E_ok hc e)
  | .augIx o i e => t_augIx (E_ok hc i) (E_ok hc e)
  | .setD o es e => t_setD (Es_ok hc es) (E_ok hc e)
  | .expr e => t_expr (E_ok hc e)
  | .ret e => t_ret (E_ok hc e)
  | .ife c a b => t_ife (ar_ok (E_ok hc c)) (Ts_ok hc a) (Ts_ok hc b)
  | .for t it b => t_for (I_ok hc it) (Ts_ok hc b)
  | .while c b => t_while (ar_ok (E_ok hc c)) (Ts_ok hc b)
  | .pass => fun v c fl v' c' e F κ ρ S r => by
    simp only [vT] at e
    cases e
    exact ⟨ρ, S, κ, by simp only [evT], .refl, r⟩
theorem Ts_ok (hc : CallV cl cd) : ∀ t : Ts, STsV cl cd wf t
  | .nil => ts_nil
  | .cons t r => ts_cons (T_ok hc t) (Ts_ok hc r)
end
end
theorem VRel.pad {F : Nat → Prop} {κ : List Nat} {ρ : Env} {S : Sto} {v : VEnv} {c : Ce} (r : VRel F κ ρ S v c) (m : Nat) : VRel F κ (ρ ++ List.replicate m none) S (v ++ List.replicate m none) c := by
  have gv : ∀ {i : Nat} {p : Md × U}, (v ++ List.replicate m none)[i]? = some (some p) → v[i]? = some (some p) ∧ (ρ ++ List.replicate m none)[i]? = ρ[i]? := fun {i p} z => by
    rcases Nat.lt_or_ge i v.length with h | h
    · rw [List.getElem?_append_left h] at z
      exact ⟨z, List.getElem?_append_left (by rw [r.len]; exact h)⟩
    · rw [List.getElem?_append_right h, List.getElem?_replicate] at z
      split at z <;> cases z
  have hA : ∀ n, Av F κ (ρ ++ List.replicate m none) (v ++ List.replicate m none) n → Av F κ ρ v n := fun n z => by
    rcases z with z | z | ⟨i, u, z1, z2⟩
    · exact .inl z
    · exact .inr (.inl z)
    · obtain ⟨a, b⟩ := gv z1
      exact .inr (.inr ⟨i, u, a, b ▸ z2⟩)
  have obs : ∀ {n u}, Ob (Av F κ ρ v) κ S n u → Ob (Av F κ (ρ ++ List.replicate m none) (v ++ List.replicate m none)) κ S n u := fun z => z.to (fun _ _ _ => rfl) (fun n _ => hA n) (List.prefix_refl κ) rfl
  refine ⟨by simp [r.len], fun i u z => ?_, fun i u z => ?_, fun i u z => ?_, fun i j n u w z1 z2 z3 z4 => ?_, r.fl, r.kl, r.knd, r.kf, fun k us z => ?_⟩
  · obtain ⟨a, b⟩ := gv z
    obtain ⟨d, h1, h2⟩ := r.shr i u a
    exact ⟨d, b.trans h1, h2.up (fun _ _ _ => rfl) (fun n _ => hA n) (List.prefix_refl κ)⟩
  · obtain ⟨a, b⟩ := gv z
    obtain ⟨n, h1, h2, h3, h4⟩ := r.lck i u a
    refine ⟨n, b.trans h1, h2, fun ⟨j, w, y1, y2⟩ => ?_, obs h4⟩
    obtain ⟨p, q⟩ := gv y1
    exact h3 ⟨j, w, p, q ▸ y2⟩
  · obtain ⟨a, b⟩ := gv z
    obtain ⟨n, h1, h2, h3, h4⟩ := r.own i u a
    exact ⟨n, b.trans h1, h2, h3, obs h4⟩
  · obtain ⟨a, b⟩ := gv z1
    obtain ⟨p, q⟩ := gv z2
    exact r.dis i j n u w a p (b ▸ z3) (q ▸ z4)
  · obtain ⟨n, es, y1, y2, y3⟩ := r.kc k us z
    exact ⟨n, es, y1, y2, y3.up (fun _ _ _ => rfl) (fun n _ => hA n) (List.prefix_refl κ)⟩
theorem vcall_ok (P : List Fn) (wf : Nat) (cf : Nat → Bool) : ∀ k, CallV (vcall P wf cf k) (callF P wf k)
  | 0 => fun f us c w c' e => by cases e
  | k + 1 => fun f us c w c' e F κ S ds r => by
    have ih := vcall_ok P wf cf k
    unfold vcall at e
    split at e
    · cases e
    · rename_i Fn hF
      split at e
      · rename_i hc
        obtain ⟨h1, h2⟩ := hc
        have hlen : ds.length = us.length := by have := r.len; simpa using this
        have r0 := r.pad (Fn.n - Fn.np)
        have nO : ∀ n, ¬ Own (ds.map some ++ List.replicate (Fn.n - Fn.np) none) (us.map some ++ List.replicate (Fn.n - Fn.np) none) n := fun n ⟨i, u, z1, _⟩ => by
          rcases Nat.lt_or_ge i (us.map some).length with h | h
          · rw [List.getElem?_append_left h, List.getElem?_map] at z1
            cases hx : us[i]? with
            | none => rw [hx] at z1; cases z1
            | some p =>
              rw [hx] at z1; cases z1
              have := List.all_eq_true.mp h2 _ (List.mem_iff_getElem?.mpr ⟨i, hx⟩)
              simp at this
          · rw [List.getElem?_append_right h, List.getElem?_replicate] at z1
            split at z1 <;> cases z1
        have cD : callF P wf (k + 1) f ds S = bnd (evTs (callF P wf k) wf Fn.body (ds.map some ++ List.replicate (Fn.n - Fn.np) none) S) fun r S1 => match r with
            | .nx _ => some (.non, S1)
            | .ret d => some (d, S1) := by
          conv => lhs; unfold callF
          rw [hF]
          show (if ds.length = Fn.np then _ else _) = _
          rw [if_pos (by rw [hlen]; exact h1)] <;> rfl
        have ex : ∀ {κ' : List Nat} {S' : Sto}, Bx κ (ds.map some ++ List.replicate (Fn.n - Fn.np) none) S (us.map some ++ List.replicate (Fn.n - Fn.np) none) κ' S' → Ex [] κ S [] κ' S' [] := fun b => ⟨b.pre, b.new, ⟨b.fm.le, fun n a1 a2 _ => b.fm.at_ n a1 a2 (nO n)⟩, fun _ _ z => by simp at z, fun _ _ z => by simp at z, rfl⟩
        split at e
        · rename_i v' c1 hv
          cases e
          obtain ⟨ρ', S', κ', y1, x1, r1⟩ := Ts_ok (wf := wf) ih Fn.body _ _ _ _ _ hv F κ _ S r0
          exact ⟨.non, S', κ', by rw [cD, y1, bnd_some], ex x1.bx, .inl ⟨rfl, r1.drop, .non⟩⟩
        · rename_i w1 v' c1 hv
          obtain ⟨rfl, rfl⟩ : w = (celOf cf f w1 c1).1 ∧ c' = (celOf cf f w1 c1).2 := by
            have e' : celOf cf f w1 c1 = (w, c') := Option.some.inj e
            rw [e']; exact ⟨rfl, rfl⟩
          obtain ⟨d, S', κ', y1, x1, r1⟩ := Ts_ok (wf := wf) ih Fn.body _ _ _ _ _ hv F κ _ S r0
          have xx := ex x1
          have hD : callF P wf (k + 1) f ds S = some (d, S') := by rw [cD, y1, bnd_some]
          have plain : ∃ d S' κ', callF P wf (k + 1) f ds S = some (d, S') ∧ Ex [] κ S [] κ' S' [] ∧ Res F [] S w1 d κ' S' [] c1 := by
            refine ⟨d, S', κ', hD, xx, ?_⟩
            rcases r1 with z | ⟨z0, n, z1, z2, z3⟩
            · exact .inl z
            · refine .inr ⟨z0, n, z1, ?_, z3⟩
              rcases z2 with z2 | z2
              · exact absurd z2 (nO n)
              · exact z2
          unfold celOf
          split
          · rename_i us'
            split
            · rename_i hcf
              rcases r1 with ⟨z0, _⟩ | ⟨z0, n, z1, z2, z3, z4, ⟨ds', us'', z5, z6, z7⟩ | ⟨_, _, _, z5, _⟩⟩
              rotate_left 2
              · cases z5
              · cases z0
              · cases z5
                have hn : S.length ≤ n := by
                  rcases z2 with z2 | z2
                  · exact absurd z2 (nO n)
                  · exact z2
                have nk : n ∉ κ' := fun z => z3 (.inr (.inl z))
                have hA : ∀ m, Av F (κ' ++ [n]) [] [] m → Av (plus F n) κ' [] [] m := fun m z => by
                  rcases z with z | z | z
                  · exact .inl (.inl z)
                  · rcases List.mem_append.mp z with z | z
                    · exact .inr (.inl z)
                    · exact .inl (.inr (List.mem_singleton.mp z))
                  · exact absurd z own_nil
                refine ⟨d, S', κ' ++ [n], hD, ⟨xx.pre.trans (List.prefix_append _ _), fun m z => ?_, xx.fm, xx.mono, xx.lk, rfl⟩, .inl ⟨rfl, ⟨rfl, fun i u h => by simp at h, fun i u h => by simp at h, fun i u h => by simp at h, fun i j n u w h => by simp at h, fun m z => z4.fl m (.inl z), by simp [z4.kl], ?_, fun m a b => ?_, fun k us z => ?_⟩, ?_⟩⟩
                · rcases List.mem_append.mp z with z | z
                  · exact xx.new m z
                  · rw [List.mem_singleton.mp z]; exact .inr hn
                · rw [List.nodup_append]
                  refine ⟨z4.knd, by simp, fun a ha b hb => ?_⟩
                  rw [List.mem_singleton.mp hb]
                  exact fun q => nk (q ▸ ha)
                · rcases List.mem_append.mp a with a | a
                  · exact z4.kf m a (.inl b)
                  · rw [List.mem_singleton.mp a] at b
                    exact z3 (.inl b)
                · rcases Nat.lt_or_ge k c1.length with h | h
                  · rw [List.getElem?_append_left h] at z
                    obtain ⟨m, es, y1, y2, y3⟩ := z4.kc k us z
                    exact ⟨m, es, by rw [List.getElem?_append_left (lt_of_get y1)]; exact y1, y2, y3.up (fun _ _ _ => rfl) (fun n _ => hA n) (List.prefix_append _ _)⟩
                  · have hk : k = c1.length := by
                      have := lt_of_get z
                      simp at this
                      omega
                    subst hk
                    simp at z
                    subst z
                    exact ⟨n, ds', by rw [← z4.kl]; simp, z6, z7.up (fun _ _ _ => rfl) (fun n _ => hA n) (List.prefix_append _ _)⟩
                · subst z1
                  exact .cel (by rw [← z4.kl]; simp)
            · exact plain
          · exact plain
        · cases e
      · cases e
/-- the law's own call -/
theorem vlaw {P : List Fn} {wf k j : Nat} {cf : Nat → Bool} {ns : List Int} {c' : Ce} (h : vcall P wf cf k j [(.shr, .fz (ns.map U.int))] [] = some ((false, .bl true), c')) : ∃ S', callF P wf k j [.ref 0] [.fz (ns.map D.int)] = some (.bl true, S') := by
  have hi : ∀ {A : Nat → Prop} {κ : List Nat} {S : Sto} (l : List Int), Rds A κ S (l.map D.int) (l.map U.int) := fun {A κ S} l => by
    induction l with
    | nil => exact .nil
    | cons a r ih => exact .cons (.int a) ih
  have r : VRel (fun _ => False) [] ([D.ref 0].map some) [.fz (ns.map D.int)] ([(Md.shr, U.fz (ns.map U.int))].map some) [] := by
    have nO : ∀ n, ¬ Own ([D.ref 0].map some) ([(Md.shr, U.fz (ns.map U.int))].map some) n := fun n ⟨i, u, z, _⟩ => by
      match i, z with
      | 0, z => cases z
      | i + 1, z => simp at z
    refine ⟨rfl, fun i u z => ?_, fun i u z => ?_, fun i u z => ?_, fun i j n u w z => ?_, fun n z => z.elim, rfl, List.nodup_nil, fun n z => (by cases z), fun k us z => (by simp at z)⟩
    · match i, z with
      | 0, z =>
        cases z
        refine ⟨.ref 0, rfl, .fz (fun z => ?_) rfl (hi ns)⟩
        rcases z with z | z | z
        · exact z
        · cases z
        · exact nO 0 z
      | i + 1, z => simp at z
    · match i, z with
      | 0, z => cases z
      | i + 1, z => simp at z
    · match i, z with
      | 0, z => cases z
      | i + 1, z => simp at z
    · match i, z with
      | 0, z => cases z
      | i + 1, z => simp at z
  obtain ⟨d, S', κ', y, x, q⟩ := vcall_ok P wf cf k _ _ _ _ _ h _ _ _ _ r
  have := q.shared.2
  cases this
  exact ⟨S', y⟩
end Ev
end
section
set_option linter.all false
set_option maxRecDepth 100000
set_option maxHeartbeats 4000000
/-! What the small language does over values, as equations. -/
namespace Ev
open PySem L2
section
variable {i j : Int} {x y u : U} {xs ys us : List U} {v v' : VEnv} {c c' : Ce} {w : W}
theorem bU_add : binU .Add (.int i) (.int j) = some (false, .int (i + j)) := rfl
theorem bU_sub : binU .Sub (.int i) (.int j) = some (false, .int (i - j)) := rfl
theorem bU_mulr (h : -(2 ^ 64) < j ∧ j < 2 ^ 64) : binU .Mult (.int i) (.int j) = some (false, .int (i * j)) := if_pos (.inr h)
theorem bU_mull (h : -(2 ^ 64) < i ∧ i < 2 ^ 64) : binU .Mult (.int i) (.int j) = some (false, .int (i * j)) := if_pos (.inl h)
theorem bU_fdiv (h : 0 < j ∧ j < 1073741824) : binU .FloorDiv (.int i) (.int j) = some (false, .int (i / j)) := if_pos h
theorem bU_mod (h : 0 < j) : binU .Mod (.int i) (.int j) = some (false, .int (i % j)) := if_pos h
theorem bU_tup (h : (xs ++ ys).length ≤ 100000) : binU .Add (.tup xs) (.tup ys) = some (false, .tup (xs ++ ys)) := if_pos h
theorem bU_lst (h : (xs ++ ys).length ≤ 100000) : binU .Add (.lst xs) (.lst ys) = some (true, .lst (xs ++ ys)) := if_pos h
theorem nTU (h : xs.length ≤ 100000) : newTU xs = some (false, .tup xs) := if_pos h
theorem nLU (h : xs.length ≤ 100000) : newLU xs = some (true, .lst xs) := if_pos h
theorem cU_lt : cmpU .Lt (.int i) (.int j) = some (decide (i < j)) := rfl
theorem cU_gt : cmpU .Gt (.int i) (.int j) = some (decide (j < i)) := rfl
theorem cU_le : cmpU .LtE (.int i) (.int j) = some (decide (i ≤ j)) := rfl
theorem cU_ge : cmpU .GtE (.int i) (.int j) = some (decide (j ≤ i)) := rfl
theorem cU_eq : cmpU .Eq (.int i) (.int j) = some (i == j) := by simp [cmpU, eqU, pyU, PyData.eqv, PyData.canLay0]
theorem cU_ne : cmpU .NotEq (.int i) (.int j) = some (!(i == j)) := by simp [cmpU, eqU, pyU, PyData.eqv, PyData.canLay0]
theorem cU_nn : cmpU .Is .non .non = some true := rfl
theorem cU_in : cmpU .Is (.int i) .non = some false := rfl
theorem cU_nnn : cmpU .IsNot .non .non = some false := rfl
theorem cU_inn : cmpU .IsNot (.int i) .non = some true := rfl
theorem tU_bl {b : Bool} : truthU (.bl b) = some b := rfl
theorem b1_len_t : b1U .len (.tup xs) = some (false, .int xs.length) := rfl
theorem b1_len_l : b1U .len (.lst xs) = some (false, .int xs.length) := rfl
theorem b1_len_f : b1U .len (.fz xs) = some (false, .int xs.length) := rfl
theorem b1_tup_l : b1U .tuple (.lst xs) = some (false, .tup xs) := rfl
theorem b1_tup_t : b1U .tuple (.tup xs) = some (false, .tup xs) := rfl
theorem b1_int_b {b : Bool} : b1U .int (.bl b) = some (false, .int (if b then 1 else 0)) := rfl
theorem b1_srt : b1U .sorted (.lst xs) = sortU xs := rfl
theorem b2_maxU : b2U .max (.int i) (.int j) = some (false, .int (if j > i then j else i)) := rfl
theorem b2_minU : b2U .min (.int i) (.int j) = some (false, .int (if j < i then j else i)) := rfl
theorem b2_lz (h : (xs.isEmpty || ys.isEmpty) = true) : b2U .lzip (.tup xs) (.tup ys) = some (true, .lst []) := if_pos h
theorem b2_dmU (h : 0 < j ∧ j < 1073741824) : b2U .divmod (.int i) (.int j) = some (false, .tup [.int (i / j), .int (i % j)]) := if_pos h
theorem ixU_t (h : atI xs i = some u) : ixU c (.tup xs) (.int i) = some u := h
theorem ixU_l (h : atI xs i = some u) : ixU c (.lst xs) (.int i) = some u := h
theorem ixU_f (h : atI xs i = some u) : ixU c (.fz xs) (.int i) = some u := h
theorem ixU_c {k : Nat} (h1 : c[k]? = some xs) (h : atI xs i = some u) : ixU c (.cel k) (.int i) = some u := by
  show (c[k]?).bind _ = _
  rw [h1]; exact h
theorem atU {α : Type} {l : List α} {a : α} {k : Nat} {i : Int} (h : l[k]? = some a) (hi : i = (k : Int)) : atI l i = some a := by
  subst hi
  have hk : k < l.length := by
    rcases Nat.lt_or_ge k l.length with z | z
    · exact z
    · rw [List.getElem?_eq_none z] at h; cases h
  unfold atI ixN
  rw [if_pos (by omega), if_pos (by omega)]
  exact h
theorem at0 {α : Type} {x : α} {xs : List α} : atI (x :: xs) (0 : Int) = some x := atU (k := 0) rfl rfl
theorem at1 {α : Type} {x y : α} {xs : List α} : atI (x :: y :: xs) (1 : Int) = some y := atU (k := 1) rfl rfl
theorem at2 {α : Type} {x y z : α} {xs : List α} : atI (x :: y :: z :: xs) (2 : Int) = some z := atU (k := 2) rfl rfl
theorem at3 {α : Type} {x y z t : α} {xs : List α} : atI (x :: y :: z :: t :: xs) (3 : Int) = some t := atU (k := 3) rfl rfl
/-- the law's def and others: a call, opened -/
theorem vcall_eq {P : List Fn} {wf k f : Nat} {cf : Nat → Bool} {us : List (Md × U)} {n np : Nat} {b : Ts} {ρ : VEnv} (h : P[f]? = some ⟨n, np, b⟩) (hl : us.length = np) (ho : (us.all fun p => decide (p.1 ≠ .own)) = true) (hρ : us.map some ++ List.replicate (n - np) none = ρ) :
    vcall P wf cf (k + 1) f us c = match vTs (vcall P wf cf k) wf b ρ c with
      | some (.nx, _, c') => some ((false, .non), c')
      | some (.ret w, _, c') => some (celOf cf f w c')
      | none => none := by
  conv => lhs; unfold vcall
  rw [h]
  show (if us.length = np ∧ _ then _ else _) = _
  rw [if_pos ⟨hl, ho⟩, hρ] <;> rfl
def finU (cf : Nat → Bool) (f : Nat) (r : VR FlU) : Option (W × Ce) := match r with
      | some (.nx, _, c') => some ((false, .non), c')
      | some (.ret w, _, c') => some (celOf cf f w c')
      | none => none
theorem finU_sh {cf : Nat → Bool} {f : Nat} : finU cf f (some (.ret (false, u), v, c)) = some ((false, u), c) := rfl
theorem finU_fr {cf : Nat → Bool} {f : Nat} (h : cf f = false) : finU cf f (some (.ret w, v, c)) = some (w, c) := by
  show some (celOf cf f w c) = _
  unfold celOf
  split
  · rw [if_neg (by rw [h]; exact Bool.false_ne_true)]
  · rfl
theorem finU_ce {cf : Nat → Bool} {f : Nat} (h : cf f = true) : finU cf f (some (.ret (true, .lst us), v, c)) = some ((false, .cel c.length), c ++ [us]) := by
  show some (celOf cf f _ c) = _
  unfold celOf
  simp only [h, if_true]
theorem vcall_fin {P : List Fn} {wf k f : Nat} {cf : Nat → Bool} {us : List (Md × U)} {n np : Nat} {b : Ts} {ρ : VEnv} (h : P[f]? = some ⟨n, np, b⟩) (hl : us.length = np) (ho : (us.all fun p => decide (p.1 ≠ .own)) = true) (hρ : us.map some ++ List.replicate (n - np) none = ρ) :
    vcall P wf cf (k + 1) f us c = finU cf f (vTs (vcall P wf cf k) wf b ρ c) := vcall_eq h hl ho hρ
theorem vcall_ret {P : List Fn} {wf k f : Nat} {cf : Nat → Bool} {us : List (Md × U)} {n np : Nat} {b : Ts} {ρ ρ' : VEnv} (h : P[f]? = some ⟨n, np, b⟩) (hl : us.length = np) (ho : (us.all fun p => decide (p.1 ≠ .own)) = true) (hρ : us.map some ++ List.replicate (n - np) none = ρ)
    (hb : vTs (vcall P wf cf k) wf b ρ c = some (.ret w, ρ', c')) : vcall P wf cf (k + 1) f us c = some (celOf cf f w c') := by
  rw [vcall_eq h hl ho hρ, hb]
theorem vcall_sh {P : List Fn} {wf k f : Nat} {cf : Nat → Bool} {us : List (Md × U)} {n np : Nat} {b : Ts} {ρ ρ' : VEnv} (h : P[f]? = some ⟨n, np, b⟩) (hl : us.length = np) (ho : (us.all fun p => decide (p.1 ≠ .own)) = true) (hρ : us.map some ++ List.replicate (n - np) none = ρ)
    (hb : vTs (vcall P wf cf k) wf b ρ c = some (.ret (false, u), ρ', c')) : vcall P wf cf (k + 1) f us c = some ((false, u), c') := vcall_ret h hl ho hρ hb
theorem celOf_no {cf : Nat → Bool} {f : Nat} (h : cf f = false) : celOf cf f w c = (w, c) := by
  unfold celOf
  split
  · rw [if_neg (by rw [h]; exact Bool.false_ne_true)]
  · rfl
theorem celOf_sh {cf : Nat → Bool} {f : Nat} : celOf cf f (false, u) c = ((false, u), c) := rfl
theorem lockV_nil : lockV v [] = v := rfl
theorem unlockV_nil : unlockV v v' [] = v' := rfl
theorem unlock_lock (v : VEnv) : ∀ L : List Nat, unlockV v (lockV v L) L = v := by
  have lg : ∀ (L : List Nat) (i : Nat), (lockV v L)[i]? = if i ∈ L then (match v[i]? with
    | some (some (.own, u)) => some (some (Md.lck, u))
    | o => o) else v[i]? := by
    intro L
    induction L with
    | nil => intro i; simp [lockV]
    | cons j L ih =>
      intro i
      unfold lockV
      split
      · rename_i u hu
        have hj : j < (lockV v L).length := by
          rcases Nat.lt_or_ge j (lockV v L).length with z | z
          · exact z
          · rw [List.getElem?_eq_none z] at hu; cases hu
        by_cases z : j = i
        · subst z
          rw [List.getElem?_set_self hj, if_pos (List.mem_cons_self ..)]
          rw [ih] at hu
          split at hu
          · split at hu
            · cases hu
            · rename_i hne; exact absurd hu (hne u)
          · rw [hu]
        · rw [List.getElem?_set_ne z, ih]
          by_cases y : i ∈ L
          · rw [if_pos y, if_pos (List.mem_cons_of_mem _ y)]
          · rw [if_neg y, if_neg (fun q => by rcases List.mem_cons.mp q with q | q; exact z q.symm; exact y q)]
      · rename_i hne
        rw [ih]
        by_cases y : i ∈ L
        · rw [if_pos y, if_pos (List.mem_cons_of_mem _ y)]
        · rw [if_neg y]
          by_cases z : i = j
          · subst z
            rw [if_pos (List.mem_cons_self ..)]
            split
            · rename_i u hu
              exact absurd (by rw [ih, if_neg y]; exact hu) (hne u)
            · rfl
          · rw [if_neg (fun q => by rcases List.mem_cons.mp q with q | q; exact z q; exact y q)]
  -- what is unlocked is as ahead on the slots gone through, as locked elsewhere
  have key : ∀ (M L : List Nat), (∀ i, i ∈ L → i ∈ M) → ∀ i, (unlockV v (lockV v M) L)[i]? = if i ∈ L then v[i]? else (lockV v M)[i]? := by
    intro M L
    induction L with
    | nil => intro _ i; simp [unlockV]
    | cons j L ih =>
      intro hM i
      have ih := ih (fun i hi => hM i (List.mem_cons_of_mem _ hi))
      have hj := lg M j
      rw [if_pos (hM j (List.mem_cons_self ..))] at hj
      unfold unlockV
      split
      · rename_i u0 u h1 h2
        have hlt : j < (unlockV v (lockV v M) L).length := by
          rcases Nat.lt_or_ge j (unlockV v (lockV v M) L).length with z | z
          · exact z
          · rw [List.getElem?_eq_none z] at h2; cases h2
        by_cases z : j = i
        · subst z
          rw [List.getElem?_set_self hlt, if_pos (List.mem_cons_self ..)]
          rw [h1] at hj
          rw [ih] at h2
          split at h2
          · rw [h1] at h2; cases h2
          · rw [hj] at h2; cases h2; exact h1.symm
        · rw [List.getElem?_set_ne z, ih]
          by_cases y : i ∈ L
          · rw [if_pos y, if_pos (List.mem_cons_of_mem _ y)]
          · rw [if_neg y, if_neg (fun q => by rcases List.mem_cons.mp q with q | q; exact z q.symm; exact y q)]
      · rename_i hne
        rw [ih]
        by_cases y : i ∈ L
        · rw [if_pos y, if_pos (List.mem_cons_of_mem _ y)]
        · rw [if_neg y]
          by_cases z : i = j
          · subst z
            rw [if_pos (List.mem_cons_self ..), hj]
            split
            · rename_i u hu
              exact absurd (by rw [ih, if_neg y, hj, hu]) (hne u u hu)
            · rfl
          · rw [if_neg (fun q => by rcases List.mem_cons.mp q with q | q; exact z q; exact y q)]
  intro L
  apply List.ext_getElem?
  intro i
  rw [key L L (fun _ z => z), lg]
  split
  · rfl
  · rfl
theorem wipeV_get (v : VEnv) : ∀ (L : List Nat) (i : Nat), (wipeV v L)[i]? = if i ∈ L ∧ i < v.length then some none else v[i]?
  | [], i => by simp [wipeV]
  | j :: L, i => by
    have ih := wipeV_get v L
    have hl : ∀ L : List Nat, (wipeV v L).length = v.length := fun L => by induction L with
      | nil => rfl
      | cons a r ih => simp [wipeV, ih]
    show ((wipeV v L).set j none)[i]? = _
    by_cases z : j = i
    · subst z
      by_cases y : j < v.length
      · rw [List.getElem?_set_self (by rw [hl]; exact y), if_pos ⟨List.mem_cons_self .., y⟩]
      · rw [if_neg (fun q => y q.2), List.getElem?_eq_none (by simp [hl]; omega), List.getElem?_eq_none (by omega)]
    · rw [List.getElem?_set_ne z, ih]
      have : (i ∈ j :: L ∧ i < v.length) ↔ (i ∈ L ∧ i < v.length) := ⟨fun q => ⟨by rcases List.mem_cons.mp q.1 with w | w; exact absurd w.symm z; exact w, q.2⟩, fun q => ⟨List.mem_cons_of_mem _ q.1, q.2⟩⟩
      simp only [this]
theorem back_same (v v' : VEnv) (L : List Nat) (h : wipeV v' L = wipeV v L) (hl : v'.length = v.length) : backV v v' L = v := by
  have bg : ∀ (M : List Nat) (i : Nat), (backV v v' M)[i]? = if i ∈ M then v[i]? else v'[i]? := by
    intro M
    induction M with
    | nil => intro i; simp [backV]
    | cons j M ih =>
      intro i
      have hlen : (backV v v' M).length = v.length := by
        clear ih
        induction M with
        | nil => exact hl
        | cons a r ih => unfold backV; split <;> simp [ih]
      unfold backV
      split
      · rename_i o ho
        have hj : j < v.length := by
          rcases Nat.lt_or_ge j v.length with z | z
          · exact z
          · rw [List.getElem?_eq_none z] at ho; cases ho
        by_cases z : j = i
        · subst z
          rw [List.getElem?_set_self (by rw [hlen]; exact hj), if_pos (List.mem_cons_self ..), ho]
        · rw [List.getElem?_set_ne z, ih]
          by_cases y : i ∈ M
          · rw [if_pos y, if_pos (List.mem_cons_of_mem _ y)]
          · rw [if_neg y, if_neg (fun q => by rcases List.mem_cons.mp q with q | q; exact z q.symm; exact y q)]
      · rename_i ho
        rw [ih]
        by_cases y : i ∈ M
        · rw [if_pos y, if_pos (List.mem_cons_of_mem _ y)]
        · rw [if_neg y]
          by_cases z : i = j
          · subst z
            rw [if_pos (List.mem_cons_self ..), ho]
            exact List.getElem?_eq_none (by rw [hl]; exact List.getElem?_eq_none_iff.mp ho)
          · rw [if_neg (fun q => by rcases List.mem_cons.mp q with q | q; exact z q; exact y q)]
  apply List.ext_getElem?
  intro i
  rw [bg]
  split
  · rfl
  · rename_i hi
    have := congrArg (·[i]?) h
    simp only [wipeV_get, hi, false_and, if_false] at this
    exact this
end
section
variable {cl : Nat → List (Md × U) → Ce → Option (W × Ce)}
/-- a comprehension's turn, its target set -/
noncomputable def turnV (cl : Nat → List (Md × U) → Ce → Option (W × Ce)) (elt : E) (cond : Eo) (v2 : VEnv) (c : Ce) : VR (Option U) := vb (vO cl cond v2 c) fun o v3 c3 => match o with
    | none => vb (vE cl elt v3 c3) fun w v4 c4 => some (some w.2, v4, c4)
    | some q => match truthU q with
      | some true => vb (vE cl elt v3 c3) fun w v4 c4 => some (some w.2, v4, c4)
      | some false => some (none, v3, c3)
      | none => none
noncomputable def stepW (cl : Nat → List (Md × U) → Ce → Option (W × Ce)) (elt : E) (tg : Tg) (own : List Nat) (cond : Eo) : U → VEnv → Ce → VR (Option U) := fun d v c => match setU tg d (wipeV v own) with
        | none => none
        | some v2 => turnV cl elt cond v2 c
theorem vE_comp {elt : E} {tg : Tg} {own : List Nat} {it : I} {cond : Eo} {v : VEnv} {c : Ce} : vE cl (.comp elt tg own it cond) v c = vb (vI cl it v c) fun s v1 c1 => if own.all (free1 (lockV v1 s.locks)) = true ∧ (tgS tg).all (own.contains ·) = true then
      vb (compU (stepW cl elt tg own cond) s.items [] (lockV v1 s.locks) c1) fun us v9 c9 => some ((true, .lst us), unlockV v1 (backV (lockV v1 s.locks) v9 own) s.locks, c9)
    else none := by
  rw [vE]
  rfl
theorem setU_wipe {tg : Tg} {own : List Nat} {u : U} {v v2 : VEnv} (h : setU tg u (wipeV v own) = some v2) (hs : (tgS tg).all (own.contains ·) = true) : wipeV v2 own = wipeV v own ∧ v2.length = v.length := by
  have hl : ∀ (v : VEnv) (L : List Nat), (wipeV v L).length = v.length := fun v L => by induction L with
    | nil => rfl
    | cons a r ih => simp [wipeV, ih]
  have one : ∀ (i : Nat) (p : Option (Md × U)) (v : VEnv), i ∈ own → wipeV (v.set i p) own = wipeV v own := fun i p v hi => by
    apply List.ext_getElem?
    intro j
    rw [wipeV_get, wipeV_get, List.length_set]
    split
    · rfl
    · rename_i hn
      by_cases z : i = j
      · subst z
        have : ¬ i < v.length := fun y => hn ⟨hi, y⟩
        rw [List.getElem?_eq_none (by simp; omega), List.getElem?_eq_none (by omega)]
      · rw [List.getElem?_set_ne z]
  have ww : wipeV (wipeV v own) own = wipeV v own := by
    apply List.ext_getElem?
    intro j
    rw [wipeV_get, hl]
    split
    · rename_i hn; rw [wipeV_get, if_pos hn]
    · rfl
  have many : ∀ (is : List Nat) (us : List U) (v v2 : VEnv), setAllU is us v = some v2 → (∀ i, i ∈ is → i ∈ own) → wipeV v2 own = wipeV v own ∧ v2.length = v.length := by
    intro is
    induction is with
    | nil => intro us v v2 e _; cases us with
      | nil => cases e; exact ⟨rfl, rfl⟩
      | cons _ _ => cases e
    | cons i is ih =>
      intro us v v2 e hi
      cases us with
      | nil => cases e
      | cons u us =>
        obtain ⟨a, b⟩ := ih us _ _ e (fun j hj => hi j (List.mem_cons_of_mem _ hj))
        exact ⟨a.trans (one i _ v (hi i (List.mem_cons_self ..))), by simpa using b⟩
  cases tg with
  | one i =>
    cases h
    have hi : i ∈ own := by simpa [tgS] using hs
    exact ⟨(one i _ _ hi).trans ww, by simp [hl]⟩
  | many is =>
    cases u with
    | tup us =>
      obtain ⟨a, b⟩ := many is us _ _ h (fun i hi => by have := List.all_eq_true.mp hs i hi; simpa using this)
      exact ⟨a.trans ww, by rw [b, hl]⟩
    | _ => cases h
/-- a comprehension whose turns change nothing -/
theorem comp_pure {elt : E} {tg : Tg} {own : List Nat} {it : I} {cond : Eo} {v : VEnv} {c : Ce} {s : SrcU} {vw : VEnv} (g : U → Option U) (hI : vI cl it v c = some (s, v, c)) (hf : own.all (free1 (lockV v s.locks)) = true) (hs : (tgS tg).all (own.contains ·) = true) (hw : wipeV (lockV v s.locks) own = vw)
    (ht : ∀ u, u ∈ s.items → ∃ v2, setU tg u vw = some v2 ∧ turnV cl elt cond v2 c = some (g u, v2, c)) (hl : s.items.length ≤ 100000) :
    vE cl (.comp elt tg own it cond) v c = some ((true, .lst (s.items.filterMap g)), v, c) := by
  have key : ∀ (us acc : List U) (v' : VEnv), (∀ u, u ∈ us → u ∈ s.items) → acc.length + us.length ≤ 100000 → wipeV v' own = vw → v'.length = v.length → ∃ v9, compU (stepW cl elt tg own cond) us acc v' c = some (acc ++ us.filterMap g, v9, c) ∧ wipeV v9 own = vw ∧ v9.length = v.length := by
    intro us
    induction us with
    | nil => intro acc v' _ _ h1 h2; exact ⟨v', by simp [compU], h1, h2⟩
    | cons u us ih =>
      intro acc v' hm hlen h1 h2
      obtain ⟨v2, k1, k2⟩ := ht u (hm u (by simp))
      have hst : stepW cl elt tg own cond u v' c = some (g u, v2, c) := by
        unfold stepW
        rw [h1, k1]
        exact k2
      obtain ⟨a, b⟩ := setU_wipe (v := v') (by rw [h1]; exact k1) hs
      simp only [List.length_cons] at hlen
      unfold compU
      rw [hst, vb_some]
      cases hg : g u with
      | none =>
        obtain ⟨v9, q1, q2, q3⟩ := ih acc v2 (fun w hw => hm w (by simp [hw])) (by omega) (a.trans h1) (b.trans h2)
        exact ⟨v9, by rw [List.filterMap_cons_none hg]; exact q1, q2, q3⟩
      | some y =>
        obtain ⟨v9, q1, q2, q3⟩ := ih (acc ++ [y]) v2 (fun w hw => hm w (by simp [hw])) (by simp; omega) (a.trans h1) (b.trans h2)
        refine ⟨v9, ?_, q2, q3⟩
        simp only [if_pos (show acc.length < 100000 by omega), q1, List.filterMap_cons_some hg, List.append_assoc, List.singleton_append]
  have ll : ∀ L : List Nat, (lockV v L).length = v.length := fun L => by
    induction L with
    | nil => rfl
    | cons a r ih => unfold lockV; split <;> simp [ih]
  obtain ⟨v9, q1, q2, q3⟩ := key s.items [] (lockV v s.locks) (fun _ h => h) (by simpa using hl) hw (ll _)
  rw [vE_comp, hI, vb_some, if_pos ⟨hf, hs⟩, q1, vb_some, back_same _ _ own (q2.trans hw.symm) (by rw [q3, ll]), unlock_lock]
  rfl
end
end Ev
end
section
set_option linter.all false
set_option maxRecDepth 100000
set_option maxHeartbeats 4000000
/-! The value evaluator, construct by construct (comprehensions and loops apart). -/
namespace Ev
open PySem L2
section
variable {cl : Nat → List (Md × U) → Ce → Option (W × Ce)} {wf : Nat} {v : VEnv} {c : Ce} {r : VR W} {a b e q : E} {es : Es} {i j n : Nat} {op op' : CmpOp} {o : Operator} {t : Ts} {s : Ts} {f : Nat}
theorem eE_var : vE cl (.var i) v c = match v[i]? with
    | some (some (.shr, u)) => some ((false, u), v, c)
    | some (some (.own, u)) => some ((false, u), v.set i (some (.shr, u)), c)
    | _ => none := by rw [vE] <;> rfl
theorem eE_lit {d : D} {u : U} (h : litU d = some u) : vE cl (.lit d) v c = some ((false, u), v, c) := by rw [vE, h]
theorem eE_int {k : Int} : vE cl (.lit (.int k)) v c = some ((false, .int k), v, c) := eE_lit rfl
theorem eE_bl {k : Bool} : vE cl (.lit (.bl k)) v c = some ((false, .bl k), v, c) := eE_lit rfl
theorem eE_str {k : Str} : vE cl (.lit (.str k)) v c = some ((false, .str k), v, c) := eE_lit rfl
theorem eE_non : vE cl (.lit .non) v c = some ((false, .non), v, c) := eE_lit rfl
theorem eE_tup : vE cl (.tup es) v c = vb (vEs cl es v c) fun us v c => lift (newTU us) v c := by rw [vE]
theorem eE_lst : vE cl (.lst es) v c = vb (vEs cl es v c) fun us v c => lift (newLU us) v c := by rw [vE]
/-- an operation on two arguments -/
def op2 (g : U → U → Option W) (x y : Option U) (v : VEnv) (c : Ce) : VR W := match x, y with
  | some x, some y => lift (g x y) v c
  | _, _ => none
theorem op2_some {g : U → U → Option W} {x y : U} : op2 g (some x) (some y) v c = lift (g x y) v c := rfl
theorem eE_bin : vE cl (.bin o a b) v c = vb (arE a v c (vE cl a v c)) fun x v c => vb (arE b v c (vE cl b v c)) fun y v c => op2 (binU o) (resA v x) (resA v y) v c := by rw [vE]; rfl
theorem eE_b2 {k : B2} : vE cl (.b2 k a b) v c = vb (arE a v c (vE cl a v c)) fun x v c => vb (arE b v c (vE cl b v c)) fun y v c => op2 (b2U k) (resA v x) (resA v y) v c := by rw [vE]; rfl
theorem eE_rng {k : Bool} : vE cl (.rng k a b) v c = vb (arE a v c (vE cl a v c)) fun x v c => vb (arE b v c (vE cl b v c)) fun y v c => op2 (rngU k) (resA v x) (resA v y) v c := by rw [vE]; rfl
def ob2 (g : U → U → Option Bool) (x y : Option U) (v : VEnv) (c : Ce) : VR W := match x, y with
  | some x, some y => liftB (g x y) v c
  | _, _ => none
theorem ob2_some {g : U → U → Option Bool} {x y : U} : ob2 g (some x) (some y) v c = liftB (g x y) v c := rfl
theorem eE_cmp : vE cl (.cmp op a b) v c = vb (arE a v c (vE cl a v c)) fun x v c => vb (arE b v c (vE cl b v c)) fun y v c => ob2 (cmpU op) (resA v x) (resA v y) v c := by rw [vE]; rfl
def ox2 (x y : Option U) (v : VEnv) (c : Ce) : VR W := match x, y with
  | some x, some y => (match ixU c x y with
      | some u => some ((false, u), v, c)
      | none => none)
  | _, _ => none
theorem ox2_some {x y : U} : ox2 (some x) (some y) v c = (match ixU c x y with
      | some u => some ((false, u), v, c)
      | none => none) := rfl
theorem eE_ix : vE cl (.ix a b) v c = vb (arE a v c (vE cl a v c)) fun x v c => vb (arE b v c (vE cl b v c)) fun y v c => ox2 (resA v x) (resA v y) v c := by rw [vE]; rfl
def op1 (g : U → Option W) (x : Option U) (v : VEnv) (c : Ce) : VR W := match x with
  | some x => lift (g x) v c
  | none => none
theorem op1_some {g : U → Option W} {x : U} : op1 g (some x) v c = lift (g x) v c := rfl
def ob1 (g : U → Option Bool) (x : Option U) (v : VEnv) (c : Ce) : VR W := match x with
  | some x => liftB (g x) v c
  | none => none
theorem ob1_some {g : U → Option Bool} {x : U} : ob1 g (some x) v c = liftB (g x) v c := rfl
theorem eE_b1 {k : B1} : vE cl (.b1 k a) v c = vb (arE a v c (vE cl a v c)) fun x v c => op1 (b1U k) (resA v x) v c := by rw [vE]; rfl
theorem eE_isi {k : Ty} : vE cl (.isi a k) v c = vb (arE a v c (vE cl a v c)) fun x v c => ob1 (fun x => isiU x k) (resA v x) v c := by rw [vE]; rfl
theorem eE_not : vE cl (.not a) v c = vb (arE a v c (vE cl a v c)) fun x v c => ob1 (fun x => (truthU x).map (!·)) (resA v x) v c := by rw [vE]; rfl
def on1 (x : Option U) (v : VEnv) (c : Ce) : VR W := match x with
  | some (.int i) => some ((false, .int (-i)), v, c)
  | _ => none
theorem on1_some {i : Int} : on1 (some (.int i)) v c = some ((false, .int (-i)), v, c) := rfl
theorem eE_neg : vE cl (.neg a) v c = vb (arE a v c (vE cl a v c)) fun x v c => on1 (resA v x) v c := by rw [vE]; rfl
def th2 (x : Option Bool) (t e : VR W) : VR W := match x with
  | some true => t
  | some false => e
  | none => none
theorem th2_t {t e : VR W} : th2 (some true) t e = t := rfl
theorem th2_f {t e : VR W} : th2 (some false) t e = e := rfl
theorem eE_and : vE cl (.and a b) v c = vb (vE cl a v c) fun w v c => th2 (truthU w.2) (vE cl b v c) (some ((false, w.2), v, c)) := by rw [vE]; rfl
theorem eE_or : vE cl (.or a b) v c = vb (vE cl a v c) fun w v c => th2 (truthU w.2) (some ((false, w.2), v, c)) (vE cl b v c) := by rw [vE]; rfl
theorem eE_ite : vE cl (.ite q a b) v c = vb (arE q v c (vE cl q v c)) fun x v c => th2 ((resA v x).bind truthU) (vE cl a v c) (vE cl b v c) := by
  rw [vE]
  congr 1
  funext x v c
  cases resA v x with
  | none => rfl
  | some x => rfl
def callS (r : Option (List (Md × U))) (cl : Nat → List (Md × U) → Ce → Option (W × Ce)) (f : Nat) (v : VEnv) (c : Ce) : VR W := match r with
    | some us => (match cl f us c with
      | some (w, c') => some (w, v, c')
      | none => none)
    | none => none
theorem callS_some {us : List (Md × U)} {w : W} {c' : Ce} (h : cl f us c = some (w, c')) : callS (some us) cl f v c = some (w, v, c') := by
  unfold callS; simp only [h]
theorem eE_call : vE cl (.call f es) v c = vb (vAs cl es v c) fun as v c => callS (optAll (as.map (resC v))) cl f v c := by rw [vE]; rfl
def methS (r : Option (U × VEnv)) (c : Ce) : VR W := match r with
      | some (u, v') => some ((false, u), v', c)
      | none => none
theorem methS_some {u : U} {v' : VEnv} : methS (some (u, v')) c = some ((false, u), v', c) := rfl
def mokS (b : Bool) (r : VR W) : VR W := if b = true then r else none
theorem mokS_t {r : VR W} : mokS true r = r := rfl
theorem eE_meth {k : M2} : vE cl (.meth k (.var i) b) v c = mokS (m2ok v i) (vb (vE cl b v c) fun w v c => methS (m2U k v i w.2) c) := by rw [vE]; rfl
theorem eE_dnew : vE cl .dnew v c = some ((true, .dct [] []), v, c) := by rw [vE]
theorem eE_rev : vE cl (.rev a) v c = vb (arE a v c (vE cl a v c)) fun x v c => op1 revU (resA v x) v c := by rw [vE]; rfl
def smS (k : SM) (x : U) (f : VR Ar) : VR W := match x with
  | .str t => vb f fun y v c => (match resA v y with
    | some y => lift (smU k (.str t) y) v c
    | none => none)
  | _ => none
theorem smS_str {k : SM} {t : Str} {f : VR Ar} : smS k (.str t) f = vb f fun y v c => op1 (smU k (.str t)) (resA v y) v c := rfl
theorem eE_sm {k : SM} : vE cl (.sm k a b) v c = vb (vE cl a v c) fun w v c => smS k w.2 (arE b v c (vE cl b v c)) := by rw [vE]; rfl
def slS (x : Option U) (l h : Option (Option Int)) (v : VEnv) (c : Ce) : VR W := match x, l, h with
    | some x, some l, some h => lift (slU x l h) v c
    | _, _, _ => none
theorem slS_some {x : U} {l h : Option Int} : slS (some x) (some l) (some h) v c = lift (slU x l h) v c := rfl
theorem eE_sl {lo hi : Eo} : vE cl (.sl a lo hi) v c = vb (arE a v c (vE cl a v c)) fun x v c => vb (vO cl lo v c) fun l v c => vb (vO cl hi v c) fun h v c => slS (resA v x) (oIntU l) (oIntU h) v c := by rw [vE]; rfl
theorem eEs_nil : vEs cl .nil v c = some ([], v, c) := by rw [vEs]
theorem eEs_cons : vEs cl (.cons e es) v c = vb (vE cl e v c) fun w v c => vb (vEs cl es v c) fun us v c => some (w.2 :: us, v, c) := by rw [vEs]
theorem eAs_nil : vAs cl .nil v c = some ([], v, c) := by rw [vAs]
theorem eAs_cons : vAs cl (.cons e es) v c = vb (arE e v c (vE cl e v c)) fun a v c => vb (vAs cl es v c) fun as v c => some (a :: as, v, c) := by rw [vAs]
theorem eO_none : vO cl .none v c = some (none, v, c) := by rw [vO]
theorem eO_some : vO cl (.some e) v c = vb (vE cl e v c) fun w v c => some (some w.2, v, c) := by rw [vO]
theorem eI_seq : vI cl (.seq e) v c = vb (arE e v c (vE cl e v c)) fun a v c => liftS (srcU v a) v c := by rw [vI]
theorem eI_r1 : vI cl (.r1 e) v c = vb (arE e v c (vE cl e v c)) fun a v c => liftS (rng1U v a) v c := by rw [vI]
theorem eI_r2 : vI cl (.r2 a b) v c = vb (arE a v c (vE cl a v c)) fun x v c => vb (arE b v c (vE cl b v c)) fun y v c => liftS (rng2U v x y) v c := by rw [vI]
theorem eI_zip : vI cl (.zip a b) v c = vb (arE a v c (vE cl a v c)) fun x v c => vb (arE b v c (vE cl b v c)) fun y v c => liftS (zipU v x y) v c := by rw [vI]
theorem eI_enum : vI cl (.enum e) v c = vb (arE e v c (vE cl e v c)) fun a v c => liftS (enumU v a) v c := by rw [vI]
theorem liftS_some {x : SrcU} : liftS (some x) v c = some (x, v, c) := rfl
theorem ar_var : arE (.var i) v c r = slotAr i v c := rfl
theorem ar_lit {d : D} : arE (.lit d) v c r = arOf r := rfl
theorem ar_tup : arE (.tup es) v c r = arOf r := rfl
theorem ar_lst : arE (.lst es) v c r = arOf r := rfl
theorem ar_bin : arE (.bin o a b) v c r = arOf r := rfl
theorem ar_neg : arE (.neg a) v c r = arOf r := rfl
theorem ar_cmp : arE (.cmp op a b) v c r = arOf r := rfl
theorem ar_chain : arE (.chain op op' a b e) v c r = arOf r := rfl
theorem ar_and : arE (.and a b) v c r = arOf r := rfl
theorem ar_or : arE (.or a b) v c r = arOf r := rfl
theorem ar_not : arE (.not a) v c r = arOf r := rfl
theorem ar_ite : arE (.ite q a b) v c r = arOf r := rfl
theorem ar_call : arE (.call f es) v c r = arOf r := rfl
theorem ar_b1 {k : B1} : arE (.b1 k a) v c r = arOf r := rfl
theorem ar_b2 {k : B2} : arE (.b2 k a b) v c r = arOf r := rfl
theorem ar_dnew : arE .dnew v c r = arOf r := rfl
theorem ar_rev : arE (.rev a) v c r = arOf r := rfl
theorem ar_sm {k : SM} : arE (.sm k a b) v c r = arOf r := rfl
theorem ar_meth {k : M2} : arE (.meth k a b) v c r = arOf r := rfl
theorem ar_isi {k : Ty} : arE (.isi a k) v c r = arOf r := rfl
theorem ar_ix : arE (.ix a b) v c r = arOf r := rfl
theorem ar_sl {lo hi : Eo} : arE (.sl a lo hi) v c r = arOf r := rfl
theorem ar_rng {k : Bool} : arE (.rng k a b) v c r = arOf r := rfl
theorem ar_comp {elt : E} {tg : Tg} {own : List Nat} {it : I} {cond : Eo} : arE (.comp elt tg own it cond) v c r = arOf r := rfl
theorem arOf_some {w : W} : arOf (some (w, v, c)) = some (.val w.2, v, c) := rfl
theorem lift_some {w : W} : lift (some w) v c = some (w, v, c) := rfl
theorem liftB_some {k : Bool} : liftB (some k) v c = some ((false, .bl k), v, c) := rfl
/-! statements -/
def asgS (t : Tg) (w : W) (v : VEnv) (c : Ce) : VR FlU := match t with
    | .one i => some (.nx, v.set i (some (mdOf w)), c)
    | .many is => (match setU (.many is) w.2 v with
      | some v => some (.nx, v, c)
      | none => none)
theorem asgS_one {w : W} : asgS (.one i) w v c = some (.nx, v.set i (some (mdOf w)), c) := rfl
theorem asgS_many {is : List Nat} {w : W} {v' : VEnv} (h : setU (.many is) w.2 v = some v') : asgS (.many is) w v c = some (.nx, v', c) := by
  unfold asgS; simp only [h]
theorem md_own {u : U} : mdOf (true, u) = (.own, u) := rfl
theorem md_shr {u : U} : mdOf (false, u) = (.shr, u) := rfl
theorem eT_asg {tg : Tg} : vT cl wf (.asg tg e) v c = vb (vE cl e v c) fun w v c => asgS tg w v c := by rw [vT]; rfl
theorem eT_par : vT cl wf (.par i j a b) v c = vb (vE cl a v c) fun x v c => vb (vE cl b v c) fun y v c => some (.nx, (v.set i (some (.shr, x.2))).set j (some (.shr, y.2)), c) := by rw [vT]
def setS (y : Option U) (v : VEnv) (c : Ce) (n : Nat) (u : U) : VR FlU := match y with
      | some y => setIxU v c n y u
      | none => none
theorem setS_some {y u : U} : setS (some y) v c n u = setIxU v c n y u := rfl
theorem eT_setD {wf : Nat} : vT cl wf (.setD (.var i) es e) v c = vb (vE cl e v c) fun w v c => vb (vEs cl es v c) fun ys v c => setDU v c i ys w.2 := by rw [vT]; rfl
theorem eT_setIx : vT cl wf (.setIx (.var n) a e) v c = vb (vE cl e v c) fun w v c => vb (arE a v c (vE cl a v c)) fun y v c => setS (resA v y) v c n w.2 := by rw [vT]; rfl
def augA (m : Option Int) (r : Int → VR FlU) : VR FlU := match m with
  | some m => r m
  | none => none
def augB (z : U) (r : Int → VR FlU) : VR FlU := match z with
  | .int b => r b
  | _ => none
theorem augA_some {m : Int} {r : Int → VR FlU} : augA (some m) r = r m := rfl
theorem augB_int {b : Int} {r : Int → VR FlU} : augB (.int b) r = r b := rfl
theorem eT_augIx : vT cl wf (.augIx (.var n) a e) v c = vb (vE cl a v c) fun y v c => augA (augU v n y.2) fun m => vb (vE cl e v c) fun z v c => augB z.2 fun b => setOwnU v c n y.2 (.int (m + b)) := by
  rw [vT]
  show vb _ _ = _
  refine congrArg (vb (vE cl a v c)) (funext fun y => funext fun v => funext fun c => ?_)
  unfold augA
  rcases augU v n y.2 with _ | m
  · rfl
  · refine congrArg (vb (vE cl e v c)) (funext fun z => funext fun v => funext fun c => ?_)
    unfold augB
    rcases z.2 <;> rfl
theorem augU_of {xs : List U} {k m : Int} {j : Nat} (h : v[n]? = some (some (.own, .lst xs))) (h1 : ixN xs.length k = some j) (h2 : xs[j]? = some (.int m)) (h3 : 0 ≤ k) : augU v n (.int k) = some m := by
  simp only [augU, h, h1, h2, if_pos h3]
theorem setOwn_of {xs : List U} {k : Int} {j : Nat} {d : U} (h : v[n]? = some (some (.own, .lst xs))) (h1 : ixN xs.length k = some j) : setOwnU v c n (.int k) d = some (.nx, v.set n (some (.own, .lst (xs.set j d))), c) := by
  simp only [setOwnU, h, h1]
theorem eT_expr : vT cl wf (.expr e) v c = vb (vE cl e v c) fun _ v c => some (.nx, v, c) := by rw [vT]
theorem eT_ret : vT cl wf (.ret e) v c = retOf e v c (vE cl e v c) := by rw [vT]
theorem eT_ife : vT cl wf (.ife e s t) v c = vb (vC cl e v c) fun b v c => if b = true then vTs cl wf s v c else vTs cl wf t v c := by rw [vT]
theorem eT_pass : vT cl wf .pass v c = some (.nx, v, c) := by rw [vT]
def goOn (f : FlU) (k : VR FlU) (v : VEnv) (c : Ce) : VR FlU := match f with
    | .nx => k
    | .ret w => some (.ret w, v, c)
theorem goOn_nx {k : VR FlU} : goOn .nx k v c = k := rfl
theorem goOn_ret {k : VR FlU} {w : W} : goOn (.ret w) k v c = some (.ret w, v, c) := rfl
theorem eTs_nil : vTs cl wf .nil v c = some (.nx, v, c) := by rw [vTs]
theorem eTs_cons {x : T} : vTs cl wf (.cons x t) v c = vb (vT cl wf x v c) fun f v c => goOn f (vTs cl wf t v c) v c := by rw [vTs]; rfl
def tru1 (x : Option U) (v : VEnv) (c : Ce) : VR Bool := match x with
  | some x => (match truthU x with
    | some b => some (b, v, c)
    | none => none)
  | none => none
theorem tru1_bl {k : Bool} : tru1 (some (.bl k)) v c = some (k, v, c) := rfl
theorem tru1_some {x : U} {k : Bool} (h : truthU x = some k) : tru1 (some x) v c = some (k, v, c) := by unfold tru1; simp only [h]
theorem vC_eq : vC cl e v c = vb (arE e v c (vE cl e v c)) fun x v c => tru1 (resA v x) v c := rfl
theorem ret_var {k : VR W} : retOf (.var i) v c k = match v[i]? with
    | some (some (.own, u)) => some (.ret (true, u), v.set i none, c)
    | some (some (.shr, u)) => some (.ret (false, u), v, c)
    | _ => none := rfl
def retW (k : VR W) : VR FlU := vb k fun w v c => some (.ret w, v, c)
theorem retW_some {w : W} : retW (some (w, v, c)) = some (.ret w, v, c) := rfl
theorem ret_lit {d : D} : retOf (.lit d) v c r = retW r := rfl
theorem ret_tup : retOf (.tup es) v c r = retW r := rfl
theorem ret_lst : retOf (.lst es) v c r = retW r := rfl
theorem ret_bin : retOf (.bin o a b) v c r = retW r := rfl
theorem ret_cmp : retOf (.cmp op a b) v c r = retW r := rfl
theorem ret_chain : retOf (.chain op op' a b e) v c r = retW r := rfl
theorem ret_and : retOf (.and a b) v c r = retW r := rfl
theorem ret_or : retOf (.or a b) v c r = retW r := rfl
theorem ret_not : retOf (.not a) v c r = retW r := rfl
theorem ret_ite : retOf (.ite q a b) v c r = retW r := rfl
theorem ret_call : retOf (.call f es) v c r = retW r := rfl
theorem ret_b1 {k : B1} : retOf (.b1 k a) v c r = retW r := rfl
theorem ret_b2 {k : B2} : retOf (.b2 k a b) v c r = retW r := rfl
theorem ret_rev : retOf (.rev a) v c r = retW r := rfl
theorem ret_sm {k : SM} : retOf (.sm k a b) v c r = retW r := rfl
theorem ret_meth {k : M2} : retOf (.meth k a b) v c r = retW r := rfl
theorem ret_isi {k : Ty} : retOf (.isi a k) v c r = retW r := rfl
theorem ret_ix : retOf (.ix a b) v c r = retW r := rfl
theorem ret_sl {lo hi : Eo} : retOf (.sl a lo hi) v c r = retW r := rfl
theorem ret_comp {elt : E} {tg : Tg} {own : List Nat} {it : I} {cond : Eo} : retOf (.comp elt tg own it cond) v c r = retW r := rfl
/-- a for, its source reckoned -/
noncomputable def forStep (cl : Nat → List (Md × U) → Ce → Option (W × Ce)) (wf : Nat) (tg : Tg) (b : Ts) : U → VEnv → Ce → VR FlU := fun d v c => match setU tg d v with
      | none => none
      | some v2 => vTs cl wf b v2 c
def endFor (v1 : VEnv) (L : List Nat) (f : FlU) (v9 : VEnv) (c9 : Ce) : VR FlU := match f with
        | .nx => some (.nx, unlockV v1 v9 L, c9)
        | .ret w => some (.ret w, v9, c9)
theorem endFor_nx {v1 : VEnv} {L : List Nat} : endFor v1 L .nx v c = some (.nx, unlockV v1 v L, c) := rfl
theorem endFor_ret {v1 : VEnv} {L : List Nat} {w : W} : endFor v1 L (.ret w) v c = some (.ret w, v, c) := rfl
theorem eT_for {tg : Tg} {it : I} : vT cl wf (.for tg it t) v c = vb (vI cl it v c) fun s v1 c1 => vb (forU (forStep cl wf tg t) s.items (lockV v1 s.locks) c1) fun f v9 c9 => endFor v1 s.locks f v9 c9 := by rw [vT]; rfl
theorem eT_while : vT cl wf (.while e t) v c = whileU (vC cl e) (vTs cl wf t) wf v c := by rw [vT]
theorem forU_nil {st : U → VEnv → Ce → VR FlU} : forU st [] v c = some (.nx, v, c) := rfl
theorem forU_cons {st : U → VEnv → Ce → VR FlU} {u : U} {us : List U} {v' : VEnv} {c' : Ce} (h : st u v c = some (.nx, v', c')) : forU st (u :: us) v c = forU st us v' c' := by
  conv => lhs; unfold forU
  rw [h, vb_some]
end
end Ev
namespace Ev
open PySem L2
section
variable {v : VEnv} {c : Ce} {i j : Int} {n m : Nat} {us ws : List U} {u w : U} {s : Str} {md : Md}
theorem r1U (h1 : -(2 ^ 62) ≤ j) (h2 : j < 2 ^ 62) : rng1U v (.val (.int j)) = some ⟨rangeU 0 j.toNat, []⟩ := if_pos ⟨h1, h2⟩
theorem r1Us (e : v[n]? = some (some (md, .int j))) (h1 : -(2 ^ 62) ≤ j) (h2 : j < 2 ^ 62) : rng1U v (.slot n) = some ⟨rangeU 0 j.toNat, []⟩ := by
  unfold rng1U; simp only [resA, e]; exact if_pos ⟨h1, h2⟩
theorem r2U (h1 : -(2 ^ 62) ≤ i) (h2 : i < 2 ^ 62) (h3 : -(2 ^ 62) ≤ j) (h4 : j < 2 ^ 62) : rng2U v (.val (.int i)) (.val (.int j)) = some ⟨rangeU i (j - i).toNat, []⟩ := if_pos ⟨⟨h1, h2⟩, ⟨h3, h4⟩⟩
theorem r2Us (e : v[n]? = some (some (md, .int i))) (h1 : -(2 ^ 62) ≤ i) (h2 : i < 2 ^ 62) (h3 : -(2 ^ 62) ≤ j) (h4 : j < 2 ^ 62) : rng2U v (.slot n) (.val (.int j)) = some ⟨rangeU i (j - i).toNat, []⟩ := by
  unfold rng2U; simp only [resA, e]; exact if_pos ⟨⟨h1, h2⟩, ⟨h3, h4⟩⟩
theorem sU_tup (e : v[n]? = some (some (md, .tup us))) : srcU v (.slot n) = some ⟨us, [n]⟩ := by unfold srcU; simp only [resA, e]; rfl
theorem sU_lst (e : v[n]? = some (some (md, .lst us))) : srcU v (.slot n) = some ⟨us, [n]⟩ := by unfold srcU; simp only [resA, e]; rfl
theorem sU_vt : srcU v (.val (.tup us)) = some ⟨us, []⟩ := rfl
theorem sU_vl : srcU v (.val (.lst us)) = some ⟨us, []⟩ := rfl
theorem eU_tup (e : v[n]? = some (some (md, .tup us))) : enumU v (.slot n) = some ⟨enumsU us, [n]⟩ := by unfold enumU; simp only [resA, e]; rfl
theorem rgU (h1 : -(2 ^ 62) ≤ i) (h2 : i < 2 ^ 62) (h3 : -(2 ^ 62) ≤ j) (h4 : j < 2 ^ 62) (h5 : (j - i).toNat ≤ 100000) : rngU true (.int i) (.int j) = some (false, .tup (rangeU i (j - i).toNat)) := by
  unfold rngU
  simp only [if_pos (show small i ∧ small j ∧ (j - i).toNat ≤ 100000 from ⟨⟨h1, h2⟩, ⟨h3, h4⟩, h5⟩), if_true]
  exact if_pos (by simpa [rangeU] using h5)
theorem lock_shr1 (e : v[n]? = some (some (.shr, u))) : lockV v [n] = v := by
  unfold lockV lockV; rw [e]
theorem lock_own1 (e : v[n]? = some (some (.own, u))) : lockV v [n] = v.set n (some (.lck, u)) := by
  unfold lockV lockV; rw [e]
theorem unlock_shr1 {v' : VEnv} (e : v[n]? = some (some (.shr, u))) : unlockV v v' [n] = v' := by
  unfold unlockV unlockV
  split
  · rename_i h _; rw [e] at h; cases h
  · rfl
theorem perm_inv {α β : Type} {f : α → β} : ∀ {bs : List α} {ys : List β}, ys.Perm (bs.map f) → ∃ ws : List α, ys = ws.map f ∧ ws.Perm bs := perm_map_inv
/-- sorted, of values that are told apart -/
theorem sortU_gen {β : Type} {f : β → U} {e : β → PyData} {bs : List β} (he : ∀ b ∈ bs, pyU 60 (f b) = some (e b)) (hcl : ∀ b ∈ bs, (e b).canLay0 = true) (hal : ∀ a ∈ bs, ∀ b ∈ bs, PySem.W.alike (e a) (e b) = true) (hso : sortable (bs.map e) = true)
    (hinj : ∀ a b, PySem.W.keyToks (e a) = PySem.W.keyToks (e b) → a = b) (hnd : bs.Nodup) (hlen : bs.length ≤ 100000) :
    ∃ ws : List β, ws.Perm bs ∧ ws.Pairwise (fun a b => PySem.W.dataLt (e a) (e b) = true) ∧ sortU (bs.map f) = some (true, .lst (ws.map f)) := by
  have hT : ∀ b ∈ bs, pyTU (f b) = e b := fun b hb => by unfold pyTU; rw [he b hb]; rfl
  have hmap : (bs.map f).map pyTU = bs.map e := by
    rw [List.map_map]
    exact List.map_congr_left hT
  obtain ⟨ws, e1, hp⟩ := perm_map_inv (List.mergeSort_perm (bs.map f) (PySem.W.dataLe false pyTU))
  have tl := PySem.W.sortLe_total (PyProof.Rows.listOrd PyProof.Rows.itemOrd) false (fun d : U => PySem.W.keyToks (pyTU d))
  have hs := List.pairwise_mergeSort (le := PySem.W.dataLe false pyTU) (fun a b c h1 h2 => tl.trans a b c h1 h2) (fun a b => Bool.or_eq_true_iff.mpr (tl.total a b)) (bs.map f)
  refine ⟨ws, hp, ?_, ?_⟩
  · rw [e1, List.pairwise_map] at hs
    have hnd' : ws.Nodup := hp.nodup_iff.mpr hnd
    refine (hs.and hnd').imp_of_mem fun {a b} ha hb h => ?_
    have ha' := hp.mem_iff.mp ha
    have hb' := hp.mem_iff.mp hb
    have h1 : PySem.W.dataLt (e b) (e a) = false := by
      have z : (!PySem.W.dataLt (pyTU (f b)) (pyTU (f a))) = true := h.1
      rw [hT a ha', hT b hb'] at z
      simpa using z
    cases h2 : PySem.W.dataLt (e a) (e b) with
    | true => rfl
    | false => exact absurd (hinj a b (PyProof.Rows.lex_total _ _ h2 h1)) h.2
  · have c2 : ((bs.map f).all fun d => match pyU 60 d with
        | some p => p.canLay0
        | none => false) = true := by
      simp only [List.all_eq_true, List.mem_map]
      rintro d ⟨b, hb, rfl⟩
      rw [he b hb]; exact hcl b hb
    have c3 : (((bs.map f).map pyTU).all fun p => ((bs.map f).map pyTU).all fun q => PySem.W.alike p q) = true := by
      rw [hmap]
      simp only [List.all_eq_true, List.mem_map]
      rintro p ⟨a, ha, rfl⟩ q ⟨b, hb, rfl⟩
      exact hal a ha b hb
    have c4 : sortable ((bs.map f).map pyTU) = true := by rw [hmap]; exact hso
    unfold sortU
    rw [if_pos ⟨by rw [List.length_map]; exact hlen, c2, c3, c4⟩, e1]
    exact nLU (by rw [List.length_map, hp.length_eq]; exact hlen)
end
end Ev
end
section
set_option linter.all false
set_option maxRecDepth 100000
set_option maxHeartbeats 4000000
/-! What must hold behind a piece: loops by what stays, comprehensions that change cells. -/
namespace Ev
open PySem L2
section
variable {α β : Type} {v v' : VEnv} {c c' : Ce} {cl : Nat → List (Md × U) → Ce → Option (W × Ce)}
def Wp (x : VR α) (Q : α → VEnv → Ce → Prop) : Prop := ∃ a v c, x = some (a, v, c) ∧ Q a v c
theorem wp_some {a : α} {Q : α → VEnv → Ce → Prop} : Wp (some (a, v, c)) Q = Q a v c := by
  apply propext
  constructor
  · rintro ⟨a', v', c', e, q⟩
    cases e; exact q
  · intro q; exact ⟨a, v, c, rfl, q⟩
theorem wp_vb {x : VR α} {f : α → VEnv → Ce → VR β} {Q : β → VEnv → Ce → Prop} (h : Wp x fun a v c => Wp (f a v c) Q) : Wp (vb x f) Q := by
  obtain ⟨a, v, c, e, b, v', c', e', q⟩ := h
  exact ⟨b, v', c', by rw [e, vb_some, e'], q⟩
theorem Wp.mono {x : VR α} {Q R : α → VEnv → Ce → Prop} (h : Wp x Q) (hr : ∀ a v c, Q a v c → R a v c) : Wp x R := by
  obtain ⟨a, v, c, e, q⟩ := h
  exact ⟨a, v, c, e, hr _ _ _ q⟩
theorem wp_ite {p : Prop} [Decidable p] {x y : VR α} {Q : α → VEnv → Ce → Prop} (h1 : p → Wp x Q) (h2 : ¬ p → Wp y Q) : Wp (if p then x else y) Q := by
  split
  · exact h1 ‹_›
  · exact h2 ‹_›
theorem vb_ite {p : Prop} [Decidable p] {x y : VR α} {f : α → VEnv → Ce → VR β} : vb (if p then x else y) f = if p then vb x f else vb y f := by split <;> rfl
def chS (o : Option Bool) (t : VR W) (v : VEnv) (c : Ce) : VR W := match o with
  | some true => t
  | some false => some ((false, .bl false), v, c)
  | none => none
theorem chS_t {t : VR W} : chS (some true) t v c = t := rfl
theorem chS_f {t : VR W} : chS (some false) t v c = some ((false, .bl false), v, c) := rfl
theorem chS_b {b : Bool} {t : VR W} : chS (some b) t v c = if b = true then t else some ((false, .bl false), v, c) := by cases b <;> rfl
theorem th2_b {b : Bool} {t e : VR W} : th2 (some b) t e = if b = true then t else e := by cases b <;> rfl
noncomputable def cm2 (op : CmpOp) (x y : Option U) : Option Bool := match x, y with
  | some x, some y => cmpU op x y
  | _, _ => none
theorem cm2_some {op : CmpOp} {x y : U} : cm2 op (some x) (some y) = cmpU op x y := rfl
theorem eE_chain {op op' : CmpOp} {a b d : E} : vE cl (.chain op op' a b d) v c = vb (arE a v c (vE cl a v c)) fun x v c => vb (arE b v c (vE cl b v c)) fun y v c => chS (cm2 op (resA v x) (resA v y)) (vb (arE d v c (vE cl d v c)) fun z v c => ob2 (cmpU op') (resA v y) (resA v z) v c) v c := by
  rw [vE]
  congr 1
  funext x v c
  congr 1
  funext y v c
  cases h1 : resA v x with
  | none => rfl
  | some x' => cases h2 : resA v y with
    | none => rfl
    | some y' =>
      show (match cmpU op x' y' with
        | some true => _
        | some false => _
        | none => _) = chS (cmpU op x' y') _ v c
      cases cmpU op x' y' with
      | none => rfl
      | some b => cases b with
        | false => rfl
        | true => rfl
/-- a for, by what stays -/
theorem wp_for {step : U → VEnv → Ce → VR FlU} (I : List U → VEnv → Ce → Prop) (R : W → VEnv → Ce → Prop)
    (h : ∀ d r v c, I (d :: r) v c → Wp (step d v c) (fun f v' c' => match f with | .nx => I r v' c' | .ret w => R w v' c')) :
    ∀ us v c, I us v c → Wp (forU step us v c) (fun f v' c' => match f with | .nx => I [] v' c' | .ret w => R w v' c')
  | [], v, c, hi => ⟨_, _, _, rfl, hi⟩
  | d :: r, v, c, hi => by
    obtain ⟨f, v', c', e, q⟩ := h d r v c hi
    cases f with
    | nx =>
      obtain ⟨f2, v2, c2, e2, q2⟩ := wp_for I R h r v' c' q
      refine ⟨f2, v2, c2, ?_, q2⟩
      rw [forU_cons e]; exact e2
    | ret w =>
      refine ⟨.ret w, v', c', ?_, q⟩
      unfold forU
      rw [e, vb_some]
/-- a for that never returns -/
theorem wp_forN {step : U → VEnv → Ce → VR FlU} (I : List U → VEnv → Ce → Prop)
    (h : ∀ d r v c, I (d :: r) v c → Wp (step d v c) (fun f v' c' => f = .nx ∧ I r v' c'))  (us : List U) (v : VEnv) (c : Ce) (hi : I us v c) : ∃ v' c', forU step us v c = some (.nx, v', c') ∧ I [] v' c' := by
  obtain ⟨f, v', c', e, q⟩ := wp_for I (fun _ _ _ => False) (fun d r v c hi => (h d r v c hi).mono fun f v c q => by cases f with
    | nx => exact q.2
    | ret w => cases q.1) us v c hi
  cases f with
  | nx => exact ⟨v', c', e, q⟩
  | ret w => exact q.elim
/-- a comprehension that changes cells -/
theorem comp_eff {elt : E} {tg : Tg} {own : List Nat} {it : I} {cond : Eo} {s : SrcU} {vw : VEnv} {c1 : Ce} (I : List U → List U → Ce → Prop) (hI : vI cl it v c = some (s, v, c1)) (hf : own.all (free1 (lockV v s.locks)) = true) (hs : (tgS tg).all (own.contains ·) = true) (hw : wipeV (lockV v s.locks) own = vw)
    (hi : I s.items [] c1)
    (ht : ∀ u rest acc c, I (u :: rest) acc c → ∃ v2 o c', setU tg u vw = some v2 ∧ turnV cl elt cond v2 c = some (o, v2, c') ∧ I rest (acc ++ o.toList) c') (hl : s.items.length ≤ 100000) :
    ∃ us c', vE cl (.comp elt tg own it cond) v c = some ((true, .lst us), v, c') ∧ I [] us c' := by
  have key : ∀ (us acc : List U) (v' : VEnv) (c : Ce), I us acc c → acc.length + us.length ≤ 100000 → wipeV v' own = vw → v'.length = v.length → ∃ acc' v9 c', compU (stepW cl elt tg own cond) us acc v' c = some (acc', v9, c') ∧ I [] acc' c' ∧ wipeV v9 own = vw ∧ v9.length = v.length := by
    intro us
    induction us with
    | nil => intro acc v' c hi _ h1 h2; exact ⟨acc, v', c, by simp [compU], hi, h1, h2⟩
    | cons u us ih =>
      intro acc v' c hi hlen h1 h2
      obtain ⟨v2, o, c', k1, k2, k3⟩ := ht u us acc c hi
      have hst : stepW cl elt tg own cond u v' c = some (o, v2, c') := by
        unfold stepW
        rw [h1, k1]
        exact k2
      obtain ⟨a, b⟩ := setU_wipe (v := v') (by rw [h1]; exact k1) hs
      simp only [List.length_cons] at hlen
      unfold compU
      rw [hst, vb_some]
      cases o with
      | none =>
        exact ih acc v2 c' (by simpa using k3) (by omega) (a.trans h1) (b.trans h2)
      | some y =>
        obtain ⟨acc', v9, c9, q1, q2, q3, q4⟩ := ih (acc ++ [y]) v2 c' (by simpa using k3) (by simp; omega) (a.trans h1) (b.trans h2)
        refine ⟨acc', v9, c9, ?_, q2, q3, q4⟩
        simp only [if_pos (show acc.length < 100000 by omega), q1]
  have ll : ∀ L : List Nat, (lockV v L).length = v.length := fun L => by
    induction L with
    | nil => rfl
    | cons a r ih => unfold lockV; split <;> simp [ih]
  obtain ⟨us, v9, c9, q1, q0, q2, q3⟩ := key s.items [] (lockV v s.locks) c1 hi (by simpa using hl) hw (ll _)
  refine ⟨us, c9, ?_, q0⟩
  rw [vE_comp, hI, vb_some, if_pos ⟨hf, hs⟩, q1, vb_some, back_same _ _ own (q2.trans hw.symm) (by rw [q3, ll]), unlock_lock]
/-- a def's answer -/
def Ret (cf : Nat → Bool) (f : Nat) (R : W → Ce → Prop) : FlU → VEnv → Ce → Prop
  | .nx, _, c => R (false, .non) c
  | .ret w, _, c => R (celOf cf f w c).1 (celOf cf f w c).2
theorem vcall_wp {P : List Fn} {wf k f : Nat} {cf : Nat → Bool} {us : List (Md × U)} {n np : Nat} {b : Ts} {ρ : VEnv} {R : W → Ce → Prop} (h : P[f]? = some ⟨n, np, b⟩) (hl : us.length = np) (ho : (us.all fun p => decide (p.1 ≠ .own)) = true) (hρ : us.map some ++ List.replicate (n - np) none = ρ)
    (H : Wp (vTs (vcall P wf cf k) wf b ρ c) (Ret cf f R)) : ∃ w c', vcall P wf cf (k + 1) f us c = some (w, c') ∧ R w c' := by
  obtain ⟨x, v', c', e, q⟩ := H
  rw [vcall_eq h hl ho hρ, e]
  cases x with
  | nx => exact ⟨_, _, rfl, q⟩
  | ret w => exact ⟨_, _, rfl, q⟩
theorem ret_sh {cf : Nat → Bool} {f : Nat} {R : W → Ce → Prop} {u : U} : Ret cf f R (.ret (false, u)) v c = R (false, u) c := rfl
end
end Ev
end
section
set_option linter.all false
set_option maxRecDepth 100000
set_option maxHeartbeats 4000000
/-! Comprehensions over drawn rows, plain data, sorted rows. -/
namespace Ev
open PySem L2
section
variable {v v' : VEnv} {c c' : Ce} {cl : Nat → List (Md × U) → Ce → Option (W × Ce)} {elt : E} {tg : Tg} {own : List Nat} {it : I} {cond : Eo} {vw : VEnv} {L : List Nat} {c1 : Ce}
theorem comp_fm {β : Type} {f : β → U} (g : β → Option U) {bs : List β} (hI : vI cl it v c = some (⟨bs.map f, L⟩, v, c)) (hf : own.all (free1 (lockV v L)) = true) (hs : (tgS tg).all (own.contains ·) = true) (hw : wipeV (lockV v L) own = vw)
    (ht : ∀ b ∈ bs, ∃ v2, setU tg (f b) vw = some v2 ∧ turnV cl elt cond v2 c = some (g b, v2, c)) (hl : bs.length ≤ 100000) :
    vE cl (.comp elt tg own it cond) v c = some ((true, .lst (bs.filterMap g)), v, c) := by
  obtain ⟨us, c', e, pre, suf, h1, h2, h3, h4⟩ := comp_eff (cl := cl) (elt := elt) (cond := cond) (tg := tg) (own := own) (it := it) (v := v) (c := c) (fun rest acc c' => ∃ pre suf, bs = pre ++ suf ∧ rest = suf.map f ∧ acc = pre.filterMap g ∧ c' = c) hI hf hs hw ⟨[], bs, rfl, rfl, rfl, rfl⟩ (fun u rest acc c' q => by
    obtain ⟨pre, suf, h1, h2, h3, h4⟩ := q
    cases suf with
    | nil => cases h2
    | cons b suf =>
      rw [List.map_cons] at h2
      obtain ⟨rfl, rfl⟩ := List.cons.inj h2
      obtain ⟨v2, k1, k2⟩ := ht b (by rw [h1]; simp)
      subst h4
      refine ⟨v2, g b, c', k1, k2, pre ++ [b], suf, by rw [h1]; simp, rfl, ?_, rfl⟩
      rw [h3, List.filterMap_append]
      cases hg : g b with
      | none => simp [hg]
      | some y => simp [hg]) (by simpa using hl)
  have : suf = [] := by
    cases suf with
    | nil => rfl
    | cons _ _ => cases h2
  subst this
  rw [e, h3, h4, h1, List.append_nil]
theorem comp_map {β : Type} {f g : β → U} {bs : List β} (hI : vI cl it v c = some (⟨bs.map f, L⟩, v, c)) (hf : own.all (free1 (lockV v L)) = true) (hs : (tgS tg).all (own.contains ·) = true) (hw : wipeV (lockV v L) own = vw)
    (ht : ∀ b ∈ bs, ∃ v2, setU tg (f b) vw = some v2 ∧ turnV cl elt cond v2 c = some (some (g b), v2, c)) (hl : bs.length ≤ 100000) :
    vE cl (.comp elt tg own it cond) v c = some ((true, .lst (bs.map g)), v, c) := by
  rw [comp_fm (fun b => some (g b)) hI hf hs hw ht hl, List.filterMap_eq_map']
theorem bools_map {β : Type} (p : β → Bool) (bs : List β) : boolsU (bs.map fun b => U.bl (p b)) = some (bs.map p) := by
  induction bs with
  | nil => rfl
  | cons b bs ih => rw [List.map_cons, boolsU, ih]; rfl
theorem all_pure {β : Type} {f : β → U} {p : β → Bool} {bs : List β} (hI : vI cl it v c = some (⟨bs.map f, L⟩, v, c)) (hf : own.all (free1 (lockV v L)) = true) (hs : (tgS tg).all (own.contains ·) = true) (hw : wipeV (lockV v L) own = vw)
    (ht : ∀ b ∈ bs, ∃ v2, setU tg (f b) vw = some v2 ∧ turnV cl elt cond v2 c = some (some (.bl (p b)), v2, c)) (hl : bs.length ≤ 100000) :
    vE cl (.comp elt tg own it cond) v c = some ((true, .lst (bs.map fun b => U.bl (p b))), v, c) := comp_map hI hf hs hw ht hl
theorem b1_all_map {β : Type} {p : β → Bool} {bs : List β} : b1U .all (.lst (bs.map fun b => U.bl (p b))) = some (false, .bl (bs.all p)) := by
  show (boolsU (bs.map fun b => U.bl (p b))).map (fun bs => (false, U.bl (bs.all id))) = _
  rw [bools_map, Option.map_some, List.all_map]
  rfl
theorem b1_len_s {s : Str} (h : s.length ≤ 100000) : b1U .len (.str s) = some (false, .int (s.length : Int)) := by
  have e : lenU (.str s) = some s.length := if_pos h
  simp only [b1U, e]
  rfl
/-- what is left of a row by a look -/
theorem comp_filter {β : Type} {f g : β → U} {p : β → Bool} {bs : List β} (hI : vI cl it v c = some (⟨bs.map f, L⟩, v, c)) (hf : own.all (free1 (lockV v L)) = true) (hs : (tgS tg).all (own.contains ·) = true) (hw : wipeV (lockV v L) own = vw)
    (ht : ∀ b ∈ bs, ∃ v2, setU tg (f b) vw = some v2 ∧ turnV cl elt cond v2 c = some (if p b = true then some (g b) else none, v2, c)) (hl : bs.length ≤ 100000) :
    vE cl (.comp elt tg own it cond) v c = some ((true, .lst ((bs.filter p).map g)), v, c) := by
  rw [comp_fm (fun b => if p b = true then some (g b) else none) hI hf hs hw ht hl]
  have : bs.filterMap (fun b => if p b = true then some (g b) else none) = (bs.filter p).map g := by
    clear hl ht hI
    induction bs with
    | nil => rfl
    | cons b bs ih =>
      by_cases h : p b = true
      · rw [List.filterMap_cons_some (b := g b) (by simp [h]), List.filter_cons_of_pos h, List.map_cons, ih]
      · rw [List.filterMap_cons_none (by simp [h]), List.filter_cons_of_neg h, ih]
  rw [this]
theorem src_slot_t {n : Nat} {md : Md} {us : List U} (e : v[n]? = some (some (md, .tup us))) : vI cl (.seq (.var n)) v c = some (⟨us, [n]⟩, v, c) := by
  rw [eI_seq, ar_var]
  have : slotAr n v c = some (.slot n, v, c) := by unfold slotAr; rw [e]
  rw [this, vb_some, sU_tup e]; rfl
theorem src_slot_l {n : Nat} {md : Md} {us : List U} (e : v[n]? = some (some (md, .lst us))) : vI cl (.seq (.var n)) v c = some (⟨us, [n]⟩, v, c) := by
  rw [eI_seq, ar_var]
  have : slotAr n v c = some (.slot n, v, c) := by unfold slotAr; rw [e]
  rw [this, vb_some, sU_lst e]; rfl
theorem src_slot_s {n : Nat} {md : Md} {s : Str} (e : v[n]? = some (some (md, .str s))) : vI cl (.seq (.var n)) v c = some (⟨signsU s, []⟩, v, c) := by
  rw [eI_seq, ar_var]
  have : slotAr n v c = some (.slot n, v, c) := by unfold slotAr; rw [e]
  rw [this, vb_some]
  have : srcU v (.slot n) = some ⟨signsU s, []⟩ := by unfold srcU; simp only [resA, e]
  rw [this]; rfl
end
/-- plain data: at most so deep, no row longer than B -/
def Pl (B : Nat) : Nat → U → Prop
  | _, .non => True
  | _, .bl _ => True
  | _, .int _ => True
  | _, .str s => PyData.strOk s = true ∧ s.length ≤ B
  | n + 1, .tup xs => xs.length ≤ B ∧ ∀ x, x ∈ xs → Pl B n x
  | n + 1, .lst xs => xs.length ≤ B ∧ ∀ x, x ∈ xs → Pl B n x
  | _ + 1, .dct ks us => ks = [] ∧ us = []
  | _, _ => False
theorem Pl.mono {B B' : Nat} (hB : B ≤ B') : ∀ {n n' : Nat} {u : U}, Pl B n u → n ≤ n' → Pl B' n' u := by
  intro n
  induction n with
  | zero =>
    intro n' u h hn
    cases u <;> cases n' <;> simp_all [Pl] <;> omega
  | succ n ih =>
    intro n' u h hn
    obtain ⟨m, rfl⟩ : ∃ m, n' = m + 1 := ⟨n' - 1, by omega⟩
    cases u with
    | tup xs => exact ⟨Nat.le_trans h.1 hB, fun x hx => ih (h.2 x hx) (by omega)⟩
    | lst xs => exact ⟨Nat.le_trans h.1 hB, fun x hx => ih (h.2 x hx) (by omega)⟩
    | str s => exact ⟨h.1, Nat.le_trans h.2 hB⟩
    | dct ks us => exact h
    | non => trivial
    | bl _ => trivial
    | int _ => trivial
    | fz _ => exact h.elim
    | cel _ => exact h.elim
theorem optAll_some {α : Type} : ∀ {l : List (Option α)}, (∀ x ∈ l, ∃ y, x = some y) → ∃ r, optAll l = some r
  | [], _ => ⟨[], rfl⟩
  | x :: l, h => by
    obtain ⟨y, rfl⟩ := h x (by simp)
    obtain ⟨r, e⟩ := optAll_some (l := l) fun z hz => h z (by simp [hz])
    exact ⟨y :: r, by rw [optAll, e]; rfl⟩
theorem Pl.py {B : Nat} : ∀ {n m : Nat} {u : U}, Pl B n u → n ≤ m → ∃ p, pyU m u = some p := by
  intro n
  induction n with
  | zero =>
    intro m u h hn
    cases u with
    | non => exact ⟨.none, by cases m <;> rfl⟩
    | bl b => exact ⟨.bool b, by cases m <;> rfl⟩
    | int i => exact ⟨.int i, by cases m <;> rfl⟩
    | str s => exact ⟨.str s, by cases m <;> simp [pyU, h.1]⟩
    | _ => exact h.elim
  | succ n ih =>
    intro m u h hn
    obtain ⟨m, rfl⟩ : ∃ m', m = m' + 1 := ⟨m - 1, by omega⟩
    cases u with
    | non => exact ⟨.none, rfl⟩
    | bl b => exact ⟨.bool b, rfl⟩
    | int i => exact ⟨.int i, rfl⟩
    | str s => exact ⟨.str s, by simp [pyU, h.1]⟩
    | tup xs =>
      obtain ⟨r, e⟩ := optAll_some (l := xs.map (pyU m)) fun x hx => by
        obtain ⟨y, hy, rfl⟩ := List.mem_map.mp hx
        exact ih (h.2 y hy) (by omega)
      exact ⟨.tuple r, by rw [pyU, e]; rfl⟩
    | lst xs =>
      obtain ⟨r, e⟩ := optAll_some (l := xs.map (pyU m)) fun x hx => by
        obtain ⟨y, hy, rfl⟩ := List.mem_map.mp hx
        exact ih (h.2 y hy) (by omega)
      exact ⟨.list r, by rw [pyU, e]; rfl⟩
    | dct ks us => obtain ⟨rfl, rfl⟩ := h; exact ⟨.dict [], rfl⟩
    | fz _ => exact h.elim
    | cel _ => exact h.elim
/-- a row of data rises -/
def riseD : List PyData → Bool
  | a :: b :: r => PySem.W.dataLt a b && riseD (b :: r)
  | _ => true
theorem zip_drop {β : Type} {f : β → U} : ∀ bs : List β, zip2U (bs.map f) ((bs.map f).drop 1) = (bs.zip (bs.drop 1)).map fun p => U.tup [f p.1, f p.2]
  | [] => rfl
  | [_] => rfl
  | a :: b :: r => by
    have ih := zip_drop (f := f) (b :: r)
    simp only [List.map_cons, List.drop_succ_cons, List.drop_zero, zip2U, List.zipWith_cons_cons, List.zip_cons_cons] at ih ⊢
    rw [ih]
theorem riseD_zip {β : Type} {e : β → PyData} : ∀ bs : List β, ((bs.zip (bs.drop 1)).all fun p => PySem.W.dataLt (e p.1) (e p.2)) = riseD (bs.map e)
  | [] => rfl
  | [_] => rfl
  | a :: b :: r => by
    have ih := riseD_zip (e := e) (b :: r)
    simp only [List.drop_succ_cons, List.drop_zero, List.zip_cons_cons, List.all_cons, List.map_cons, riseD] at ih ⊢
    rw [ih]
theorem riseD_idx {l : List PyData} : riseD l = true ↔ ∀ i (h : i + 1 < l.length), PySem.W.dataLt (l[i]'(by omega)) (l[i + 1]'h) = true := by
  induction l with
  | nil => simp [riseD]
  | cons a l ih =>
    cases l with
    | nil => simp [riseD]
    | cons b r =>
      rw [riseD, Bool.and_eq_true, ih]
      constructor
      · rintro ⟨h1, h2⟩ i hi
        cases i with
        | zero => exact h1
        | succ i => exact h2 i (by simpa using hi)
      · intro h
        exact ⟨h 0 (by simp), fun i hi => h (i + 1) (by simpa using hi)⟩
theorem iU_non {t : Ty} : isiU .non t = some false := rfl
theorem iU_bl {b : Bool} {t : Ty} : isiU (.bl b) t = some (decide (t = .bool) || decide (t = .int)) := rfl
theorem iU_int {i : Int} {t : Ty} : isiU (.int i) t = some (decide (t = .int)) := rfl
theorem iU_str {s : Str} {t : Ty} : isiU (.str s) t = some (decide (t = .str)) := rfl
theorem iU_tup {xs : List U} {t : Ty} : isiU (.tup xs) t = some (decide (t = .tuple)) := rfl
theorem iU_lst {xs : List U} {t : Ty} : isiU (.lst xs) t = some (decide (t = .list)) := rfl
theorem iU_fz {xs : List U} {t : Ty} : isiU (.fz xs) t = some (decide (t = .list)) := rfl
theorem iU_dct {ks : List (List Key)} {us : List U} {t : Ty} : isiU (.dct ks us) t = some (decide (t = .dict)) := rfl
end Ev
end
section
set_option linter.all false
set_option maxRecDepth 100000
set_option maxHeartbeats 4000000
/-! Texts, and what compares data. -/
namespace Ev
open PySem L2
theorem strOk_iff {x : Str} : PyData.strOk x = true ↔ ∀ n, n ∈ x.cps.toList → n < 0x110000 := by
  unfold PyData.strOk
  rw [← Array.all_toList, List.all_eq_true]
  simp
theorem strOk_append {x y : Str} (hx : PyData.strOk x = true) (hy : PyData.strOk y = true) : PyData.strOk (x ++ y) = true := by
  rw [strOk_iff] at *
  intro n hn
  have : (x ++ y : Str).cps.toList = x.cps.toList ++ y.cps.toList := Array.toList_append
  rw [this] at hn
  rcases List.mem_append.mp hn with h | h
  · exact hx n h
  · exact hy n h
theorem len_append {x y : Str} : (x ++ y : Str).length = x.length + y.length := Array.size_append
theorem Builtin.Str.strSub_mem {x : Str} {i j n : Nat} (h : n ∈ (Builtin.Str.strSub x i j).cps.toList) : n ∈ x.cps.toList := by
  unfold Builtin.Str.strSub at h
  simp only [Array.toList_extract, List.extract] at h
  exact List.mem_of_mem_drop (List.mem_of_mem_take h)
theorem strOk_strip {x y : Str} (hx : PyData.strOk x = true) : PyData.strOk (Txt.stripChars x y) = true := by
  unfold Txt.stripChars Txt.stripBy
  split
  · exact hx
  · rw [strOk_iff] at *
    intro n hn
    exact hx n (Builtin.Str.strSub_mem hn)
theorem takeWhile_all {α : Type} {p : α → Bool} : ∀ {l : List α}, (l.takeWhile p).length = l.length → l.all p = true
  | [], _ => rfl
  | a :: l, h => by
    cases hp : p a with
    | true =>
      rw [List.takeWhile_cons_of_pos hp, List.length_cons, List.length_cons] at h
      rw [List.all_cons, hp, takeWhile_all (by omega)]; rfl
    | false => rw [List.takeWhile_cons_of_neg (by simp [hp])] at h; simp at h
theorem takeWhile_le {α : Type} {p : α → Bool} : ∀ {l : List α}, (l.takeWhile p).length ≤ l.length
  | [] => by simp
  | a :: l => by
    cases hp : p a with
    | true => rw [List.takeWhile_cons_of_pos hp, List.length_cons, List.length_cons]; have := takeWhile_le (p := p) (l := l); omega
    | false => rw [List.takeWhile_cons_of_neg (by simp [hp])]; simp
theorem all_takeWhile {α : Type} {p : α → Bool} : ∀ {l : List α}, l.all p = true → l.takeWhile p = l
  | [], _ => rfl
  | a :: l, h => by
    rw [List.all_cons, Bool.and_eq_true] at h
    rw [List.takeWhile_cons_of_pos h.1, all_takeWhile h.2]
theorem drop_takeWhile_head {α : Type} {p : α → Bool} : ∀ {l : List α} {a : α} {r : List α}, l.drop (l.takeWhile p).length = a :: r → p a = false
  | [], a, r, h => by simp at h
  | b :: l, a, r, h => by
    cases hp : p b with
    | true =>
      rw [List.takeWhile_cons_of_pos hp, List.length_cons, List.drop_succ_cons] at h
      exact drop_takeWhile_head h
    | false =>
      rw [List.takeWhile_cons_of_neg (by simp [hp])] at h
      simp at h
      rw [← h.1]; exact hp
theorem strip_len {x y : Str} : ((Txt.stripChars x y).length == 0) = x.cps.toList.all (fun n => decide (n ∈ y.cps.toList)) := by
  have hg : ∀ n, y.cps.contains n = decide (n ∈ y.cps.toList) := fun n => by
    rw [Bool.eq_iff_iff]; simp
  have hlen : x.length = x.cps.toList.length := by simp [Str.length]
  rw [Bool.eq_iff_iff, beq_iff_eq]
  unfold Txt.stripChars Txt.stripBy
  have hgo : (fun n => y.cps.contains n) = fun n => decide (n ∈ y.cps.toList) := funext hg
  show ((if stripSame (fun n => y.cps.contains n) true true x = true then x else stripped (fun n => y.cps.contains n) true true x).length = 0) ↔ _
  rw [hgo]
  obtain ⟨p, hp⟩ : ∃ p : Nat → Bool, p = fun n => decide (n ∈ y.cps.toList) := ⟨_, rfl⟩
  rw [← hp]
  obtain ⟨l, hl⟩ : ∃ l, l = x.cps.toList := ⟨_, rfl⟩
  have elo : stripLo p true x = (l.takeWhile p).length := by rw [hl]; rfl
  have ehi : stripHi p true x (stripLo p true x) = l.length - ((l.drop (l.takeWhile p).length).reverse.takeWhile p).length := by
    rw [elo]; show x.length - ((x.cps.toList.drop _).reverse.takeWhile p).length = _; rw [hlen, ← hl]
  have tl := takeWhile_le (p := p) (l := l)
  rw [← hl]
  rw [← hl] at hlen
  constructor
  · intro h
    by_cases ha : (l.takeWhile p).length = l.length
    · exact takeWhile_all ha
    · exfalso
      cases hd : l.drop (l.takeWhile p).length with
      | nil =>
        have := congrArg List.length hd
        simp at this; omega
      | cons a r =>
        have hpa := drop_takeWhile_head hd
        have hr : ((l.drop (l.takeWhile p).length).reverse.takeWhile p).length < (l.drop (l.takeWhile p).length).length := by
          rcases Nat.lt_or_ge ((l.drop (l.takeWhile p).length).reverse.takeWhile p).length (l.drop (l.takeWhile p).length).length with z | z
          · exact z
          · exfalso
            have e : ((l.drop (l.takeWhile p).length).reverse.takeWhile p).length = (l.drop (l.takeWhile p).length).reverse.length := by
              have := takeWhile_le (p := p) (l := (l.drop (l.takeWhile p).length).reverse)
              rw [List.length_reverse] at this ⊢
              omega
            have := takeWhile_all e
            rw [List.all_eq_true] at this
            have := this a (by rw [hd]; simp)
            rw [hpa] at this; cases this
        rw [List.length_drop] at hr
        split at h
        · omega
        · have e2 : (stripped p true true x).length = min (stripHi p true x (stripLo p true x)) x.cps.size - stripLo p true x := by
            show (Builtin.Str.strSub x _ _).length = _
            unfold Builtin.Str.strSub Str.length
            simp
          rw [e2, ehi, elo] at h
          have : x.cps.size = l.length := by rw [hl]; simp
          omega
  · intro h
    have e := all_takeWhile h
    split
    · rename_i hs
      unfold stripSame at hs
      rw [Bool.and_eq_true] at hs
      have := hs.1
      rw [elo, e] at this
      have : l.length = 0 := by simpa using this
      omega
    · show (Builtin.Str.strSub x _ _).length = 0
      unfold Builtin.Str.strSub Str.length
      rw [ehi, elo, e]
      simp
      omega
theorem str_eq_empty {x : Str} : (x == ("" : Str)) = (x.length == 0) := by
  rw [Bool.eq_iff_iff, beq_iff_eq, beq_iff_eq]
  constructor
  · rintro rfl; rfl
  · intro h
    apply PySem.W.str_of_cps
    have : x.cps.toList.length = 0 := by rw [Array.length_toList]; exact h
    rw [List.length_eq_zero_iff.mp this]; decide +kernel
theorem cU_eq_str {x y : Str} (hx : PyData.strOk x = true) (hy : PyData.strOk y = true) : cmpU .Eq (.str x) (.str y) = some (x == y) := by
  simp [cmpU, eqU, pyU, hx, hy, PyData.eqv, PyData.canLay0]
theorem cU_ne_str {x y : Str} (hx : PyData.strOk x = true) (hy : PyData.strOk y = true) : cmpU .NotEq (.str x) (.str y) = some (!(x == y)) := by
  simp [cmpU, eqU, pyU, hx, hy, PyData.eqv, PyData.canLay0]
theorem cU_lt_str {x y : Str} (hx : PyData.strOk x = true) (hy : PyData.strOk y = true) : cmpU .Lt (.str x) (.str y) = some (PySem.W.dataLt (.str x) (.str y)) := by
  show ltU (.str x) (.str y) = _
  unfold ltU
  simp [pyU, hx, hy, PyData.canLay0, PySem.W.alike]
theorem cU_nil {us : List U} {n B : Nat} (h : ∀ u ∈ us, Pl B n u) (hn : n ≤ 59) : cmpU .Eq (.lst us) (.lst []) = some us.isEmpty := by
  show eqU _ _ = _
  unfold eqU
  obtain ⟨r, e⟩ := optAll_some (l := us.map (pyU 59)) fun x hx => by
    obtain ⟨y, hy, rfl⟩ := List.mem_map.mp hx
    exact (h y hy).py hn
  have e1 : pyU 60 (.lst us) = some (.list r) := by rw [pyU, e]; rfl
  have e2 : pyU 60 (.lst []) = some (.list []) := rfl
  simp only [e1, e2]
  cases us with
  | nil => cases e; rfl
  | cons u us =>
    cases r with
    | nil =>
      exfalso
      simp only [List.map_cons] at e
      cases hu : pyU 59 u with
      | none => rw [hu] at e; cases e
      | some p => rw [hu, optAll] at e; cases h2 : optAll (us.map (pyU 59)) with
        | none => rw [h2] at e; cases e
        | some _ => rw [h2] at e; cases e
    | cons a r => simp [PyData.eqv, PyData.eqvAll, PyData.canLay0, PyData.canLayAll0]
theorem cU_nilN {us : List U} {n B : Nat} (h : ∀ u ∈ us, Pl B n u) (hn : n ≤ 59) : cmpU .NotEq (.lst us) (.lst []) = some (!us.isEmpty) := by
  have := cU_nil h hn
  show (eqU _ _).map _ = _
  rw [show eqU (.lst us) (.lst []) = some us.isEmpty from this]; rfl
/-- in a row of texts -/
def inS (ss : List Str) : U → Bool
  | .str s => decide (s ∈ ss)
  | _ => false
theorem py_strs {ss : List Str} (h : ∀ s ∈ ss, PyData.strOk s = true) {m : Nat} : optAll ((ss.map U.str).map (pyU m)) = some (ss.map PyData.str) := by
  rw [List.map_map]
  apply optAll_map
  intro s hs
  have := h s hs
  cases m <;> simp [pyU, this]
theorem lay_strs {ss : List Str} (h : ∀ s ∈ ss, PyData.strOk s = true) : PyData.canLayAll0 (ss.map PyData.str) = true := by
  induction ss with
  | nil => rfl
  | cons s ss ih => rw [List.map_cons, PyData.canLayAll0, ih (fun t ht => h t (by simp [ht])), PyData.canLay0, h s (by simp)]; rfl
theorem any_strs {ss : List Str} {u : U} {p : PyData} (hp : pyU 60 u = some p) : ((ss.map PyData.str).any fun z => PyData.eqv z p) = inS ss u := by
  rw [List.any_map]
  cases u with
  | str x =>
    rw [pyU] at hp
    split at hp
    · cases hp
      rw [Bool.eq_iff_iff]
      simp [inS, PyData.eqv]
    · cases hp
  | non => cases hp; simp [inS, PyData.eqv]
  | bl _ => cases hp; simp [inS, PyData.eqv]
  | int _ => cases hp; simp [inS, PyData.eqv]
  | tup xs => rw [pyU] at hp; cases h2 : optAll (xs.map (pyU 59)) with
    | none => rw [h2] at hp; cases hp
    | some r => rw [h2] at hp; cases hp; simp [inS, PyData.eqv]
  | lst xs => rw [pyU] at hp; cases h2 : optAll (xs.map (pyU 59)) with
    | none => rw [h2] at hp; cases hp
    | some r => rw [h2] at hp; cases hp; simp [inS, PyData.eqv]
  | fz xs => rw [pyU] at hp; cases h2 : optAll (xs.map (pyU 59)) with
    | none => rw [h2] at hp; cases hp
    | some r => rw [h2] at hp; cases hp; simp [inS, PyData.eqv]
  | cel _ => cases hp
  | dct ks us => cases ks with
    | nil => cases hp; simp [inS, PyData.eqv]
    | cons _ _ => cases hp
theorem cU_in_t {ss : List Str} (h : ∀ s ∈ ss, PyData.strOk s = true) {u : U} {n B : Nat} (hu : Pl B n u) (hn : n ≤ 60) : cmpU .In u (.tup (ss.map .str)) = some (inS ss u) := by
  obtain ⟨p, hp⟩ := hu.py hn
  have e1 : pyU 60 (.tup (ss.map .str)) = some (.tuple (ss.map .str)) := by rw [pyU, py_strs h]; rfl
  show inU u _ = _
  have : inU u (.tup (ss.map .str)) = match pyU 60 u, pyU 60 (.tup (ss.map .str)) with
    | some p, some (.list ps) => if PyData.canLayAll0 ps = true then some (ps.any fun z => PyData.eqv z p) else none
    | some p, some (.tuple ps) => if PyData.canLayAll0 ps = true then some (ps.any fun z => PyData.eqv z p) else none
    | _, _ => none := by cases u <;> rfl
  rw [this]
  simp only [hp, e1, lay_strs h, if_true, any_strs hp]
theorem cU_in_l {ss : List Str} (h : ∀ s ∈ ss, PyData.strOk s = true) {u : U} {n B : Nat} (hu : Pl B n u) (hn : n ≤ 60) : cmpU .In u (.lst (ss.map .str)) = some (inS ss u) := by
  obtain ⟨p, hp⟩ := hu.py hn
  have e1 : pyU 60 (.lst (ss.map .str)) = some (.list (ss.map .str)) := by rw [pyU, py_strs h]; rfl
  show inU u _ = _
  have : inU u (.lst (ss.map .str)) = match pyU 60 u, pyU 60 (.lst (ss.map .str)) with
    | some p, some (.list ps) => if PyData.canLayAll0 ps = true then some (ps.any fun z => PyData.eqv z p) else none
    | some p, some (.tuple ps) => if PyData.canLayAll0 ps = true then some (ps.any fun z => PyData.eqv z p) else none
    | _, _ => none := by cases u <;> rfl
  rw [this]
  simp only [hp, e1, lay_strs h, if_true, any_strs hp]
theorem cU_nin_t {ss : List Str} (h : ∀ s ∈ ss, PyData.strOk s = true) {u : U} {n B : Nat} (hu : Pl B n u) (hn : n ≤ 60) : cmpU .NotIn u (.tup (ss.map .str)) = some (!inS ss u) := by
  show (inU _ _).map _ = _
  rw [show inU u (.tup (ss.map .str)) = some (inS ss u) from cU_in_t h hu hn]; rfl
theorem at_mem {xs : List U} {i : Int} (h0 : 0 ≤ i) (h1 : i < xs.length) : ∃ u, u ∈ xs ∧ atI xs i = some u :=
  ⟨xs[i.toNat]'(by omega), List.getElem_mem _, atU (k := i.toNat) (List.getElem?_eq_getElem (by omega)) (by omega)⟩
theorem cut_l {xs : List U} {m : Nat} (h : xs.length ≤ 100000) : slU (.lst xs) none (some (m : Int)) = some (true, .lst (xs.take m)) := by
  unfold slU cutU
  have e1 : HT.sIx xs.length 0 none = 0 := rfl
  have e2 : HT.sIx xs.length xs.length (some (m : Int)) = min m xs.length := HT.sIx_nat _ _ _
  simp only [e1, e2, List.drop_zero, Nat.sub_zero]
  rw [show xs.take (min m xs.length) = xs.take m by rw [List.take_eq_take_iff]; omega]
  exact nLU (by rw [List.length_take]; omega)
theorem cut_t {xs : List U} {m : Nat} : slU (.tup xs) none (some (m : Int)) = some (false, .tup (xs.take m)) := by
  unfold slU cutU
  have e1 : HT.sIx xs.length 0 none = 0 := rfl
  have e2 : HT.sIx xs.length xs.length (some (m : Int)) = min m xs.length := HT.sIx_nat _ _ _
  simp only [e1, e2, List.drop_zero, Nat.sub_zero]
  rw [show xs.take (min m xs.length) = xs.take m by rw [List.take_eq_take_iff]; omega]
theorem cut_d {xs : List U} {m : Nat} : slU (.tup xs) (some (m : Int)) none = some (false, .tup (xs.drop m)) := by
  unfold slU cutU
  have e1 : HT.sIx xs.length xs.length none = xs.length := rfl
  have e2 : HT.sIx xs.length 0 (some (m : Int)) = min m xs.length := HT.sIx_nat _ _ _
  simp only [e1, e2]
  congr 3
  rw [List.take_of_length_le (by rw [List.length_drop]; exact Nat.le_refl _)]
  rcases Nat.le_total m xs.length with h | h
  · rw [Nat.min_eq_left h]
  · rw [Nat.min_eq_right h, List.drop_of_length_le h, List.drop_length]
theorem sort_strs {ss : List Str} (h : ∀ s ∈ ss, PyData.strOk s = true) (hn : ss.Nodup) (hl : ss.length ≤ 100000) : ∃ ws : List Str, ws.Perm ss ∧ ws.Pairwise (fun a b => PySem.W.dataLt (.str a) (.str b) = true) ∧ sortU (ss.map U.str) = some (true, .lst (ws.map U.str)) := by
  refine sortU_gen (f := U.str) (e := PyData.str) (fun b hb => by simp [pyU, h b hb]) (fun b hb => by simp [PyData.canLay0, h b hb]) (fun a _ b _ => rfl) ?_ (fun a b e => ?_) hn hl
  · unfold sortable
    rw [Bool.or_eq_true]
    right
    simp
  · simp only [PySem.W.keyToks, List.cons.injEq, Sum.inr.injEq, and_true] at e
    exact PySem.W.str_of_cps e
theorem nT0 : newTU [] = some (false, .tup []) := rfl
theorem nT1 {a : U} : newTU [a] = some (false, .tup [a]) := nTU (by simp)
theorem nT2 {a b : U} : newTU [a, b] = some (false, .tup [a, b]) := nTU (by simp)
theorem nT3 {a b c : U} : newTU [a, b, c] = some (false, .tup [a, b, c]) := nTU (by simp)
theorem nT4 {a b c d : U} : newTU [a, b, c, d] = some (false, .tup [a, b, c, d]) := nTU (by simp)
theorem nT5 {a b c d e : U} : newTU [a, b, c, d, e] = some (false, .tup [a, b, c, d, e]) := nTU (by simp)
theorem nL0 : newLU [] = some (true, .lst []) := rfl
theorem nL1 {a : U} : newLU [a] = some (true, .lst [a]) := nLU (by simp)
theorem nL2 {a b : U} : newLU [a, b] = some (true, .lst [a, b]) := nLU (by simp)
theorem nL3 {a b c : U} : newLU [a, b, c] = some (true, .lst [a, b, c]) := nLU (by simp)
theorem nL4 {a b c d : U} : newLU [a, b, c, d] = some (true, .lst [a, b, c, d]) := nLU (by simp)
theorem nL5 {a b c d e : U} : newLU [a, b, c, d, e] = some (true, .lst [a, b, c, d, e]) := nLU (by simp)
theorem nL6 {a b c d e f : U} : newLU [a, b, c, d, e, f] = some (true, .lst [a, b, c, d, e, f]) := nLU (by simp)
theorem nL7 {a b c d e f g : U} : newLU [a, b, c, d, e, f, g] = some (true, .lst [a, b, c, d, e, f, g]) := nLU (by simp)
theorem nL8 {a b c d e f g h : U} : newLU [a, b, c, d, e, f, g, h] = some (true, .lst [a, b, c, d, e, f, g, h]) := nLU (by simp)
theorem nL9 {a b c d e f g h i : U} : newLU [a, b, c, d, e, f, g, h, i] = some (true, .lst [a, b, c, d, e, f, g, h, i]) := nLU (by simp)
theorem nL10 {a b c d e f g h i j : U} : newLU [a, b, c, d, e, f, g, h, i, j] = some (true, .lst [a, b, c, d, e, f, g, h, i, j]) := nLU (by simp)
theorem nL11 {a b c d e f g h i j k : U} : newLU [a, b, c, d, e, f, g, h, i, j, k] = some (true, .lst [a, b, c, d, e, f, g, h, i, j, k]) := nLU (by simp)
theorem nL14 {a b c d e f g h i j k l m n : U} : newLU [a, b, c, d, e, f, g, h, i, j, k, l, m, n] = some (true, .lst [a, b, c, d, e, f, g, h, i, j, k, l, m, n]) := nLU (by simp)
end Ev
namespace Ev
open PySem L2
section
variable {v : VEnv} {c : Ce} {cl : Nat → List (Md × U) → Ce → Option (W × Ce)}
theorem turn_if {q elt : E} {b w w' : Bool} {u : U} (h1 : vE cl q v c = some ((w, .bl b), v, c)) (h2 : b = true → vE cl elt v c = some ((w', u), v, c)) : turnV cl elt (.some q) v c = some (if b = true then some u else none, v, c) := by
  unfold turnV
  rw [eO_some, h1, vb_some, vb_some]
  cases b with
  | true => show vb (vE cl elt v c) _ = _; rw [h2 rfl, vb_some]; rfl
  | false => rfl
theorem turn_no {elt : E} {w : Bool} {u : U} (h : vE cl elt v c = some ((w, u), v, c)) : turnV cl elt .none v c = some (some u, v, c) := by
  unfold turnV
  rw [eO_none, vb_some]
  show vb (vE cl elt v c) _ = _
  rw [h, vb_some]
end
theorem slU_t {xs : List U} {lo hi : Option Int} : slU (.tup xs) lo hi = some (false, .tup (cutU xs lo hi)) := rfl
theorem cut_mem {xs : List U} {lo hi : Option Int} {x : U} (h : x ∈ cutU xs lo hi) : x ∈ xs := List.mem_of_mem_drop (List.mem_of_mem_take h)
theorem cut_len {xs : List U} {lo hi : Option Int} : (cutU xs lo hi).length ≤ xs.length := by
  unfold cutU
  rw [List.length_take, List.length_drop]; omega
theorem bU_str {x y : Str} (h : x.length + y.length ≤ 100000) : binU .Add (.str x) (.str y) = some (false, .str (x ++ y)) := if_pos h
theorem strsU_map (ss : List Str) : strsU (ss.map U.str) = some ss := by
  induction ss with
  | nil => rfl
  | cons s ss ih => rw [List.map_cons, strsU, ih]; rfl
theorem cU_nilT {us : List U} {n B : Nat} (h : ∀ u ∈ us, Pl B n u) (hn : n ≤ 59) : cmpU .NotEq (.tup us) (.tup []) = some (!us.isEmpty) := by
  show (eqU _ _).map _ = _
  unfold eqU
  obtain ⟨r, e⟩ := optAll_some (l := us.map (pyU 59)) fun x hx => by
    obtain ⟨y, hy, rfl⟩ := List.mem_map.mp hx
    exact (h y hy).py hn
  have e1 : pyU 60 (.tup us) = some (.tuple r) := by rw [pyU, e]; rfl
  have e2 : pyU 60 (.tup []) = some (.tuple []) := rfl
  simp only [e1, e2]
  cases us with
  | nil => cases e; rfl
  | cons u us =>
    cases r with
    | nil =>
      exfalso
      simp only [List.map_cons] at e
      cases hu : pyU 59 u with
      | none => rw [hu] at e; cases e
      | some p => rw [hu, optAll] at e; cases h2 : optAll (us.map (pyU 59)) with
        | none => rw [h2] at e; cases e
        | some _ => rw [h2] at e; cases e
    | cons a r => simp [PyData.eqv, PyData.eqvAll, PyData.canLay0, PyData.canLayAll0]
theorem Pl.tup_in {B n : Nat} {xs : List U} (h : Pl B n (.tup xs)) : ∃ m, n = m + 1 ∧ xs.length ≤ B ∧ ∀ x, x ∈ xs → Pl B m x := by
  cases n with
  | zero => exact h.elim
  | succ m => exact ⟨m, rfl, h.1, h.2⟩
theorem Pl.str_in {B n : Nat} {s : Str} (h : Pl B n (.str s)) : PyData.strOk s = true ∧ s.length ≤ B := by
  cases n with
  | zero => exact h
  | succ m => exact h
theorem Pl.str_of {B n : Nat} {s : Str} (h1 : PyData.strOk s = true) (h2 : s.length ≤ B) : Pl B n (.str s) := by
  cases n with
  | zero => exact ⟨h1, h2⟩
  | succ m => exact ⟨h1, h2⟩
theorem Pl.int_of {B n : Nat} {i : Int} : Pl B n (.int i) := by
  cases n <;> trivial
theorem Pl.bl_of {B n : Nat} {i : Bool} : Pl B n (.bl i) := by
  cases n <;> trivial
theorem Pl.non_of {B n : Nat} : Pl B n .non := by
  cases n <;> trivial
end Ev
end
section
set_option linter.all false
set_option maxRecDepth 100000
set_option maxHeartbeats 4000000
/-! What repr tells of plain data, and how long it is. -/
namespace Ev
open PySem L2
def chOk (n : Nat) : Bool := decide (n < 127) && (decide (32 ≤ n) || n == 10)
def txOk (s : Str) : Bool := s.cps.toList.all chOk
theorem print_ok : ∀ c, c < 127 → 32 ≤ c → Unicode.isPrintable c = true := by
  have : (List.range 127).all (fun c => !(decide (32 ≤ c)) || Unicode.isPrintable c) = true := by decide +kernel
  intro c h1 h2
  have := List.all_eq_true.mp this c (List.mem_range.mpr h1)
  simpa [h2] using this
theorem reprChar_ok {q c : Nat} (h : chOk c = true) : ∀ d ∈ Builtin.Str.reprChar q c, d < 0x110000 := by
  unfold chOk at h
  simp only [Bool.and_eq_true, decide_eq_true_eq, Bool.or_eq_true, beq_iff_eq] at h
  unfold Builtin.Str.reprChar
  simp only
  split
  · intro d hd; simp at hd; omega
  · split
    · intro d hd; simp at hd; omega
    · split
      · intro d hd; simp at hd; omega
      · split
        · intro d hd; simp at hd; omega
        · rename_i n10 _ _
          have : 32 ≤ c := by
            rcases h.2 with z | z
            · exact z
            · exfalso; apply n10; simp [z]
          rw [if_pos (print_ok c h.1 this)]
          intro d hd; simp at hd; omega
theorem repr_fold (q : Nat) : ∀ (l : List Nat) (acc : Array Nat), (l.foldl (fun out c => out ++ (Builtin.Str.reprChar q c).toArray) acc).toList = acc.toList ++ l.flatMap (Builtin.Str.reprChar q)
  | [], acc => by simp
  | c :: l, acc => by
    rw [List.foldl_cons, repr_fold q l, List.flatMap_cons]
    simp
theorem strOk_repr {x : Str} (h : txOk x = true) : PyData.strOk (reprText x) = true := by
  rw [strOk_iff]
  unfold reprText
  simp only [Array.toList_push]
  rw [← Array.foldl_toList, repr_fold]
  intro n hn
  have hq : reprQuote x < 0x110000 := by unfold reprQuote; split <;> omega
  simp only [List.mem_append, List.mem_singleton, List.mem_flatMap] at hn
  rcases hn with (hn | ⟨c, hc, hn⟩) | rfl
  · have : n = reprQuote x := by simpa using hn
    omega
  · exact reprChar_ok (List.all_eq_true.mp h c hc) n hn
  · exact hq
theorem strOk_txOk {x : Str} (h : txOk x = true) : PyData.strOk x = true := by
  rw [strOk_iff]
  intro n hn
  have := List.all_eq_true.mp h n hn
  unfold chOk at this
  simp only [Bool.and_eq_true, decide_eq_true_eq] at this
  omega
theorem okT_join {sep : Str} (hs : PyData.strOk sep = true) : ∀ {ss : List Str}, (∀ s ∈ ss, PyData.strOk s = true) → PyData.strOk (Str.join sep ss) = true
  | [], _ => by show PyData.strOk Str.empty = true; decide +kernel
  | [x], h => h x (by simp)
  | x :: y :: r, h => by
    show PyData.strOk (x ++ sep ++ Str.join sep (y :: r)) = true
    exact strOk_append (strOk_append (h x (by simp)) hs) (okT_join hs fun s hs => h s (by simp [hs]))
def IntOk (i : Int) : Prop := i.natAbs.log2 < 1920 ∧ (PyData.shown (.int i)).length ≤ 40 ∧ PyData.strOk (PyData.shown (.int i)) = true
/-- plain data that can be shown -/
def Sn : Nat → U → Prop
  | _, .non => True
  | _, .bl _ => True
  | _, .int i => IntOk i
  | _, .str s => txOk s = true
  | n + 1, .tup xs => ∀ x, x ∈ xs → Sn n x
  | n + 1, .lst xs => ∀ x, x ∈ xs → Sn n x
  | _ + 1, .dct ks us => ks = [] ∧ us = []
  | _, _ => False
mutual
def nd : U → Nat
  | .tup xs => 1 + nds xs
  | .lst xs => 1 + nds xs
  | .fz xs => 1 + nds xs
  | .str s => 1 + s.length
  | .int i => 2 + i.natAbs.log2
  | _ => 1
def nds : List U → Nat
  | [] => 0
  | x :: r => nd x + nds r
end
theorem nds_app : ∀ xs ys : List U, nds (xs ++ ys) = nds xs + nds ys
  | [], ys => by simp [nds]
  | x :: xs, ys => by rw [List.cons_append, nds, nds, nds_app xs ys]; omega
theorem nd_pos (u : U) : 1 ≤ nd u := by cases u <;> simp [nd] <;> omega
theorem nds_len : ∀ xs : List U, xs.length ≤ nds xs
  | [] => by simp [nds]
  | x :: xs => by rw [nds, List.length_cons]; have := nds_len xs; have := nd_pos x; omega
theorem nds_rev (xs : List U) : nds xs.reverse = nds xs := by
  induction xs with
  | nil => rfl
  | cons x xs ih => rw [List.reverse_cons, nds_app, ih]; simp [nds]; omega
theorem nds_sub {xs ys : List U} (h : xs.Sublist ys) : nds xs ≤ nds ys := by
  induction h with
  | slnil => simp
  | cons a _ ih => rw [nds]; omega
  | cons_cons a _ ih => rw [nds, nds]; omega
theorem nds_mem {x : U} {xs : List U} (h : x ∈ xs) : nd x ≤ nds xs := by
  have := nds_sub (List.singleton_sublist.mpr h)
  simpa [nds] using this
theorem cut_sub (xs : List U) (lo hi : Option Int) : (cutU xs lo hi).Sublist xs := (List.take_sublist _ _).trans (List.drop_sublist _ _)
theorem optAll_consS {α : Type} {a : Option α} {l : List (Option α)} {r : List α} (h : optAll (a :: l) = some r) : ∃ x s, a = some x ∧ optAll l = some s ∧ r = x :: s := by
  cases a with
  | none => cases h
  | some x => cases h2 : optAll l with
    | none => rw [optAll, h2] at h; cases h
    | some s => rw [optAll, h2] at h; cases h; exact ⟨x, s, rfl, rfl, rfl⟩
theorem Sn.mono : ∀ {n n' : Nat} {u : U}, Sn n u → n ≤ n' → Sn n' u := by
  intro n
  induction n with
  | zero =>
    intro n' u h hn
    cases u <;> cases n' <;> simp_all [Sn]
  | succ n ih =>
    intro n' u h hn
    obtain ⟨m, rfl⟩ : ∃ m, n' = m + 1 := ⟨n' - 1, by omega⟩
    cases u with
    | tup xs => exact fun x hx => ih (h x hx) (by omega)
    | lst xs => exact fun x hx => ih (h x hx) (by omega)
    | fz _ => exact h.elim
    | cel _ => exact h.elim
    | _ => exact h
structure Show (u : U) (p : PyData) : Prop where
  s : p.showable = true
  l : p.leavesShort 40 = true
  w : p.weight + 1 ≤ nd u
  o : PyData.strOk p.shown = true
theorem strOk_all {ps : List PyData} (h : ∀ p ∈ ps, PyData.strOk p.shown = true) : ∀ t ∈ PyData.shownAll ps, PyData.strOk t = true := by
  induction ps with
  | nil => simp [PyData.shownAll]
  | cons p ps ih =>
    intro t ht
    simp only [PyData.shownAll, List.mem_cons] at ht
    rcases ht with rfl | ht
    · exact h p (by simp)
    · exact ih (fun q hq => h q (by simp [hq])) t ht
theorem Sn.show : ∀ {n m : Nat} {u : U} {p : PyData}, Sn n u → pyU m u = some p → Show u p := by
  intro n
  have leaf : ∀ {n m : Nat} {u : U} {p : PyData}, (∀ xs, u ≠ .tup xs) → (∀ xs, u ≠ .lst xs) → Sn n u → pyU m u = some p → Show u p := by
    intro n m u p h1 h2 h e
    cases u with
    | non =>
      have : p = .none := by cases m <;> (cases e; rfl)
      subst this
      exact ⟨rfl, rfl, by simp [PyData.weight, nd], by simp only [PyData.shown]; decide +kernel⟩
    | bl b =>
      have : p = .bool b := by cases m <;> (cases e; rfl)
      subst this
      exact ⟨rfl, rfl, by simp [PyData.weight, nd], by simp only [PyData.shown]; cases b <;> decide +kernel⟩
    | int i =>
      have : p = .int i := by cases m <;> (cases e; rfl)
      subst this
      have hi : IntOk i := by cases n <;> exact h
      exact ⟨by simp [PyData.showable, hi.1], by simp only [PyData.leavesShort]; exact decide_eq_true hi.2.1, by simp only [PyData.weight, nd]; split <;> omega, hi.2.2⟩
    | str s =>
      have ht : txOk s = true := by cases n <;> exact h
      have : p = .str s := by cases m <;> (simp only [pyU, strOk_txOk ht, if_true] at e; cases e; rfl)
      subst this
      refine ⟨rfl, ?_, ?_, by simp only [PyData.shown]; exact strOk_repr ht⟩
      · simp only [PyData.leavesShort, List.all_eq_true, decide_eq_true_eq]
        intro c hc
        have := (strOk_iff.mp (strOk_txOk ht)) c hc
        have e : (16 : Nat) ^ 8 = 4294967296 := by decide
        omega
      · simp only [PyData.weight, nd]
        have : s.length = s.cps.size := rfl
        omega
    | tup xs => exact absurd rfl (h1 xs)
    | lst xs => exact absurd rfl (h2 xs)
    | fz _ => cases n <;> exact h.elim
    | cel _ => cases n <;> exact h.elim
    | dct ks us =>
      cases n with
      | zero => exact h.elim
      | succ n =>
        obtain ⟨rfl, rfl⟩ := h
        have : p = .dict [] := by cases m <;> (cases e; try rfl)
        subst this
        exact ⟨rfl, rfl, by simp [PyData.weight, PyData.weightKv, nd], by simp only [PyData.shown, PyData.shownKv]; decide +kernel⟩
  induction n with
  | zero =>
    intro m u p h e
    exact leaf (fun xs z => by subst z; exact h) (fun xs z => by subst z; exact h) h e
  | succ n ih =>
    have list : ∀ (m : Nat) (xs : List U) (ps : List PyData), (∀ x ∈ xs, Sn n x) → optAll (xs.map (pyU m)) = some ps → PyData.showableAll ps = true ∧ PyData.leavesShortAll 40 ps = true ∧ PyData.weightAll ps ≤ nds xs ∧ ∀ p ∈ ps, PyData.strOk p.shown = true := by
      intro m xs
      induction xs with
      | nil => intro ps _ e; cases e; exact ⟨rfl, rfl, by simp [PyData.weightAll], by simp⟩
      | cons x xs ihx =>
        intro ps h e
        obtain ⟨p, qs, e1, e2, rfl⟩ := optAll_consS e
        have a := ih (h x (by simp)) e1
        obtain ⟨b1, b2, b3, b4⟩ := ihx qs (fun y hy => h y (by simp [hy])) e2
        refine ⟨by simp [PyData.showableAll, a.s, b1], by simp [PyData.leavesShortAll, a.l, b2], ?_, ?_⟩
        · simp only [PyData.weightAll, nds]; have := a.w; omega
        · intro q hq
          rcases List.mem_cons.mp hq with rfl | hq
          · exact a.o
          · exact b4 q hq
    intro m u p h e
    cases u with
    | tup xs =>
      cases m with
      | zero => cases e
      | succ m =>
        rw [pyU] at e
        cases h2 : optAll (xs.map (pyU m)) with
        | none => rw [h2] at e; cases e
        | some ps =>
          rw [h2] at e; cases e
          obtain ⟨b1, b2, b3, b4⟩ := list m xs ps h h2
          refine ⟨by simp [PyData.showable, b1], by simp [PyData.leavesShort, b2], by simp only [PyData.weight, nd]; omega, ?_⟩
          rw [PyData.shown_tuple]
          refine strOk_append (strOk_append (by decide +kernel) (okT_join (by decide +kernel) (strOk_all b4))) ?_
          split <;> decide +kernel
    | lst xs =>
      cases m with
      | zero => cases e
      | succ m =>
        rw [pyU] at e
        cases h2 : optAll (xs.map (pyU m)) with
        | none => rw [h2] at e; cases e
        | some ps =>
          rw [h2] at e; cases e
          obtain ⟨b1, b2, b3, b4⟩ := list m xs ps h h2
          refine ⟨by simp [PyData.showable, b1], by simp [PyData.leavesShort, b2], by simp only [PyData.weight, nd]; omega, ?_⟩
          rw [PyData.shown_list]
          exact strOk_append (strOk_append (by decide +kernel) (okT_join (by decide +kernel) (strOk_all b4))) (by decide +kernel)
    | _ => exact leaf (fun xs z => by cases z) (fun xs z => by cases z) h e
/-- repr of plain data -/
theorem repr_ok {B n : Nat} {u : U} (h1 : Pl B n u) (h2 : Sn n u) (hn : n ≤ 60) (hd : nd u ≤ 23000) : ∃ t : Str, b1U .repr u = some (false, .str t) ∧ PyData.strOk t = true := by
  obtain ⟨p, hp⟩ := h1.py hn
  have s := h2.show hp
  have hl := PyData.shown_le 40 (by omega) p s.l
  have hw := s.w
  have hlen : p.shown.length ≤ 1000000 := by omega
  refine ⟨p.shown, ?_, s.o⟩
  simp only [b1U, hp, if_pos (show p.showable = true ∧ p.shown.length ≤ 1000000 from ⟨s.s, hlen⟩)]
theorem mem_cut {B n : Nat} {xs : List U} {lo hi : Option Int} (hl : xs.length ≤ B) (h : ∀ x ∈ xs, Pl B n x) : Pl B (n + 1) (.tup (cutU xs lo hi)) :=
  ⟨Nat.le_trans cut_len hl, fun x hx => h x (cut_mem hx)⟩
theorem lit_ok {B n : Nat} {s : Str} (h : (PyData.strOk s && decide (s.length ≤ 10)) = true) (hB : 10 ≤ B) : Pl B n (.str s) := by
  rw [Bool.and_eq_true, decide_eq_true_eq] at h
  exact Pl.str_of h.1 (by omega)
theorem IntOk.lit {i : Int} (h : (decide (i.natAbs.log2 < 1920) && decide ((PyData.shown (.int i)).length ≤ 40) && PyData.strOk (PyData.shown (.int i))) = true) : IntOk i := by
  simp only [Bool.and_eq_true, decide_eq_true_eq] at h
  exact ⟨h.1.1, h.1.2, h.2⟩
theorem sn_int {n : Nat} {i : Int} (h : IntOk i) : Sn n (.int i) := by cases n <;> exact h
theorem sn_str {n : Nat} {s : Str} (h : txOk s = true) : Sn n (.str s) := by cases n <;> exact h
theorem sn_non {n : Nat} : Sn n .non := by cases n <;> trivial
theorem sn_bl {n : Nat} {b : Bool} : Sn n (.bl b) := by cases n <;> trivial
theorem txOk_app {x y : Str} (hx : txOk x = true) (hy : txOk y = true) : txOk (x ++ y) = true := by
  unfold txOk at *
  rw [show (x ++ y : Str).cps.toList = x.cps.toList ++ y.cps.toList from Array.toList_append, List.all_append, hx, hy]; rfl
theorem small_ints : ∀ i ∈ [(0 : Int), 1, 2, 3, 4, 5, -1, 10 ^ 20], IntOk i := by
  intro i hi
  simp only [List.mem_cons, List.not_mem_nil, or_false] at hi
  rcases hi with rfl | rfl | rfl | rfl | rfl | rfl | rfl | rfl <;> exact IntOk.lit (by simp only [PyData.shown]; decide +kernel)
theorem riseD_pw {β : Type} {e : β → PyData} : ∀ {bs : List β}, bs.Pairwise (fun a b => PySem.W.dataLt (e a) (e b) = true) → riseD (bs.map e) = true
  | [], _ => rfl
  | [_], _ => rfl
  | a :: b :: r, h => by
    rw [List.pairwise_cons] at h
    rw [List.map_cons, List.map_cons, riseD, h.1 b (by simp), Bool.true_and]
    exact riseD_pw h.2
theorem nds_map_le {β : Type} {f : β → U} {C : Nat} : ∀ {bs : List β}, (∀ b ∈ bs, nd (f b) ≤ C) → nds (bs.map f) ≤ bs.length * C
  | [], _ => by simp [nds]
  | b :: bs, h => by
    rw [List.map_cons, nds, List.length_cons, Nat.add_mul, Nat.one_mul]
    have := h b (by simp)
    have := nds_map_le (bs := bs) fun x hx => h x (by simp [hx])
    omega
theorem two_pl {B n : Nat} {x y : U} (hB : 2 ≤ B) (hx : Pl B n x) (hy : Pl B n y) : Pl B (n + 1) (.tup [x, y]) := ⟨by simpa using hB, fun z hz => by
  simp only [List.mem_cons, List.not_mem_nil, or_false] at hz
  rcases hz with rfl | rfl
  · exact hx
  · exact hy⟩
theorem two_sn {n : Nat} {x y : U} (hx : Sn n x) (hy : Sn n y) : Sn (n + 1) (.tup [x, y]) := fun z hz => by
  simp only [List.mem_cons, List.not_mem_nil, or_false] at hz
  rcases hz with rfl | rfl
  · exact hx
  · exact hy
theorem five_all {p : U → Prop} {a b c d e : U} (h1 : p a) (h2 : p b) (h3 : p c) (h4 : p d) (h5 : p e) : ∀ x ∈ [a, b, c, d, e], p x := fun x hx => by
  simp only [List.mem_cons, List.not_mem_nil, or_false] at hx
  rcases hx with rfl | rfl | rfl | rfl | rfl <;> assumption
theorem three_all {p : U → Prop} {a b c : U} (h1 : p a) (h2 : p b) (h3 : p c) : ∀ x ∈ [a, b, c], p x := fun x hx => by
  simp only [List.mem_cons, List.not_mem_nil, or_false] at hx
  rcases hx with rfl | rfl | rfl <;> assumption
theorem filt_empty {β : Type} {p : β → Bool} {g : β → U} (bs : List β) : ((bs.filter fun b => !p b).map g).isEmpty = bs.all p := by
  rw [Bool.eq_iff_iff, List.isEmpty_iff, List.map_eq_nil_iff, List.filter_eq_nil_iff, List.all_eq_true]
  simp
theorem ones_pl {β : Type} (bs : List β) : ∀ u ∈ bs.map (fun _ => U.int 1), Pl 0 0 u := fun u hu => by
  obtain ⟨_, _, rfl⟩ := List.mem_map.mp hu
  trivial
end Ev
end
section
set_option linter.all false
set_option maxRecDepth 100000
namespace Lw
open PySem L2 Ev
def i_dealt : Nat := 0
def i_dealt_beside : Nat := 1
def i__law_deck : Nat := 2
def i__law_next : Nat := 3
def i__law_fan : Nat := 4
def i__law_fits : Nat := 5
def i__law_in_fan : Nat := 6
def i__law_right : Nat := 7
def i_law : Nat := 8
/-- dealt -/
def b_dealt : Ts := .cons (.ret (.b1 .tuple (.b1 .sorted (.call i_dealt_beside (.cons (.tup .nil) (.cons (.tup .nil) (.cons (.var 0) (.cons (.var 1) (.cons (.var 2) (.cons (.var 3) .nil)))))))))) .nil
def c_dealt_beside_1 : E := .tup (.cons (.var 12) (.cons (.ix (.var 3) (.bin .Mod (.var 14) (.b1 .len (.var 3)))) .nil))
def l_dealt_beside_2 : Ts := .cons (.asg (.one 13) (.bin .Sub (.bin .Add (.bin .Add (.var 8) (.var 9)) (.ite (.cmp .Lt (.var 11) (.var 10)) (.lit (.int 1)) (.lit (.int 0)))) (.ite (.cmp .Lt (.var 11) (.b1 .len (.var 1))) (.lit (.int 1)) (.lit (.int 0))))) (.cons (.expr (.meth .extend (.var 6) (.comp c_dealt_beside_1 (.one 14) [14] (.r2 (.var 8) (.var 13)) .none))) (.cons (.asg (.one 8) (.var 13)) .nil))
/-- dealt_beside -/
def b_dealt_beside : Ts := .cons (.ife (.or (.cmp .Eq (.b1 .len (.var 2)) (.lit (.int 0))) (.cmp .Eq (.b1 .len (.var 3)) (.lit (.int 0)))) (.cons (.ret (.lst .nil)) .nil) (.nil)) (.cons (.asg (.one 6) (.bin .Add (.b2 .lzip (.var 0) (.var 3)) (.b2 .lzip (.var 2) (.var 1)))) (.cons (.asg (.one 7) (.b2 .max (.bin .Add (.bin .Mult (.ix (.var 4) (.lit (.int 0))) (.b1 .len (.var 2))) (.b1 .len (.var 0))) (.bin .Add (.bin .Mult (.ix (.var 5) (.lit (.int 0))) (.b1 .len (.var 3))) (.b1 .len (.var 1))))) (.cons (.asg (.many [9, 10]) (.b2 .divmod (.bin .Sub (.var 7) (.b1 .len (.var 0))) (.b1 .len (.var 2)))) (.cons (.asg (.one 8) (.b1 .len (.var 0))) (.cons (.for (.many [11, 12]) (.enum (.var 2)) l_dealt_beside_2) (.cons (.ret (.var 6)) .nil))))))
def l__law_deck_1 : Ts := .cons (.ife (.cmp .Gt (.var 3) (.lit (.int 0))) (.cons (.expr (.meth .append (.var 1) (.bin .Mod (.var 3) (.lit (.int 1000000))))) (.cons (.asg (.one 3) (.bin .FloorDiv (.var 3) (.lit (.int 1000000)))) .nil)) (.nil)) .nil
def l__law_deck_2 : Ts := .cons (.asg (.one 3) (.ix (.var 0) (.var 2))) (.cons (.ife (.cmp .GtE (.var 3) (.bin .Pow (.lit (.int 10)) (.lit (.int 18)))) (.cons (.for (.one 4) (.r1 (.lit (.int 60))) l__law_deck_1) .nil) (.cons (.asg (.one 5) (.bin .Add (.bin .Add (.bin .Mult (.var 3) (.lit (.int 48271))) (.bin .Mult (.bin .Mult (.bin .Add (.var 2) (.lit (.int 1))) (.bin .Add (.var 2) (.lit (.int 1)))) (.lit (.int 7919)))) (.lit (.int 11)))) (.cons (.asg (.one 5) (.bin .Mod (.var 5) (.lit (.int 2147483647)))) (.cons (.expr (.meth .append (.var 1) (.bin .Mod (.bin .Mult (.var 5) (.var 5)) (.lit (.int 2147483629))))) .nil)))) .nil)
/-- _law_deck -/
def b__law_deck : Ts := .cons (.asg (.one 1) (.lst .nil)) (.cons (.for (.one 2) (.r1 (.b2 .min (.b1 .len (.var 0)) (.lit (.int 63)))) l__law_deck_2) (.cons (.ret (.lst (.cons (.lit (.int 0)) (.cons (.var 1) .nil)))) .nil))
/-- _law_next -/
def b__law_next : Ts := .cons (.asg (.one 1) (.ix (.var 0) (.lit (.int 0)))) (.cons (.setIx (.var 0) (.lit (.int 0)) (.bin .Add (.var 1) (.lit (.int 1)))) (.cons (.asg (.one 2) (.ix (.var 0) (.lit (.int 1)))) (.cons (.ife (.cmp .Lt (.var 1) (.b1 .len (.var 2))) (.cons (.ret (.ix (.var 2) (.var 1))) .nil) (.nil)) (.cons (.ife (.cmp .Eq (.b1 .len (.var 2)) (.lit (.int 0))) (.cons (.ret (.bin .Mod (.bin .Mult (.bin .Mult (.bin .Mult (.bin .Add (.var 1) (.lit (.int 1))) (.bin .Add (.var 1) (.lit (.int 1)))) (.bin .Add (.var 1) (.lit (.int 3)))) (.lit (.int 48271))) (.lit (.int 2147483629)))) .nil) (.nil)) (.cons (.asg (.one 3) (.bin .Add (.ix (.var 2) (.bin .Mod (.var 1) (.b1 .len (.var 2)))) (.bin .Mult (.lit (.int 7)) (.ix (.var 2) (.bin .Mod (.bin .Mult (.var 1) (.lit (.int 5))) (.b1 .len (.var 2))))))) (.cons (.asg (.one 3) (.bin .Add (.bin .Add (.var 3) (.bin .Mult (.bin .Mult (.var 1) (.var 1)) (.lit (.int 40503)))) (.lit (.int 1)))) (.cons (.ret (.bin .Mod (.bin .Mult (.var 3) (.var 3)) (.lit (.int 2147483629)))) .nil)))))))
/-- _law_fan -/
def b__law_fan : Ts := .cons (.asg (.one 1) (.bin .Mod (.call i__law_next (.cons (.var 0) .nil)) (.lit (.int 5)))) (.cons (.asg (.one 2) (.ix (.lst (.cons (.lit .non) (.cons (.var 1) (.cons (.lit (.int 4)) (.cons (.lit (.int 4)) .nil))))) (.bin .Mod (.call i__law_next (.cons (.var 0) .nil)) (.lit (.int 4))))) (.cons (.ret (.tup (.cons (.var 1) (.cons (.ix (.lst (.cons (.var 2) (.cons (.lit (.int 1)) .nil))) (.b1 .int (.cmp .Eq (.var 2) (.lit (.int 0))))) .nil)))) .nil))
/-- _law_fits -/
def b__law_fits : Ts := .cons (.asg (.one 4) (.b2 .max (.bin .Mult (.ix (.var 2) (.lit (.int 0))) (.b1 .len (.var 0))) (.bin .Mult (.ix (.var 3) (.lit (.int 0))) (.b1 .len (.var 1))))) (.cons (.ife (.or (.cmp .Gt (.var 4) (.bin .Mult (.b1 .len (.var 0)) (.b1 .len (.var 1)))) (.and (.cmp .IsNot (.ix (.var 2) (.lit (.int 1))) (.lit .non)) (.cmp .Gt (.var 4) (.bin .Mult (.ix (.var 2) (.lit (.int 1))) (.b1 .len (.var 0)))))) (.cons (.ret (.lit (.bl false))) .nil) (.nil)) (.cons (.ret (.or (.cmp .Is (.ix (.var 3) (.lit (.int 1))) (.lit .non)) (.cmp .LtE (.var 4) (.bin .Mult (.ix (.var 3) (.lit (.int 1))) (.b1 .len (.var 1)))))) .nil))
/-- _law_in_fan -/
def b__law_in_fan : Ts := .cons (.ret (.and (.cmp .GtE (.var 0) (.ix (.var 1) (.lit (.int 0)))) (.or (.cmp .Is (.ix (.var 1) (.lit (.int 1))) (.lit .non)) (.cmp .LtE (.var 0) (.ix (.var 1) (.lit (.int 1))))))) .nil
def q__law_right_1 : Eo := .some (.cmp .Eq (.var 9) (.var 6))
def c__law_right_2 : E := .lit (.int 1)
def q__law_right_3 : Eo := .some (.not (.call i__law_in_fan (.cons (.b1 .len (.comp c__law_right_2 (.many [8, 9]) [8, 9] (.seq (.var 4)) q__law_right_1)) (.cons (.var 3) .nil))))
def c__law_right_4 : E := .lit (.int 1)
def q__law_right_5 : Eo := .some (.cmp .Eq (.var 8) (.var 6))
def c__law_right_6 : E := .lit (.int 1)
def q__law_right_7 : Eo := .some (.not (.call i__law_in_fan (.cons (.b1 .len (.comp c__law_right_6 (.many [8, 9]) [8, 9] (.seq (.var 4)) q__law_right_5)) (.cons (.var 2) .nil))))
def c__law_right_8 : E := .lit (.int 1)
def q__law_right_9 : Eo := .some (.or (.cmp .NotIn (.var 8) (.var 0)) (.cmp .NotIn (.var 9) (.var 1)))
def c__law_right_10 : E := .lit (.int 1)
def q__law_right_11 : Eo := .some (.not (.cmp .Lt (.ix (.var 4) (.bin .Sub (.var 5) (.lit (.int 1)))) (.ix (.var 4) (.var 5))))
def c__law_right_12 : E := .lit (.int 1)
def q__law_right_13 : Eo := .some (.or (.not (.isi (.var 7) .tuple)) (.cmp .NotEq (.b1 .len (.var 7)) (.lit (.int 2))))
def c__law_right_14 : E := .lit (.int 1)
/-- _law_right -/
def b__law_right : Ts := .cons (.ife (.or (.not (.isi (.var 4) .tuple)) (.cmp .NotEq (.comp c__law_right_14 (.one 7) [7] (.seq (.var 4)) q__law_right_13) (.lst .nil))) (.cons (.ret (.lit (.bl false))) .nil) (.nil)) (.cons (.ife (.cmp .NotEq (.comp c__law_right_12 (.one 5) [5] (.r2 (.lit (.int 1)) (.b1 .len (.var 4))) q__law_right_11) (.lst .nil)) (.cons (.ret (.lit (.bl false))) .nil) (.nil)) (.cons (.ife (.cmp .NotEq (.comp c__law_right_10 (.many [8, 9]) [8, 9] (.seq (.var 4)) q__law_right_9) (.lst .nil)) (.cons (.ret (.lit (.bl false))) .nil) (.nil)) (.cons (.ife (.cmp .NotEq (.comp c__law_right_8 (.one 6) [6] (.seq (.var 0)) q__law_right_7) (.lst .nil)) (.cons (.ret (.lit (.bl false))) .nil) (.nil)) (.cons (.ife (.cmp .NotEq (.comp c__law_right_4 (.one 6) [6] (.seq (.var 1)) q__law_right_3) (.lst .nil)) (.cons (.ret (.lit (.bl false))) .nil) (.nil)) (.cons (.ret (.cmp .Eq (.b1 .len (.var 4)) (.b2 .max (.bin .Mult (.ix (.var 2) (.lit (.int 0))) (.b1 .len (.var 0))) (.bin .Mult (.ix (.var 3) (.lit (.int 0))) (.b1 .len (.var 1)))))) .nil)))))
def l_law_1 : Ts := .cons (.asg (.one 3) (.bin .Mod (.call i__law_next (.cons (.var 1) .nil)) (.lit (.int 9)))) (.cons (.asg (.one 4) (.ix (.lst (.cons (.lit (.int 9)) (.cons (.lit (.int 9)) (.cons (.lit (.int 40)) .nil)))) (.bin .Mod (.call i__law_next (.cons (.var 1) .nil)) (.lit (.int 3))))) (.cons (.asg (.one 5) (.rng true (.var 3) (.bin .Add (.var 3) (.bin .Mod (.call i__law_next (.cons (.var 1) .nil)) (.bin .Add (.var 4) (.lit (.int 1))))))) (.cons (.asg (.one 6) (.sl (.rng true (.bin .Mod (.call i__law_next (.cons (.var 1) .nil)) (.lit (.int 20))) (.lit (.int 70))) .none (.some (.bin .Mod (.call i__law_next (.cons (.var 1) .nil)) (.bin .Add (.var 4) (.lit (.int 1))))))) (.cons (.ife (.cmp .Eq (.bin .Mod (.call i__law_next (.cons (.var 1) .nil)) (.lit (.int 4))) (.lit (.int 0))) (.cons (.asg (.one 6) (.var 5)) .nil) (.nil)) (.cons (.par 7 8 (.call i__law_fan (.cons (.var 1) .nil)) (.call i__law_fan (.cons (.var 1) .nil))) (.cons (.ife (.call i__law_fits (.cons (.var 5) (.cons (.var 6) (.cons (.var 7) (.cons (.var 8) .nil))))) (.cons (.asg (.one 9) (.call i_dealt (.cons (.var 5) (.cons (.var 6) (.cons (.var 7) (.cons (.var 8) .nil)))))) (.cons (.ife (.or (.not (.call i__law_right (.cons (.var 5) (.cons (.var 6) (.cons (.var 7) (.cons (.var 8) (.cons (.var 9) .nil))))))) (.cmp .NotEq (.call i_dealt (.cons (.var 5) (.cons (.var 6) (.cons (.var 7) (.cons (.var 8) .nil))))) (.var 9))) (.cons (.ret (.lit (.bl false))) .nil) (.nil)) .nil)) (.nil)) .nil))))))
/-- law -/
def b_law : Ts := .cons (.asg (.one 1) (.call i__law_deck (.cons (.var 0) .nil))) (.cons (.for (.one 2) (.r1 (.lit (.int 40))) l_law_1) (.cons (.ret (.lit (.bl true))) .nil))
def cf : Nat → Bool := fun f => f == i__law_deck
def P : List Fn := [⟨4, 4, b_dealt⟩, ⟨15, 6, b_dealt_beside⟩, ⟨6, 1, b__law_deck⟩, ⟨4, 1, b__law_next⟩, ⟨3, 1, b__law_fan⟩, ⟨5, 4, b__law_fits⟩, ⟨2, 2, b__law_in_fan⟩, ⟨10, 5, b__law_right⟩, ⟨10, 1, b_law⟩]
end Lw
end
section
set_option Elab.async false
set_option linter.all false
set_option maxRecDepth 100000
set_option maxHeartbeats 0
namespace Lw
open PySem PySem.Spec PyProof.Rows L2 Ev
def top (i : Nat) : Stmt := PySem.Challenge.pw_fankinds_k06_ways_dealt.main.body.getD i (.Pass ⟨0, 0, 0, 0⟩)
def tab : Tab where
  fns := ["dealt", "dealt_beside", "_law_deck", "_law_next", "_law_fan", "_law_fits", "_law_in_fan", "_law_right", "law"]
  blts := ["divmod", "enumerate", "int", "isinstance", "len", "list", "max", "min", "range", "sorted", "tuple", "zip"]
  consts := []
def N_0 : List Str := ["ones", "others", "out", "into"]
def ps_0 : List Str := ["ones", "others", "out", "into"]
theorem sc_0 : FnScope N_0 ps_0 (defScope (top 1)) := ⟨rfl, rfl, rfl, by decide +kernel, rfl, by decide +kernel, by decide +kernel⟩
theorem er_0 : mkTs ((defBody (top 1)).map (erT tab N_0 (defScope (top 1)) 40)) = b_dealt := by kernel_rfl
def d_0 : He.DefD := ⟨("dealt", none), "dealt", "dealt", defArgs (top 1), defBody (top 1), defScope (top 1), [], []⟩
def N_1 : List Str := ["few", "less", "ones", "others", "out", "into", "pairs", "many", "first", "each", "more", "place", "one", "last", "at"]
def ps_1 : List Str := ["few", "less", "ones", "others", "out", "into"]
theorem sc_1 : FnScope N_1 ps_1 (defScope (top 2)) := ⟨rfl, rfl, rfl, by decide +kernel, rfl, by decide +kernel, by decide +kernel⟩
theorem er_1 : mkTs ((defBody (top 2)).map (erT tab N_1 (defScope (top 2)) 40)) = b_dealt_beside := by kernel_rfl
def d_1 : He.DefD := ⟨("dealt_beside", none), "dealt_beside", "dealt_beside", defArgs (top 2), defBody (top 2), defScope (top 2), [], []⟩
def N_2 : List Str := ["_law_script", "_law_row", "_law_k", "_law_cell", "_law_n", "_law_one"]
def ps_2 : List Str := ["_law_script"]
theorem sc_2 : FnScope N_2 ps_2 (defScope (top 4)) := ⟨rfl, rfl, rfl, by decide +kernel, rfl, by decide +kernel, by decide +kernel⟩
theorem er_2 : mkTs ((defBody (top 4)).map (erT tab N_2 (defScope (top 4)) 40)) = b__law_deck := by kernel_rfl
def d_2 : He.DefD := ⟨("_law_deck", none), "_law_deck", "_law_deck", defArgs (top 4), defBody (top 4), defScope (top 4), [], []⟩
def N_3 : List Str := ["_law_deck_here", "_law_at", "_law_row", "_law_one"]
def ps_3 : List Str := ["_law_deck_here"]
theorem sc_3 : FnScope N_3 ps_3 (defScope (top 5)) := ⟨rfl, rfl, rfl, by decide +kernel, rfl, by decide +kernel, by decide +kernel⟩
theorem er_3 : mkTs ((defBody (top 5)).map (erT tab N_3 (defScope (top 5)) 40)) = b__law_next := by kernel_rfl
def d_3 : He.DefD := ⟨("_law_next", none), "_law_next", "_law_next", defArgs (top 5), defBody (top 5), defScope (top 5), [], []⟩
def N_4 : List Str := ["_law_deck_here", "_law_low", "_law_high"]
def ps_4 : List Str := ["_law_deck_here"]
theorem sc_4 : FnScope N_4 ps_4 (defScope (top 6)) := ⟨rfl, rfl, rfl, by decide +kernel, rfl, by decide +kernel, by decide +kernel⟩
theorem er_4 : mkTs ((defBody (top 6)).map (erT tab N_4 (defScope (top 6)) 40)) = b__law_fan := by kernel_rfl
def d_4 : He.DefD := ⟨("_law_fan", none), "_law_fan", "_law_fan", defArgs (top 6), defBody (top 6), defScope (top 6), [], []⟩
def N_5 : List Str := ["_law_ones", "_law_others", "_law_out", "_law_into", "_law_many"]
def ps_5 : List Str := ["_law_ones", "_law_others", "_law_out", "_law_into"]
theorem sc_5 : FnScope N_5 ps_5 (defScope (top 7)) := ⟨rfl, rfl, rfl, by decide +kernel, rfl, by decide +kernel, by decide +kernel⟩
theorem er_5 : mkTs ((defBody (top 7)).map (erT tab N_5 (defScope (top 7)) 40)) = b__law_fits := by kernel_rfl
def d_5 : He.DefD := ⟨("_law_fits", none), "_law_fits", "_law_fits", defArgs (top 7), defBody (top 7), defScope (top 7), [], []⟩
def N_6 : List Str := ["_law_many", "_law_fan_here"]
def ps_6 : List Str := ["_law_many", "_law_fan_here"]
theorem sc_6 : FnScope N_6 ps_6 (defScope (top 8)) := ⟨rfl, rfl, rfl, by decide +kernel, rfl, by decide +kernel, by decide +kernel⟩
theorem er_6 : mkTs ((defBody (top 8)).map (erT tab N_6 (defScope (top 8)) 40)) = b__law_in_fan := by kernel_rfl
def d_6 : He.DefD := ⟨("_law_in_fan", none), "_law_in_fan", "_law_in_fan", defArgs (top 8), defBody (top 8), defScope (top 8), [], []⟩
def N_7 : List Str := ["_law_ones", "_law_others", "_law_out", "_law_into", "_law_found", "_law_k", "_law_room", "_law_pair", "_law_one", "_law_other"]
def ps_7 : List Str := ["_law_ones", "_law_others", "_law_out", "_law_into", "_law_found"]
theorem sc_7 : FnScope N_7 ps_7 (defScope (top 9)) := ⟨rfl, rfl, rfl, by decide +kernel, rfl, by decide +kernel, by decide +kernel⟩
theorem er_7 : mkTs ((defBody (top 9)).map (erT tab N_7 (defScope (top 9)) 40)) = b__law_right := by kernel_rfl
def d_7 : He.DefD := ⟨("_law_right", none), "_law_right", "_law_right", defArgs (top 9), defBody (top 9), defScope (top 9), [], []⟩
def N_8 : List Str := ["_law_script", "_law_deck_here", "_law_turn", "_law_first", "_law_limit", "_law_ones", "_law_others", "_law_out", "_law_into", "_law_found"]
def ps_8 : List Str := ["_law_script"]
theorem sc_8 : FnScope N_8 ps_8 (defScope (top 10)) := ⟨rfl, rfl, rfl, by decide +kernel, rfl, by decide +kernel, by decide +kernel⟩
theorem er_8 : mkTs ((defBody (top 10)).map (erT tab N_8 (defScope (top 10)) 40)) = b_law := by kernel_rfl
def d_8 : He.DefD := ⟨("law", none), "law", "law", defArgs (top 10), defBody (top 10), defScope (top 10), [], []⟩
def fn : List He.DefD := [d_0, d_1, d_2, d_3, d_4, d_5, d_6, d_7, d_8]
def fa : List He.Fa := [.glo "dealt", .glo "dealt_beside", .glo "_law_deck", .glo "_law_next", .glo "_law_fan", .glo "_law_fits", .glo "_law_in_fan", .glo "_law_right", .glo "law", .free "divmod", .free "enumerate", .free "int", .free "isinstance", .free "len", .free "list", .free "max", .free "min", .free "range", .free "sorted", .free "tuple", .free "zip"]
def ex (K : PySem.W.Frag) : Bool := K.all (fun p => decide (p.2.cls ≠ .type "list"))
abbrev R : PySem.W.OpenRow := PySem.W.OpenLaw.row PySem.Challenge.rw_fankinds_k06_ways_dealt
def loose0 : List PySem.Str := ["dealt", "dealt_beside", "_law_deck", "_law_next", "_law_fan", "_law_fits", "_law_in_fan", "_law_right"]
def loose : List PySem.Str := loose0
abbrev hk : PySem.W.Hook := He.hookX 4 fa fn [] [] ex
def ob (s : PySem.W.SharedT) : He.AlX := He.obsX 4 fa fn [] [] ex (HandSHeadRun.getT s)
theorem ob_eq (s : PySem.W.SharedT) : ob s = hk.obs s.abs := He.obsX_eq (HandSHeadRun.getT_eq s)
theorem run (w : World) : HandSHeadRun.RunEq R (PySem.W.view R.prog [10]) hk ob 3000 loose w := by
  intro os
  kernel_rfl
section
variable {K : PySem.W.Frag} {h : Heap} {mg : Str → Option Value}
theorem nolist (c : ex K = true) : ∀ a o, K.lookup a = some o → o.cls ≠ .type "list" := by
  intro a o e
  have c1 : K.all (fun p => decide (p.2.cls ≠ .type "list")) = true := by
    unfold ex at c
    try simp only [Bool.and_eq_true] at c
    exact c
  exact of_decide_eq_true (List.all_eq_true.mp c1 (a, o) (He.lookup_mem e))
theorem ok_0 (X : K.In h) (G : h.Ns mainGlobals mg) (c : He.SaysD fa fn K) : DefOk tab 40 P K mg 0 "dealt" := by
  obtain ⟨fd, F⟩ := c.def_ 0 (d := d_0) rfl
  exact ⟨_, fd, _, _, _, N_0, ps_0, F, sc_0, F.bindsN (fun _ _ _ _ _ _ us hl => match us, hl with | [_, _, _, _], _ => rfl), He.glo_ok X G (c.fact 0 (f := .glo "dealt") rfl), F.kp, by
    show P[0]? = some ⟨_, _, mkTs ((defBody (top 1)).map (erT tab N_0 (defScope (top 1)) 40))⟩
    rw [er_0]; rfl⟩
theorem ok_1 (X : K.In h) (G : h.Ns mainGlobals mg) (c : He.SaysD fa fn K) : DefOk tab 40 P K mg 1 "dealt_beside" := by
  obtain ⟨fd, F⟩ := c.def_ 1 (d := d_1) rfl
  exact ⟨_, fd, _, _, _, N_1, ps_1, F, sc_1, F.bindsN (fun _ _ _ _ _ _ us hl => match us, hl with | [_, _, _, _, _, _], _ => rfl), He.glo_ok X G (c.fact 1 (f := .glo "dealt_beside") rfl), F.kp, by
    show P[1]? = some ⟨_, _, mkTs ((defBody (top 2)).map (erT tab N_1 (defScope (top 2)) 40))⟩
    rw [er_1]; rfl⟩
theorem ok_2 (X : K.In h) (G : h.Ns mainGlobals mg) (c : He.SaysD fa fn K) : DefOk tab 40 P K mg 2 "_law_deck" := by
  obtain ⟨fd, F⟩ := c.def_ 2 (d := d_2) rfl
  exact ⟨_, fd, _, _, _, N_2, ps_2, F, sc_2, F.bindsN (fun _ _ _ _ _ _ us hl => match us, hl with | [_], _ => rfl), He.glo_ok X G (c.fact 2 (f := .glo "_law_deck") rfl), F.kp, by
    show P[2]? = some ⟨_, _, mkTs ((defBody (top 4)).map (erT tab N_2 (defScope (top 4)) 40))⟩
    rw [er_2]; rfl⟩
theorem ok_3 (X : K.In h) (G : h.Ns mainGlobals mg) (c : He.SaysD fa fn K) : DefOk tab 40 P K mg 3 "_law_next" := by
  obtain ⟨fd, F⟩ := c.def_ 3 (d := d_3) rfl
  exact ⟨_, fd, _, _, _, N_3, ps_3, F, sc_3, F.bindsN (fun _ _ _ _ _ _ us hl => match us, hl with | [_], _ => rfl), He.glo_ok X G (c.fact 3 (f := .glo "_law_next") rfl), F.kp, by
    show P[3]? = some ⟨_, _, mkTs ((defBody (top 5)).map (erT tab N_3 (defScope (top 5)) 40))⟩
    rw [er_3]; rfl⟩
theorem ok_4 (X : K.In h) (G : h.Ns mainGlobals mg) (c : He.SaysD fa fn K) : DefOk tab 40 P K mg 4 "_law_fan" := by
  obtain ⟨fd, F⟩ := c.def_ 4 (d := d_4) rfl
  exact ⟨_, fd, _, _, _, N_4, ps_4, F, sc_4, F.bindsN (fun _ _ _ _ _ _ us hl => match us, hl with | [_], _ => rfl), He.glo_ok X G (c.fact 4 (f := .glo "_law_fan") rfl), F.kp, by
    show P[4]? = some ⟨_, _, mkTs ((defBody (top 6)).map (erT tab N_4 (defScope (top 6)) 40))⟩
    rw [er_4]; rfl⟩
theorem ok_5 (X : K.In h) (G : h.Ns mainGlobals mg) (c : He.SaysD fa fn K) : DefOk tab 40 P K mg 5 "_law_fits" := by
  obtain ⟨fd, F⟩ := c.def_ 5 (d := d_5) rfl
  exact ⟨_, fd, _, _, _, N_5, ps_5, F, sc_5, F.bindsN (fun _ _ _ _ _ _ us hl => match us, hl with | [_, _, _, _], _ => rfl), He.glo_ok X G (c.fact 5 (f := .glo "_law_fits") rfl), F.kp, by
    show P[5]? = some ⟨_, _, mkTs ((defBody (top 7)).map (erT tab N_5 (defScope (top 7)) 40))⟩
    rw [er_5]; rfl⟩
theorem ok_6 (X : K.In h) (G : h.Ns mainGlobals mg) (c : He.SaysD fa fn K) : DefOk tab 40 P K mg 6 "_law_in_fan" := by
  obtain ⟨fd, F⟩ := c.def_ 6 (d := d_6) rfl
  exact ⟨_, fd, _, _, _, N_6, ps_6, F, sc_6, F.bindsN (fun _ _ _ _ _ _ us hl => match us, hl with | [_, _], _ => rfl), He.glo_ok X G (c.fact 6 (f := .glo "_law_in_fan") rfl), F.kp, by
    show P[6]? = some ⟨_, _, mkTs ((defBody (top 8)).map (erT tab N_6 (defScope (top 8)) 40))⟩
    rw [er_6]; rfl⟩
theorem ok_7 (X : K.In h) (G : h.Ns mainGlobals mg) (c : He.SaysD fa fn K) : DefOk tab 40 P K mg 7 "_law_right" := by
  obtain ⟨fd, F⟩ := c.def_ 7 (d := d_7) rfl
  exact ⟨_, fd, _, _, _, N_7, ps_7, F, sc_7, F.bindsN (fun _ _ _ _ _ _ us hl => match us, hl with | [_, _, _, _, _], _ => rfl), He.glo_ok X G (c.fact 7 (f := .glo "_law_right") rfl), F.kp, by
    show P[7]? = some ⟨_, _, mkTs ((defBody (top 9)).map (erT tab N_7 (defScope (top 9)) 40))⟩
    rw [er_7]; rfl⟩
theorem ok_8 (X : K.In h) (G : h.Ns mainGlobals mg) (c : He.SaysD fa fn K) : DefOk tab 40 P K mg 8 "law" := by
  obtain ⟨fd, F⟩ := c.def_ 8 (d := d_8) rfl
  exact ⟨_, fd, _, _, _, N_8, ps_8, F, sc_8, F.bindsN (fun _ _ _ _ _ _ us hl => match us, hl with | [_], _ => rfl), He.glo_ok X G (c.fact 8 (f := .glo "law") rfl), F.kp, by
    show P[8]? = some ⟨_, _, mkTs ((defBody (top 10)).map (erT tab N_8 (defScope (top 10)) 40))⟩
    rw [er_8]; rfl⟩
theorem oks (X : K.In h) (G : h.Ns mainGlobals mg) (c : He.SaysD fa fn K) : ∀ i x, tab.fns[i]? = some x → DefOk tab 40 P K mg i x := fun i x e => match i, e with
  | 0, e => by cases (show some _ = some x from e); exact ok_0 X G c
  | 1, e => by cases (show some _ = some x from e); exact ok_1 X G c
  | 2, e => by cases (show some _ = some x from e); exact ok_2 X G c
  | 3, e => by cases (show some _ = some x from e); exact ok_3 X G c
  | 4, e => by cases (show some _ = some x from e); exact ok_4 X G c
  | 5, e => by cases (show some _ = some x from e); exact ok_5 X G c
  | 6, e => by cases (show some _ = some x from e); exact ok_6 X G c
  | 7, e => by cases (show some _ = some x from e); exact ok_7 X G c
  | 8, e => by cases (show some _ = some x from e); exact ok_8 X G c
  | n + 9, e => by cases (show none = some x from e)
theorem oblt (X : K.In h) (G : h.Ns mainGlobals mg) (c : He.SaysD fa fn K) : ∀ x, tab.blts.contains x = true → mg x = none := fun x e => by
  have e : x ∈ tab.blts := by simpa using e
  simp only [tab, List.mem_cons, List.not_mem_nil, or_false] at e
  rcases e with rfl | rfl | rfl | rfl | rfl | rfl | rfl | rfl | rfl | rfl | rfl | rfl
  · exact He.free_ok X G (c.fact 9 (f := .free "divmod") rfl)
  · exact He.free_ok X G (c.fact 10 (f := .free "enumerate") rfl)
  · exact He.free_ok X G (c.fact 11 (f := .free "int") rfl)
  · exact He.free_ok X G (c.fact 12 (f := .free "isinstance") rfl)
  · exact He.free_ok X G (c.fact 13 (f := .free "len") rfl)
  · exact He.free_ok X G (c.fact 14 (f := .free "list") rfl)
  · exact He.free_ok X G (c.fact 15 (f := .free "max") rfl)
  · exact He.free_ok X G (c.fact 16 (f := .free "min") rfl)
  · exact He.free_ok X G (c.fact 17 (f := .free "range") rfl)
  · exact He.free_ok X G (c.fact 18 (f := .free "sorted") rfl)
  · exact He.free_ok X G (c.fact 19 (f := .free "tuple") rfl)
  · exact He.free_ok X G (c.fact 20 (f := .free "zip") rfl)
theorem ocon (X : K.In h) (G : h.Ns mainGlobals mg) (c : He.SaysD fa fn K) (cx : ex K = true) : ∀ x d, tab.consts.lookup x = some d → ∃ u v, mg x = some u ∧ RelV v u ∧ ∀ H m, RV K H m d v := fun x d e => by
  cases (show none = some d from e)
end
end Lw
open PySem PySem.W PySem.Calls PyProof.Rows
theorem Lw.holds (wf : Nat) (hx : ∀ ns : List Int, ns.length ≤ 63 → ∃ S', Ev.callF Lw.P wf 60 8 [.ref 0] [.fz (ns.map Ev.D.int)] = some (.bl true, S')) : PySem.Challenge.rw_fankinds_k06_ways_dealt.Holds := by
  w_on; o_law
  refine HandSHeadRun.head_any (r := OpenLaw.row PySem.Challenge.rw_fankinds_k06_ways_dealt) (q := view (OpenLaw.row PySem.Challenge.rw_fankinds_k06_ways_dealt).prog [10]) (H := Lw.hk) (ob := Lw.ob) (M := 3000) (loose := Lw.loose) (d := HandSHeadRun.topDef (OpenLaw.row PySem.Challenge.rw_fankinds_k06_ways_dealt).prog 10) (kwd := []) Lw.ob_eq
    (by kernel_rfl) (fun s => by kernel_rfl) Lw.run (by kernel_rfl) (by kernel_rfl) (by kernel_rfl) (by rfl) (by first | assumption | decide +kernel) (by decide +kernel) ⟨rfl, rfl, rfl, rfl, rfl, by decide +kernel⟩ ?hw ?hc
  case hw => w_witness2
  case hc =>
    refine Ev.walkG (l := PySem.Challenge.rw_fankinds_k06_ways_dealt) (n := 63) (k := 60) (x := "_law_script") rfl (by decide) (by kernel_rfl) ⟨rfl, by decide, by decide⟩ ?F
    intro w mg fa h Y G hmg0
    have hmg : mg ("law" : PySem.Str) = some (.ref fa) := by
      have e : (HandSHeadRun.topDef (OpenLaw.row PySem.Challenge.rw_fankinds_k06_ways_dealt).prog 10).name = ("law" : PySem.Str) := by kernel_rfl
      rw [← e]
      exact hmg0
    obtain ⟨K, KX, c⟩ := Y
    obtain ⟨fd, F⟩ := c.t.d.def_ 8 (d := Lw.d_8) rfl
    have e := hmg.symm.trans (He.glo_ok KX G (c.t.d.fact 8 (f := .glo "law") rfl))
    cases e
    have b := L2.FunD.bindsA (ps := ["_law_script"]) F fun _ _ _ _ _ _ us hl => match us, hl with | [_], _ => rfl
    refine ⟨K, fd, Ev.SpG K 1 (Ev.callF Lw.P wf 60 8), KX, fun s u => b s [u] rfl, fun H a ns hl hf => Ev.law_sp hf (hx ns hl), Lw.nolist c.more, fun base _ _ => ?_⟩
    exact (Ev.def_ok (i := 8) (N := Lw.N_8) (ps := Lw.ps_8) (n := 40) (Lw.oblt KX G c.t.d) (Lw.ocon KX G c.t.d c.more) (Ev.all_ok (Lw.oks KX G c.t.d) (Lw.oblt KX G c.t.d) (Lw.ocon KX G c.t.d c.more) 59) F Lw.sc_8 (by
      show Lw.P[8]? = some ⟨_, _, Ev.mkTs ((L2.defBody (Lw.top 10)).map (Ev.erT Lw.tab Lw.N_8 (L2.defScope (Lw.top 10)) 40))⟩
      rw [Lw.er_8]; rfl)).1
end
section
set_option linter.all false
set_option maxRecDepth 100000
set_option maxHeartbeats 4000000
namespace Lw
open PySem L2 Ev
local macro_rules | `(tactic| walk_at "vv") => `(tactic| simp -implicitDefEqProofs (discharger := first | omega | assumption | decide) only [eE_var, eE_int, eE_bl, eE_str, eE_non, eE_tup, eE_lst, op2_some, eE_bin, eE_b2, eE_rng, ob2_some, eE_cmp, ox2_some, eE_ix, op1_some, ob1_some, eE_b1, eE_isi, eE_not, on1_some, eE_neg, th2_t, th2_f, eE_and, eE_or, eE_ite, eE_call, methS_some, eE_meth, slS_some, eE_sl, eEs_nil, eEs_cons, eAs_nil, eAs_cons, eO_none, eO_some, eI_seq, eI_r1, eI_r2, eI_zip, eI_enum, liftS_some, ar_var, ar_lit, ar_tup, ar_lst, ar_bin, ar_neg, ar_cmp, ar_chain, ar_and, ar_or, ar_not, ar_ite, ar_call, ar_b1, ar_b2, ar_meth, ar_isi, ar_ix, ar_sl, ar_rng, ar_comp, arOf_some, lift_some, liftB_some, asgS_one, md_own, md_shr, eT_asg, eT_par, setS_some, eT_setIx, eT_augIx, augA_some, augB_int, eT_expr, eT_ret, eT_ife, eT_pass, goOn_nx, goOn_ret, eTs_nil, eTs_cons, tru1_bl, vC_eq, ret_var, retW_some, ret_lit, ret_tup, ret_lst, ret_bin, ret_cmp, ret_chain, ret_and, ret_or, ret_not, ret_ite, ret_call, ret_b1, ret_b2, ret_meth, ret_isi, ret_ix, ret_sl, ret_comp, endFor_nx, endFor_ret, finU_sh, eT_for, vb_some, vb_none, slotAr, resA, resC, optAll, Option.map_some, Option.bind_some, List.map_cons, List.map_nil, List.getElem?_cons_zero, List.getElem?_cons_succ, List.set_cons_zero, List.set_cons_succ, bU_add, bU_sub, bU_mulr, bU_mull, bU_fdiv, bU_mod, cU_lt, cU_gt, cU_le, cU_ge, cU_eq, cU_ne, cU_nn, cU_in, cU_nnn, cU_inn, tU_bl, b1_len_t, b1_len_l, b1_len_f, b1_tup_l, b1_tup_t, b1_int_b, b1_srt, b2_maxU, b2_minU, b2_dmU, List.length_cons, List.length_nil, lockV_nil, unlockV_nil, if_true, Bool.false_eq_true, if_false, mokS_t, m2ok, eE_dnew, eE_rev, eE_sm, smS_str, eT_setD, ar_dnew, ar_rev, ar_sm, ret_rev, ret_sm, wp_some, iU_non, iU_bl, iU_int, iU_str, iU_tup, iU_lst, iU_fz, iU_dct, reduceCtorEq, decide_true, decide_false, Bool.or_true, Bool.true_or, Bool.or_false, Bool.false_or, Bool.not_true, Bool.not_false, eE_chain, chS_t, chS_f, oIntU, b1_all_map, eq_self])
local macro_rules | `(tactic| wp_walk using $ts,*) => `(tactic| simp -implicitDefEqProofs (discharger := first | omega | assumption | decide) only [$[$ts:term],*, eE_var, eE_int, eE_bl, eE_str, eE_non, eE_tup, eE_lst, op2_some, eE_bin, eE_b2, eE_rng, ob2_some, eE_cmp, ox2_some, eE_ix, op1_some, ob1_some, eE_b1, eE_isi, eE_not, on1_some, eE_neg, th2_t, th2_f, eE_and, eE_or, eE_ite, eE_call, methS_some, eE_meth, slS_some, eE_sl, eEs_nil, eEs_cons, eAs_nil, eAs_cons, eO_none, eO_some, eI_seq, eI_r1, eI_r2, eI_zip, eI_enum, liftS_some, ar_var, ar_lit, ar_tup, ar_lst, ar_bin, ar_neg, ar_cmp, ar_chain, ar_and, ar_or, ar_not, ar_ite, ar_call, ar_b1, ar_b2, ar_meth, ar_isi, ar_ix, ar_sl, ar_rng, ar_comp, arOf_some, lift_some, liftB_some, asgS_one, md_own, md_shr, eT_asg, eT_par, setS_some, eT_setIx, eT_augIx, augA_some, augB_int, eT_expr, eT_ret, eT_ife, eT_pass, goOn_nx, goOn_ret, eTs_nil, eTs_cons, tru1_bl, vC_eq, ret_var, retW_some, ret_lit, ret_tup, ret_lst, ret_bin, ret_cmp, ret_chain, ret_and, ret_or, ret_not, ret_ite, ret_call, ret_b1, ret_b2, ret_meth, ret_isi, ret_ix, ret_sl, ret_comp, endFor_nx, endFor_ret, finU_sh, eT_for, vb_some, vb_none, slotAr, resA, resC, optAll, Option.map_some, Option.bind_some, List.map_cons, List.map_nil, List.getElem?_cons_zero, List.getElem?_cons_succ, List.set_cons_zero, List.set_cons_succ, bU_add, bU_sub, bU_mulr, bU_mull, bU_fdiv, bU_mod, cU_lt, cU_gt, cU_le, cU_ge, cU_eq, cU_ne, cU_nn, cU_in, cU_nnn, cU_inn, tU_bl, b1_len_t, b1_len_l, b1_len_f, b1_tup_l, b1_tup_t, b1_int_b, b1_srt, b2_maxU, b2_minU, b2_dmU, List.length_cons, List.length_nil, lockV_nil, unlockV_nil, if_true, Bool.false_eq_true, if_false, mokS_t, m2ok, eE_dnew, eE_rev, eE_sm, smS_str, eT_setD, ar_dnew, ar_rev, ar_sm, ret_rev, ret_sm, wp_some, iU_non, iU_bl, iU_int, iU_str, iU_tup, iU_lst, iU_fz, iU_dct, reduceCtorEq, decide_true, decide_false, Bool.or_true, Bool.true_or, Bool.or_false, Bool.false_or, Bool.not_true, Bool.not_false, eE_chain, chS_t, chS_f, oIntU, b1_all_map, eq_self])
variable {wf k : Nat} {c : Ce}
/-- the deck: a counter and a row of small numbers -/
structure Deck (a : Nat) (c : Ce) : Prop where
  ex : ∃ (m : Int) (row : List Int), 0 ≤ m ∧ m ≤ a ∧ c = [[.int m, .lst (row.map U.int)]] ∧ ∀ x ∈ row, 0 ≤ x ∧ x < 2147483648
theorem Deck.mono {a b : Nat} (h : Deck a c) (hab : a ≤ b) : Deck b c := by
  obtain ⟨m, row, h1, h2, h3⟩ := h.ex
  exact ⟨m, row, h1, by omega, h3⟩
theorem row_at {row : List Int} {i : Int} (h0 : 0 ≤ i) (h1 : i < row.length) : ∃ x, x ∈ row ∧ atI (row.map U.int) i = some (.int x) := by
  refine ⟨row[i.toNat]'(by omega), List.getElem_mem _, atU (k := i.toNat) ?_ (by omega)⟩
  rw [List.getElem?_map, List.getElem?_eq_getElem (by omega)]
  rfl
theorem run_next {a : Nat} (ha : a < 100000) (h : Deck a c) : ∃ r c', vcall P wf cf (k + 1) i__law_next [(.shr, .cel 0)] c = some ((false, .int r), c') ∧ 0 ≤ r ∧ Deck (a + 1) c' := by
  obtain ⟨m, row, h1, h2, rfl, h4⟩ := h.ex
  have hd : Deck (a + 1) [[.int (m + 1), .lst (row.map U.int)]] := ⟨m + 1, row, by omega, by omega, rfl, h4⟩
  have i0 : ixU [[U.int m, U.lst (row.map U.int)]] (.cel 0) (.int 0) = some (.int m) := ixU_c rfl at0
  have i1 : ixU [[U.int (m + 1), U.lst (row.map U.int)]] (.cel 0) (.int 1) = some (.lst (row.map U.int)) := ixU_c rfl at1
  have s0 : setIxU [some (Md.shr, U.cel 0), some (Md.shr, U.int m), none, none] [[U.int m, U.lst (row.map U.int)]] 0 (.int 0) (.int (m + 1)) = some (.nx, [some (Md.shr, U.cel 0), some (Md.shr, U.int m), none, none], [[U.int (m + 1), U.lst (row.map U.int)]]) := rfl
  have hl : ((row.map U.int).length : Int) = (row.length : Int) := by rw [List.length_map]
  by_cases hc : m < (row.length : Int)
  · obtain ⟨x, hx, e1⟩ := row_at h1 hc
    refine ⟨x, _, ?_, (h4 x hx).1, hd⟩
    rw [vcall_fin (b := b__law_next) (ρ := [some (.shr, .cel 0), none, none, none]) rfl rfl rfl rfl, b__law_next]
    walk_at "vv"
    rw [i0]
    walk_at "vv"
    rw [s0]
    walk_at "vv"
    rw [i1]
    walk_at "vv"
    rw [hl, decide_eq_true hc]
    walk_at "vv"
    rw [ixU_l e1]
    walk_at "vv"
  · by_cases hz : row.length = 0
    · refine ⟨(m + 1) * (m + 1) * (m + 3) * 48271 % 2147483629, _, ?_, by omega, hd⟩
      rw [vcall_fin (b := b__law_next) (ρ := [some (.shr, .cel 0), none, none, none]) rfl rfl rfl rfl, b__law_next]
      walk_at "vv"
      rw [i0]
      walk_at "vv"
      rw [s0]
      walk_at "vv"
      rw [i1]
      walk_at "vv"
      rw [hl, decide_eq_false hc]
      walk_at "vv"
      rw [hl, hz]
      rfl
    · have hp : (0 : Int) < row.length := by omega
      obtain ⟨x, hx, e1⟩ := row_at (row := row) (i := m % row.length) (Int.emod_nonneg _ (by omega)) (Int.emod_lt_of_pos _ hp)
      obtain ⟨y, hy, e2⟩ := row_at (row := row) (i := m * 5 % row.length) (Int.emod_nonneg _ (by omega)) (Int.emod_lt_of_pos _ hp)
      have bx := h4 x hx
      have by_ := h4 y hy
      have hmm : 0 ≤ m * m ∧ m * m ≤ 99999 * 99999 := ⟨Int.mul_nonneg h1 h1, Int.mul_le_mul (by omega) (by omega) h1 (by omega)⟩
      refine ⟨(x + 7 * y + m * m * 40503 + 1) * (x + 7 * y + m * m * 40503 + 1) % 2147483629, _, ?_, by omega, hd⟩
      rw [vcall_fin (b := b__law_next) (ρ := [some (.shr, .cel 0), none, none, none]) rfl rfl rfl rfl, b__law_next]
      have hz' : ((row.length : Int) == 0) = false := by simpa using hz
      wp_walk using i0, s0, i1, hl, decide_eq_false hc, hz', ixU_l e1, ixU_l e2
theorem run_deck_in {row : List Int} {x : Int} {sc : U} {kk on : Option (Md × U)} : ∀ (l : List U) (t : Option (Md × U)) (row : List Int) (x : Int), row.length + l.length ≤ 100000 → (∀ y ∈ row, 0 ≤ y ∧ y < 2147483648) → ∃ (row' : List Int) (x' : Int) (t' : Option (Md × U)), forU (forStep (vcall P wf cf k) wf (.one 4) l__law_deck_1) l [some (.shr, sc), some (.own, .lst (row.map U.int)), kk, some (.shr, .int x), t, on] c = some (.nx, [some (.shr, sc), some (.own, .lst (row'.map U.int)), kk, some (.shr, .int x'), t', on], c) ∧ row'.length ≤ row.length + l.length ∧ (∀ y ∈ row', 0 ≤ y ∧ y < 2147483648) := by
  intro l
  induction l with
  | nil => intro t row x h1 h2; exact ⟨row, x, t, rfl, by simp, h2⟩
  | cons u l ih =>
    intro t row x h1 h2
    simp only [List.length_cons] at h1
    by_cases hx : 0 < x
    · have st : forStep (vcall P wf cf k) wf (.one 4) l__law_deck_1 u [some (.shr, sc), some (.own, .lst (row.map U.int)), kk, some (.shr, .int x), t, on] c = some (.nx, [some (.shr, sc), some (.own, .lst ((row ++ [x % 1000000]).map U.int)), kk, some (.shr, .int (x / 1000000)), some (.shr, u), on], c) := by
        unfold forStep l__law_deck_1
        simp only [setU]
        walk_at "vv"
        rw [decide_eq_true hx]
        walk_at "vv"
        have hm : m2U .append [some (.shr, sc), some (.own, .lst (row.map U.int)), kk, some (.shr, .int x), some (.shr, u), on] 1 (.int (x % 1000000)) = some (.non, [some (.shr, sc), some (.own, .lst ((row ++ [x % 1000000]).map U.int)), kk, some (.shr, .int x), some (.shr, u), on]) := by
          simp only [m2U, List.getElem?_cons_zero, List.getElem?_cons_succ, List.length_map, if_pos (show row.length < 100000 by omega), List.set_cons_succ, List.set_cons_zero, List.map_append, List.map_cons, List.map_nil]
        rw [hm]
        walk_at "vv"
      rw [forU_cons st]
      obtain ⟨row', x', t', q1, q2, q3⟩ := ih (some (.shr, u)) (row ++ [x % 1000000]) (x / 1000000) (by simp; omega) (fun y hy => by
        rcases List.mem_append.mp hy with hy | hy
        · exact h2 y hy
        · rw [List.mem_singleton] at hy; subst hy; omega)
      exact ⟨row', x', t', q1, by simp at q2 ⊢; omega, q3⟩
    · have st : forStep (vcall P wf cf k) wf (.one 4) l__law_deck_1 u [some (.shr, sc), some (.own, .lst (row.map U.int)), kk, some (.shr, .int x), t, on] c = some (.nx, [some (.shr, sc), some (.own, .lst (row.map U.int)), kk, some (.shr, .int x), some (.shr, u), on], c) := by
        unfold forStep l__law_deck_1
        simp only [setU]
        walk_at "vv"
        rw [decide_eq_false hx]
        walk_at "vv"
      rw [forU_cons st]
      obtain ⟨row', x', t', q1, q2, q3⟩ := ih (some (.shr, u)) row x (by omega) h2
      exact ⟨row', x', t', q1, by simp; omega, q3⟩

theorem run_deck_out {ns : List Int} (hns : ns.length ≤ 63) : ∀ (l : List Nat) (kk cel nn one : Option (Md × U)) (row : List Int), (∀ i ∈ l, i < ns.length) → row.length + 100 * l.length ≤ 90000 → (∀ y ∈ row, 0 ≤ y ∧ y < 2147483648) →
    ∃ (row' : List Int) (kk' cel' nn' one' : Option (Md × U)), forU (forStep (vcall P wf cf k) wf (.one 2) l__law_deck_2) (l.map fun (i : Nat) => U.int ((0 : Int) + (i : Int))) [some (.shr, .fz (ns.map U.int)), some (.own, .lst (row.map U.int)), kk, cel, nn, one] c = some (.nx, [some (.shr, .fz (ns.map U.int)), some (.own, .lst (row'.map U.int)), kk', cel', nn', one'], c) ∧ row'.length ≤ row.length + 100 * l.length ∧ (∀ y ∈ row', 0 ≤ y ∧ y < 2147483648) := by
  intro l
  induction l with
  | nil => intro kk cel nn one row _ h1 h2; exact ⟨row, kk, cel, nn, one, rfl, by simp, h2⟩
  | cons i l ih =>
    intro kk cel nn one row hl h1 h2
    simp only [List.length_cons] at h1
    have hi := hl i (by simp)
    have e1 : atI (ns.map U.int) ((0 : Int) + (i : Int)) = some (.int (ns[i]'hi)) := atU (k := i) (by rw [List.getElem?_map, List.getElem?_eq_getElem hi]; rfl) (by omega)
    generalize ns[i]'hi = x at e1
    have p18 : binU .Pow (.int 10) (.int 18) = some (false, .int (10 ^ 18)) := rfl
    have pow : (10 : Int) ^ 18 = 1000000000000000000 := by decide
    by_cases hx : (1000000000000000000 : Int) ≤ x
    · obtain ⟨row', x', t', q1, q2, q3⟩ := run_deck_in (wf := wf) (k := k) (c := c) (row := row) (x := x) (sc := .fz (ns.map U.int)) (kk := some (.shr, .int ((0 : Int) + (i : Int)))) (on := one) (rangeU 0 60) nn row x (by simp [rangeU]; omega) h2
      have st : forStep (vcall P wf cf k) wf (.one 2) l__law_deck_2 (.int ((0 : Int) + (i : Int))) [some (.shr, .fz (ns.map U.int)), some (.own, .lst (row.map U.int)), kk, cel, nn, one] c = some (.nx, [some (.shr, .fz (ns.map U.int)), some (.own, .lst (row'.map U.int)), some (.shr, .int ((0 : Int) + (i : Int))), some (.shr, .int x'), t', one], c) := by
        unfold forStep l__law_deck_2
        simp only [setU]
        wp_walk using ixU_f e1, p18, pow, decide_eq_true hx, r1U (v := [some (Md.shr, U.fz (List.map U.int ns)), some (Md.own, U.lst (List.map U.int row)), some (Md.shr, U.int (0 + (i : Int))), some (Md.shr, U.int x), nn, one]) (j := 60) (by omega) (by omega)
        rw [show (60 : Int).toNat = 60 from rfl, q1]
        wp_walk using q1
      rw [List.map_cons, forU_cons st]
      obtain ⟨row2, a, b, d, e, z1, z2, z3⟩ := ih _ _ _ _ row' (fun j hj => hl j (by simp [hj])) (by simp [rangeU] at q2; omega) q3
      exact ⟨row2, a, b, d, e, z1, by simp [rangeU] at q2 ⊢; omega, z3⟩
    · obtain ⟨t, ht⟩ : ∃ t, t = (x * 48271 + ((0 : Int) + (i : Int) + 1) * ((0 : Int) + (i : Int) + 1) * 7919 + 11) % 2147483647 := ⟨_, rfl⟩
      have hz1 : 0 ≤ t := by rw [ht]; exact Int.emod_nonneg _ (by omega)
      have hz2 : t < 2147483647 := by rw [ht]; exact Int.emod_lt_of_pos _ (by omega)
      have hm : m2U .append [some (.shr, .fz (ns.map U.int)), some (.own, .lst (row.map U.int)), some (.shr, .int ((0 : Int) + (i : Int))), some (.shr, .int x), nn, some (.shr, .int t)] 1 (.int (t * t % 2147483629)) = some (.non, [some (.shr, .fz (ns.map U.int)), some (.own, .lst ((row ++ [t * t % 2147483629]).map U.int)), some (.shr, .int ((0 : Int) + (i : Int))), some (.shr, .int x), nn, some (.shr, .int t)]) := by
        simp only [m2U, List.getElem?_cons_zero, List.getElem?_cons_succ, List.length_map, if_pos (show row.length < 100000 by omega), List.set_cons_succ, List.set_cons_zero, List.map_append, List.map_cons, List.map_nil]
      have st : forStep (vcall P wf cf k) wf (.one 2) l__law_deck_2 (.int ((0 : Int) + (i : Int))) [some (.shr, .fz (ns.map U.int)), some (.own, .lst (row.map U.int)), kk, cel, nn, one] c = some (.nx, [some (.shr, .fz (ns.map U.int)), some (.own, .lst ((row ++ [t * t % 2147483629]).map U.int)), some (.shr, .int ((0 : Int) + (i : Int))), some (.shr, .int x), nn, some (.shr, .int t)], c) := by
        unfold forStep l__law_deck_2
        simp only [setU]
        wp_walk using ixU_f e1, p18, pow, decide_eq_false hx
        rw [← ht]
        wp_walk using hm
      rw [List.map_cons, forU_cons st]
      obtain ⟨row2, a, b, d, e, z1, z2, z3⟩ := ih (some (.shr, .int ((0 : Int) + (i : Int)))) (some (.shr, .int x)) nn (some (.shr, .int t)) (row ++ [t * t % 2147483629]) (fun j hj => hl j (by simp [hj])) (by simp; omega) (fun y hy => by
        rcases List.mem_append.mp hy with hy | hy
        · exact h2 y hy
        · rw [List.mem_singleton] at hy; subst hy; omega)
      exact ⟨row2, a, b, d, e, z1, by simp at z2 ⊢; omega, z3⟩
theorem run_deck {ns : List Int} (hns : ns.length ≤ 63) : ∃ c', vcall P wf cf (k + 1) i__law_deck [(.shr, .fz (ns.map U.int))] [] = some ((false, .cel 0), c') ∧ Deck 0 c' := by
  obtain ⟨row, a, b, d, e, z1, z2, z3⟩ := run_deck_out (wf := wf) (k := k) (c := []) hns (List.range ns.length) none none none none [] (fun i hi => List.mem_range.mp hi) (by simp; omega) (by simp)
  have hmin : (if (63 : Int) < (((ns.map U.int).length : Nat) : Int) then (63 : Int) else (((ns.map U.int).length : Nat) : Int)) = (ns.length : Int) := by
    rw [List.length_map, if_neg (by omega)]
  have hr : rangeU 0 (ns.length : Int).toNat = (List.range ns.length).map fun (i : Nat) => U.int ((0 : Int) + (i : Int)) := by
    rw [Int.toNat_natCast]; rfl
  refine ⟨[[.int 0, .lst (row.map U.int)]], ?_, ⟨0, row, by omega, by omega, rfl, z3⟩⟩
  rw [vcall_fin (b := b__law_deck) (ρ := [some (.shr, .fz (ns.map U.int)), none, none, none, none, none]) rfl rfl rfl rfl, b__law_deck]
  have n0 : newLU [] = some (true, .lst []) := rfl
  have z1' : forU (forStep (vcall P wf cf k) wf (.one 2) l__law_deck_2) ((List.range ns.length).map fun (i : Nat) => U.int ((0 : Int) + (i : Int))) [some (.shr, .fz (ns.map U.int)), some (.own, .lst []), none, none, none, none] [] = some (.nx, [some (.shr, .fz (ns.map U.int)), some (.own, .lst (row.map U.int)), a, b, d, e], []) := z1
  have n2 : newLU [U.int 0, .lst (row.map U.int)] = some (true, .lst [U.int 0, .lst (row.map U.int)]) := nLU (by simp)
  wp_walk using n0, hmin, r1U (v := [some (Md.shr, U.fz (ns.map U.int)), some (Md.own, .lst []), none, none, none, none]) (j := (ns.length : Int)) (by omega) (by omega), hr, z1', n2
  exact finU_ce rfl
end Lw
end
section
set_option linter.all false
set_option maxRecDepth 100000
set_option maxHeartbeats 4000000
namespace Lw
open PySem L2 Ev
local macro_rules | `(tactic| walk_at "vv") => `(tactic| simp -implicitDefEqProofs (discharger := first | omega | assumption | decide) only [eE_var, eE_int, eE_bl, eE_str, eE_non, eE_tup, eE_lst, op2_some, eE_bin, eE_b2, eE_rng, ob2_some, eE_cmp, ox2_some, eE_ix, op1_some, ob1_some, eE_b1, eE_isi, eE_not, on1_some, eE_neg, th2_t, th2_f, eE_and, eE_or, eE_ite, eE_call, methS_some, eE_meth, slS_some, eE_sl, eEs_nil, eEs_cons, eAs_nil, eAs_cons, eO_none, eO_some, eI_seq, eI_r1, eI_r2, eI_zip, eI_enum, liftS_some, ar_var, ar_lit, ar_tup, ar_lst, ar_bin, ar_neg, ar_cmp, ar_chain, ar_and, ar_or, ar_not, ar_ite, ar_call, ar_b1, ar_b2, ar_meth, ar_isi, ar_ix, ar_sl, ar_rng, ar_comp, arOf_some, lift_some, liftB_some, asgS_one, md_own, md_shr, eT_asg, eT_par, setS_some, eT_setIx, eT_augIx, augA_some, augB_int, eT_expr, eT_ret, eT_ife, eT_pass, goOn_nx, goOn_ret, eTs_nil, eTs_cons, tru1_bl, vC_eq, ret_var, retW_some, ret_lit, ret_tup, ret_lst, ret_bin, ret_cmp, ret_chain, ret_and, ret_or, ret_not, ret_ite, ret_call, ret_b1, ret_b2, ret_meth, ret_isi, ret_ix, ret_sl, ret_comp, endFor_nx, endFor_ret, finU_sh, eT_for, vb_some, vb_none, slotAr, resA, resC, optAll, Option.map_some, Option.bind_some, List.map_cons, List.map_nil, List.getElem?_cons_zero, List.getElem?_cons_succ, List.set_cons_zero, List.set_cons_succ, bU_add, bU_sub, bU_mulr, bU_mull, bU_fdiv, bU_mod, cU_lt, cU_gt, cU_le, cU_ge, cU_eq, cU_ne, cU_nn, cU_in, cU_nnn, cU_inn, tU_bl, b1_len_t, b1_len_l, b1_len_f, b1_tup_l, b1_tup_t, b1_int_b, b1_srt, b2_maxU, b2_minU, b2_dmU, List.length_cons, List.length_nil, lockV_nil, unlockV_nil, if_true, Bool.false_eq_true, if_false, mokS_t, m2ok, eE_dnew, eE_rev, eE_sm, smS_str, eT_setD, ar_dnew, ar_rev, ar_sm, ret_rev, ret_sm, wp_some, iU_non, iU_bl, iU_int, iU_str, iU_tup, iU_lst, iU_fz, iU_dct, reduceCtorEq, decide_true, decide_false, Bool.or_true, Bool.true_or, Bool.or_false, Bool.false_or, Bool.not_true, Bool.not_false, eE_chain, chS_t, chS_f, oIntU, b1_all_map, eq_self])
local macro_rules | `(tactic| wp_walk using $ts,*) => `(tactic| simp -implicitDefEqProofs (discharger := first | omega | assumption | decide) only [$[$ts:term],*, eE_var, eE_int, eE_bl, eE_str, eE_non, eE_tup, eE_lst, op2_some, eE_bin, eE_b2, eE_rng, ob2_some, eE_cmp, ox2_some, eE_ix, op1_some, ob1_some, eE_b1, eE_isi, eE_not, on1_some, eE_neg, th2_t, th2_f, eE_and, eE_or, eE_ite, eE_call, methS_some, eE_meth, slS_some, eE_sl, eEs_nil, eEs_cons, eAs_nil, eAs_cons, eO_none, eO_some, eI_seq, eI_r1, eI_r2, eI_zip, eI_enum, liftS_some, ar_var, ar_lit, ar_tup, ar_lst, ar_bin, ar_neg, ar_cmp, ar_chain, ar_and, ar_or, ar_not, ar_ite, ar_call, ar_b1, ar_b2, ar_meth, ar_isi, ar_ix, ar_sl, ar_rng, ar_comp, arOf_some, lift_some, liftB_some, asgS_one, md_own, md_shr, eT_asg, eT_par, setS_some, eT_setIx, eT_augIx, augA_some, augB_int, eT_expr, eT_ret, eT_ife, eT_pass, goOn_nx, goOn_ret, eTs_nil, eTs_cons, tru1_bl, vC_eq, ret_var, retW_some, ret_lit, ret_tup, ret_lst, ret_bin, ret_cmp, ret_chain, ret_and, ret_or, ret_not, ret_ite, ret_call, ret_b1, ret_b2, ret_meth, ret_isi, ret_ix, ret_sl, ret_comp, endFor_nx, endFor_ret, finU_sh, eT_for, vb_some, vb_none, slotAr, resA, resC, optAll, Option.map_some, Option.bind_some, List.map_cons, List.map_nil, List.getElem?_cons_zero, List.getElem?_cons_succ, List.set_cons_zero, List.set_cons_succ, bU_add, bU_sub, bU_mulr, bU_mull, bU_fdiv, bU_mod, cU_lt, cU_gt, cU_le, cU_ge, cU_eq, cU_ne, cU_nn, cU_in, cU_nnn, cU_inn, tU_bl, b1_len_t, b1_len_l, b1_len_f, b1_tup_l, b1_tup_t, b1_int_b, b1_srt, b2_maxU, b2_minU, b2_dmU, List.length_cons, List.length_nil, lockV_nil, unlockV_nil, if_true, Bool.false_eq_true, if_false, mokS_t, m2ok, eE_dnew, eE_rev, eE_sm, smS_str, eT_setD, ar_dnew, ar_rev, ar_sm, ret_rev, ret_sm, wp_some, iU_non, iU_bl, iU_int, iU_str, iU_tup, iU_lst, iU_fz, iU_dct, reduceCtorEq, decide_true, decide_false, Bool.or_true, Bool.true_or, Bool.or_false, Bool.false_or, Bool.not_true, Bool.not_false, eE_chain, chS_t, chS_f, oIntU, b1_all_map, eq_self])
variable {wf k : Nat} {c : Ce}
/-! Pairs dealt round and round. -/
def share (q r i : Nat) : Nat := if i < r then q + 1 else q
def blk (os : List Int) (s n : Nat) (a : Int) : List (Int × Int) := (List.range n).map fun t => (a, os.getD ((s + t) % os.length) 0)
def deal (os : List Int) (q r : Nat) : Nat → Nat → List Int → List (Int × Int)
  | _, _, [] => []
  | i, s, a :: as => blk os s (share q r i) a ++ deal os q r (i + 1) (s + share q r i) as
def total (q r : Nat) : Nat → List Int → Nat
  | _, [] => 0
  | i, _ :: as => share q r i + total q r (i + 1) as
theorem total_eq (q r : Nat) : ∀ (as : List Int) (i : Nat), total q r i as = q * as.length + (min r (i + as.length) - min r i)
  | [], i => by simp [total]
  | a :: as, i => by
    unfold total
    rw [total_eq q r as (i + 1), List.length_cons, Nat.mul_add, Nat.mul_one]
    unfold share
    split <;> omega
theorem deal_length (os : List Int) (q r : Nat) : ∀ (as : List Int) (i s : Nat), (deal os q r i s as).length = total q r i as
  | [], _, _ => rfl
  | a :: as, i, s => by simp [deal, total, blk, deal_length os q r as (i + 1)]
theorem deal_snd (os : List Int) (q r : Nat) : ∀ (as : List Int) (i s : Nat), (deal os q r i s as).map (·.2) = (List.range (total q r i as)).map fun t => os.getD ((s + t) % os.length) 0
  | [], _, _ => rfl
  | a :: as, i, s => by
    unfold deal total
    rw [List.map_append, deal_snd os q r as (i + 1), List.range_add, List.map_append]
    congr 1
    · simp [blk, Function.comp_def]
    · rw [List.map_map]
      apply List.map_congr_left
      intro t _
      simp [Function.comp_def, Nat.add_assoc]
theorem deal_fst (os : List Int) (q r : Nat) : ∀ (as : List Int) (i s : Nat) (p : Int × Int), p ∈ deal os q r i s as → p.1 ∈ as
  | [], _, _, p, h => by cases h
  | a :: as, i, s, p, h => by
    unfold deal at h
    rcases List.mem_append.mp h with h | h
    · unfold blk at h
      obtain ⟨t, _, rfl⟩ := List.mem_map.mp h
      exact List.mem_cons_self ..
    · exact List.mem_cons_of_mem _ (deal_fst os q r as _ _ p h)
theorem deal_mem {os : List Int} (ho : 0 < os.length) (q r : Nat) : ∀ (as : List Int) (i s : Nat) (p : Int × Int), p ∈ deal os q r i s as → p.2 ∈ os
  | [], _, _, p, h => by cases h
  | a :: as, i, s, p, h => by
    unfold deal at h
    rcases List.mem_append.mp h with h | h
    · unfold blk at h
      obtain ⟨t, _, rfl⟩ := List.mem_map.mp h
      show os.getD ((s + t) % os.length) 0 ∈ os
      have hl := Nat.mod_lt (s + t) ho
      rw [List.getD_eq_getElem?_getD, List.getElem?_eq_getElem hl]
      exact List.getElem_mem _
    · exact deal_mem ho q r as _ _ p h
theorem getD_inj {os : List Int} (hn : os.Nodup) {i j : Nat} (hi : i < os.length) (hj : j < os.length) (h : os.getD i 0 = os.getD j 0) : i = j := by
  rw [List.getD_eq_getElem?_getD, List.getElem?_eq_getElem hi, List.getD_eq_getElem?_getD, List.getElem?_eq_getElem hj] at h
  have pw := List.pairwise_iff_getElem.mp hn
  rcases Nat.lt_trichotomy i j with z | z | z
  · exact absurd h (pw i j hi hj z)
  · exact z
  · exact absurd h.symm (pw j i hj hi z)
theorem mod_inj {s t t' m : Nat} (h1 : t < m) (h2 : t' < m) (h : (s + t) % m = (s + t') % m) : t = t' := by
  have a := Nat.div_add_mod (s + t) m
  have b := Nat.div_add_mod (s + t') m
  rw [h] at a
  rcases Nat.lt_trichotomy ((s + t) / m) ((s + t') / m) with z | z | z
  · have : m * ((s + t) / m) + m ≤ m * ((s + t') / m) := by
      calc m * ((s + t) / m) + m = m * ((s + t) / m + 1) := by rw [Nat.mul_add, Nat.mul_one]
        _ ≤ m * ((s + t') / m) := Nat.mul_le_mul_left m z
    omega
  · rw [z] at a; omega
  · have : m * ((s + t') / m) + m ≤ m * ((s + t) / m) := by
      calc m * ((s + t') / m) + m = m * ((s + t') / m + 1) := by rw [Nat.mul_add, Nat.mul_one]
        _ ≤ m * ((s + t) / m) := Nat.mul_le_mul_left m z
    omega
theorem blk_nodup {os : List Int} (hn : os.Nodup) (ho : 0 < os.length) {s n : Nat} {a : Int} (h : n ≤ os.length) : (blk os s n a).Nodup := by
  unfold blk
  rw [List.nodup_iff_pairwise_ne, List.pairwise_map]
  refine (List.nodup_range (n := n)).imp_of_mem fun {x y} hx hy hne e => hne ?_
  rw [List.mem_range] at hx hy
  have e2 : os.getD ((s + x) % os.length) 0 = os.getD ((s + y) % os.length) 0 := (Prod.mk.inj e).2
  exact mod_inj (by omega) (by omega) (getD_inj hn (Nat.mod_lt _ ho) (Nat.mod_lt _ ho) e2)
theorem deal_nodup {os : List Int} (hn : os.Nodup) (ho : 0 < os.length) {q r : Nat} (hs : ∀ i, share q r i ≤ os.length) : ∀ (as : List Int) (i s : Nat), as.Nodup → (deal os q r i s as).Nodup
  | [], _, _, _ => List.nodup_nil
  | a :: as, i, s, h => by
    unfold deal
    rw [List.nodup_cons] at h
    rw [List.nodup_append]
    refine ⟨blk_nodup hn ho (hs i), deal_nodup hn ho hs as _ _ h.2, fun p hp p' hp' e => ?_⟩
    unfold blk at hp
    obtain ⟨t, _, rfl⟩ := List.mem_map.mp hp
    have := deal_fst os q r as _ _ p' hp'
    rw [← e] at this
    exact h.1 this
def cntF (l : List (Int × Int)) (a : Int) : Nat := (l.filter fun p => p.1 == a).length
def cntS (l : List (Int × Int)) (b : Int) : Nat := (l.filter fun p => p.2 == b).length
theorem cntF_perm {l l' : List (Int × Int)} (h : l.Perm l') (a : Int) : cntF l a = cntF l' a := (h.filter _).length_eq
theorem cntS_perm {l l' : List (Int × Int)} (h : l.Perm l') (a : Int) : cntS l a = cntS l' a := (h.filter _).length_eq
theorem deal_cntF (os : List Int) (q r : Nat) : ∀ (as : List Int) (i s : Nat) (a : Int), as.Nodup → a ∈ as → ∃ j, cntF (deal os q r i s as) a = share q r j
  | b :: as, i, s, a, h, hm => by
    rw [List.nodup_cons] at h
    unfold deal cntF
    rw [List.filter_append, List.length_append]
    by_cases e : b = a
    · subst e
      refine ⟨i, ?_⟩
      have h1 : (blk os s (share q r i) b).filter (fun p => p.1 == b) = blk os s (share q r i) b := by
        apply List.filter_eq_self.mpr
        intro p hp
        unfold blk at hp
        obtain ⟨t, _, rfl⟩ := List.mem_map.mp hp
        simp
      have h2 : (deal os q r (i + 1) (s + share q r i) as).filter (fun p => p.1 == b) = [] := by
        apply List.filter_eq_nil_iff.mpr
        intro p hp z
        have := deal_fst os q r as _ _ p hp
        rw [eq_of_beq z] at this
        exact h.1 this
      rw [h1, h2]
      simp [blk]
    · have hm' : a ∈ as := by
        rcases List.mem_cons.mp hm with z | z
        · exact absurd z.symm e
        · exact z
      obtain ⟨j, hj⟩ := deal_cntF os q r as (i + 1) (s + share q r i) a h.2 hm'
      refine ⟨j, ?_⟩
      have h1 : (blk os s (share q r i) b).filter (fun p => p.1 == a) = [] := by
        apply List.filter_eq_nil_iff.mpr
        intro p hp z
        unfold blk at hp
        obtain ⟨t, _, rfl⟩ := List.mem_map.mp hp
        exact e (eq_of_beq z)
      rw [h1]
      unfold cntF at hj
      simpa using hj
/-- how many of 0 .. N - 1 leave j by m -/
def cntM (m j : Nat) : Nat → Nat
  | 0 => 0
  | N + 1 => cntM m j N + (if N % m = j then 1 else 0)
theorem cntM_eq {m j : Nat} (hm : 0 < m) (hj : j < m) : ∀ N, cntM m j N = N / m + (if j < N % m then 1 else 0)
  | 0 => by simp [cntM]
  | N + 1 => by
    unfold cntM
    rw [cntM_eq hm hj N]
    have a := Nat.div_add_mod N m
    have hlt := Nat.mod_lt N hm
    by_cases z : N % m + 1 = m
    · have e1 : (N + 1) / m = N / m + 1 := by
        have : N + 1 = m * (N / m + 1) := by rw [Nat.mul_add, Nat.mul_one]; omega
        rw [this, Nat.mul_div_cancel_left _ hm]
      have e2 : (N + 1) % m = 0 := by
        have : N + 1 = m * (N / m + 1) := by rw [Nat.mul_add, Nat.mul_one]; omega
        rw [this, Nat.mul_mod_right]
      rw [e1, e2]
      split <;> split <;> split <;> omega
    · have e : (N + 1) / m = N / m ∧ (N + 1) % m = N % m + 1 := by
        have : N + 1 = (N % m + 1) + m * (N / m) := by omega
        constructor
        · rw [this, Nat.add_mul_div_left _ _ hm, Nat.div_eq_of_lt (by omega), Nat.zero_add]
        · rw [this, Nat.add_mul_mod_self_left, Nat.mod_eq_of_lt (by omega)]
      rw [e.1, e.2]
      split <;> split <;> split <;> omega
theorem cntS_deal {os : List Int} (hn : os.Nodup) (ho : 0 < os.length) (q r : Nat) (as : List Int) {b : Int} (hb : b ∈ os) : ∃ j, j < os.length ∧ cntS (deal os q r 0 0 as) b = cntM os.length j (total q r 0 as) := by
  obtain ⟨j, hj, e⟩ := List.mem_iff_getElem.mp hb
  refine ⟨j, hj, ?_⟩
  have h1 : cntS (deal os q r 0 0 as) b = (((deal os q r 0 0 as).map (·.2)).filter (· == b)).length := by
    unfold cntS
    rw [List.filter_map, List.length_map]
    rfl
  rw [h1, deal_snd]
  generalize total q r 0 as = N
  induction N with
  | zero => rfl
  | succ N ih =>
    rw [List.range_succ, List.map_append, List.filter_append, List.length_append, ih]
    show _ = cntM os.length j N + (if N % os.length = j then 1 else 0)
    congr 1
    show (List.filter (· == b) [os.getD ((0 + N) % os.length) 0]).length = _
    rw [Nat.zero_add, List.filter_cons, List.filter_nil]
    have hl := Nat.mod_lt N ho
    by_cases z : N % os.length = j
    · rw [if_pos z, if_pos (by rw [z, List.getD_eq_getElem?_getD, List.getElem?_eq_getElem hj]; simp [e])]
      rfl
    · rw [if_neg z, if_neg]
      · rfl
      · intro y
        apply z
        refine getD_inj hn hl hj ?_
        rw [eq_of_beq y, List.getD_eq_getElem?_getD, List.getElem?_eq_getElem hj]
        exact e.symm
/-- what is asked of the fans, as numbers -/
structure Fits (n m ol il : Nat) (oh ih : Option Nat) (N : Nat) : Prop where
  mx : N = max (ol * n) (il * m)
  le : N ≤ n * m
  o : ∀ h, oh = some h → N ≤ h * n
  i : ∀ h, ih = some h → N ≤ h * m
def InFan (k lo : Nat) (hi : Option Nat) : Prop := lo ≤ k ∧ ∀ h, hi = some h → k ≤ h
theorem share_le {n N q r h : Nat} (hn : 0 < n) (hq : q = N / n) (hr : r = N % n) (hN : N ≤ h * n) (i : Nat) : share q r i ≤ h := by
  have a := Nat.div_add_mod N n
  have b := Nat.mod_lt N hn
  subst hq hr
  have hq : N / n ≤ h := Nat.div_le_of_le_mul (by rw [Nat.mul_comm]; exact hN)
  unfold share
  split
  · rename_i z
    rcases Nat.lt_or_ge (N / n) h with w | w
    · exact w
    · have : N / n = h := by omega
      rw [this] at a
      have : n * h = h * n := Nat.mul_comm _ _
      omega
  · exact hq
theorem share_ge {n N q r l : Nat} (hn : 0 < n) (hq : q = N / n) (hN : l * n ≤ N) (i : Nat) : l ≤ share q r i := by
  have : l ≤ N / n := (Nat.le_div_iff_mul_le hn).mpr hN
  subst hq
  unfold share
  split <;> omega
theorem deal_right {as os : List Int} {ol il : Nat} {oh ih : Option Nat} {N : Nat} (ha : as.Nodup) (ho : os.Nodup) (hn : 0 < as.length) (hm : 0 < os.length) (h : Fits as.length os.length ol il oh ih N) :
    (deal os (N / as.length) (N % as.length) 0 0 as).Nodup ∧ (deal os (N / as.length) (N % as.length) 0 0 as).length = N ∧ (∀ a ∈ as, InFan (cntF (deal os (N / as.length) (N % as.length) 0 0 as) a) ol oh) ∧ (∀ b ∈ os, InFan (cntS (deal os (N / as.length) (N % as.length) 0 0 as) b) il ih) := by
  have ht : total (N / as.length) (N % as.length) 0 as = N := by
    rw [total_eq]
    have a := Nat.div_add_mod N as.length
    have b := Nat.mod_lt N hn
    have : as.length * (N / as.length) = N / as.length * as.length := Nat.mul_comm _ _
    omega
  have hmx := h.mx
  refine ⟨deal_nodup ho hm (fun i => share_le hn rfl rfl (by rw [Nat.mul_comm]; exact h.le) i) as 0 0 ha, by rw [deal_length, ht], fun a hm' => ?_, fun b hb => ?_⟩
  · obtain ⟨j, hj⟩ := deal_cntF os _ _ as 0 0 a ha hm'
    rw [hj]
    exact ⟨share_ge hn rfl (by omega) j, fun x hx => share_le hn rfl rfl (h.o x hx) j⟩
  · obtain ⟨j, hj, e⟩ := cntS_deal ho hm (N / as.length) (N % as.length) as hb
    rw [e, ht, cntM_eq hm hj]
    have a := Nat.div_add_mod N os.length
    have b := Nat.mod_lt N hm
    constructor
    · have : il ≤ N / os.length := (Nat.le_div_iff_mul_le hm).mpr (by omega)
      omega
    · intro x hx
      have := share_le (r := N % os.length) hm rfl rfl (h.i x hx) j
      unfold share at this
      split <;> rename_i z
      · rw [if_pos z] at this; omega
      · rw [if_neg z] at this; omega
end Lw
end
section
set_option linter.all false
set_option maxRecDepth 100000
set_option maxHeartbeats 4000000
namespace Lw
open PySem L2 Ev
local macro_rules | `(tactic| walk_at "vv") => `(tactic| simp -implicitDefEqProofs (discharger := first | omega | assumption | decide) only [eE_var, eE_int, eE_bl, eE_str, eE_non, eE_tup, eE_lst, op2_some, eE_bin, eE_b2, eE_rng, ob2_some, eE_cmp, ox2_some, eE_ix, op1_some, ob1_some, eE_b1, eE_isi, eE_not, on1_some, eE_neg, th2_t, th2_f, eE_and, eE_or, eE_ite, eE_call, methS_some, eE_meth, slS_some, eE_sl, eEs_nil, eEs_cons, eAs_nil, eAs_cons, eO_none, eO_some, eI_seq, eI_r1, eI_r2, eI_zip, eI_enum, liftS_some, ar_var, ar_lit, ar_tup, ar_lst, ar_bin, ar_neg, ar_cmp, ar_chain, ar_and, ar_or, ar_not, ar_ite, ar_call, ar_b1, ar_b2, ar_meth, ar_isi, ar_ix, ar_sl, ar_rng, ar_comp, arOf_some, lift_some, liftB_some, asgS_one, md_own, md_shr, eT_asg, eT_par, setS_some, eT_setIx, eT_augIx, augA_some, augB_int, eT_expr, eT_ret, eT_ife, eT_pass, goOn_nx, goOn_ret, eTs_nil, eTs_cons, tru1_bl, vC_eq, ret_var, retW_some, ret_lit, ret_tup, ret_lst, ret_bin, ret_cmp, ret_chain, ret_and, ret_or, ret_not, ret_ite, ret_call, ret_b1, ret_b2, ret_meth, ret_isi, ret_ix, ret_sl, ret_comp, endFor_nx, endFor_ret, finU_sh, eT_for, vb_some, vb_none, slotAr, resA, resC, optAll, Option.map_some, Option.bind_some, List.map_cons, List.map_nil, List.getElem?_cons_zero, List.getElem?_cons_succ, List.set_cons_zero, List.set_cons_succ, bU_add, bU_sub, bU_mulr, bU_mull, bU_fdiv, bU_mod, cU_lt, cU_gt, cU_le, cU_ge, cU_eq, cU_ne, cU_nn, cU_in, cU_nnn, cU_inn, tU_bl, b1_len_t, b1_len_l, b1_len_f, b1_tup_l, b1_tup_t, b1_int_b, b1_srt, b2_maxU, b2_minU, b2_dmU, List.length_cons, List.length_nil, lockV_nil, unlockV_nil, if_true, Bool.false_eq_true, if_false, mokS_t, m2ok, eE_dnew, eE_rev, eE_sm, smS_str, eT_setD, ar_dnew, ar_rev, ar_sm, ret_rev, ret_sm, wp_some, iU_non, iU_bl, iU_int, iU_str, iU_tup, iU_lst, iU_fz, iU_dct, reduceCtorEq, decide_true, decide_false, Bool.or_true, Bool.true_or, Bool.or_false, Bool.false_or, Bool.not_true, Bool.not_false, eE_chain, chS_t, chS_f, oIntU, b1_all_map, eq_self])
local macro_rules | `(tactic| wp_walk using $ts,*) => `(tactic| simp -implicitDefEqProofs (discharger := first | omega | assumption | decide) only [$[$ts:term],*, eE_var, eE_int, eE_bl, eE_str, eE_non, eE_tup, eE_lst, op2_some, eE_bin, eE_b2, eE_rng, ob2_some, eE_cmp, ox2_some, eE_ix, op1_some, ob1_some, eE_b1, eE_isi, eE_not, on1_some, eE_neg, th2_t, th2_f, eE_and, eE_or, eE_ite, eE_call, methS_some, eE_meth, slS_some, eE_sl, eEs_nil, eEs_cons, eAs_nil, eAs_cons, eO_none, eO_some, eI_seq, eI_r1, eI_r2, eI_zip, eI_enum, liftS_some, ar_var, ar_lit, ar_tup, ar_lst, ar_bin, ar_neg, ar_cmp, ar_chain, ar_and, ar_or, ar_not, ar_ite, ar_call, ar_b1, ar_b2, ar_meth, ar_isi, ar_ix, ar_sl, ar_rng, ar_comp, arOf_some, lift_some, liftB_some, asgS_one, md_own, md_shr, eT_asg, eT_par, setS_some, eT_setIx, eT_augIx, augA_some, augB_int, eT_expr, eT_ret, eT_ife, eT_pass, goOn_nx, goOn_ret, eTs_nil, eTs_cons, tru1_bl, vC_eq, ret_var, retW_some, ret_lit, ret_tup, ret_lst, ret_bin, ret_cmp, ret_chain, ret_and, ret_or, ret_not, ret_ite, ret_call, ret_b1, ret_b2, ret_meth, ret_isi, ret_ix, ret_sl, ret_comp, endFor_nx, endFor_ret, finU_sh, eT_for, vb_some, vb_none, slotAr, resA, resC, optAll, Option.map_some, Option.bind_some, List.map_cons, List.map_nil, List.getElem?_cons_zero, List.getElem?_cons_succ, List.set_cons_zero, List.set_cons_succ, bU_add, bU_sub, bU_mulr, bU_mull, bU_fdiv, bU_mod, cU_lt, cU_gt, cU_le, cU_ge, cU_eq, cU_ne, cU_nn, cU_in, cU_nnn, cU_inn, tU_bl, b1_len_t, b1_len_l, b1_len_f, b1_tup_l, b1_tup_t, b1_int_b, b1_srt, b2_maxU, b2_minU, b2_dmU, List.length_cons, List.length_nil, lockV_nil, unlockV_nil, if_true, Bool.false_eq_true, if_false, mokS_t, m2ok, eE_dnew, eE_rev, eE_sm, smS_str, eT_setD, ar_dnew, ar_rev, ar_sm, ret_rev, ret_sm, wp_some, iU_non, iU_bl, iU_int, iU_str, iU_tup, iU_lst, iU_fz, iU_dct, reduceCtorEq, decide_true, decide_false, Bool.or_true, Bool.true_or, Bool.or_false, Bool.false_or, Bool.not_true, Bool.not_false, eE_chain, chS_t, chS_f, oIntU, b1_all_map, eq_self])
variable {wf k : Nat} {c : Ce}
def oU : Option Nat → U
  | none => .non
  | some h => .int (h : Int)
def fanU (lo : Nat) (hi : Option Nat) : U := .tup [.int (lo : Int), oU hi]
def FanOk (lo : Nat) (hi : Option Nat) : Prop := lo ≤ 4 ∧ ∀ h, hi = some h → 1 ≤ h ∧ lo ≤ h ∧ h ≤ 4
theorem cU_eqn {j : Int} : cmpU .Eq .non (.int j) = some false := by simp [cmpU, Ev.eqU, pyU, PyData.eqv, PyData.canLay0]
theorem run_fan {a : Nat} (ha : a < 99990) (h : Deck a c) : ∃ lo hi c', vcall P wf cf (k + 2) i__law_fan [(.shr, .cel 0)] c = some ((false, fanU lo hi), c') ∧ FanOk lo hi ∧ Deck (a + 2) c' := by
  obtain ⟨r1, c1, e1, p1, d1⟩ := run_next (wf := wf) (k := k) (by omega) h
  obtain ⟨r2, c2, e2, p2, d2⟩ := run_next (wf := wf) (k := k) (by omega) d1
  have b1 : 0 ≤ r1 % 5 ∧ r1 % 5 < 5 := ⟨Int.emod_nonneg _ (by omega), Int.emod_lt_of_pos _ (by omega)⟩
  have b2 : 0 ≤ r2 % 4 ∧ r2 % 4 < 4 := ⟨Int.emod_nonneg _ (by omega), Int.emod_lt_of_pos _ (by omega)⟩
  obtain ⟨lo, hlo⟩ : ∃ lo : Nat, r1 % 5 = (lo : Int) := ⟨(r1 % 5).toNat, by omega⟩
  have n4 : ∀ {w x y z : U}, newLU [w, x, y, z] = some (true, .lst [w, x, y, z]) := nLU (by simp)
  have n2 : ∀ {w x : U}, newLU [w, x] = some (true, .lst [w, x]) := nLU (by simp)
  have t2 : ∀ {w x : U}, newTU [w, x] = some (false, .tup [w, x]) := nTU (by simp)
  have key : ∀ (hu : U) (hi : Option Nat) (b : Bool), atI [U.non, .int (lo : Int), .int 4, .int 4] (r2 % 4) = some hu → cmpU .Eq hu (.int 0) = some b → atI [hu, U.int 1] (if b = true then 1 else 0) = some (oU hi) → vcall P wf cf (k + 2) i__law_fan [(.shr, .cel 0)] c = some ((false, fanU lo hi), c2) := by
    intro hu hi b h1 h2 h3
    rw [vcall_fin (b := b__law_fan) (ρ := [some (.shr, .cel 0), none, none]) rfl rfl rfl rfl, b__law_fan]
    wp_walk using callS_some e1, callS_some e2, hlo, n4, n2, t2, ixU_l h1, h2, ixU_l h3
    rfl
  have hr : r2 % 4 = 0 ∨ r2 % 4 = 1 ∨ r2 % 4 = 2 ∨ r2 % 4 = 3 := by omega
  rcases hr with hr | hr | hr | hr
  · exact ⟨lo, none, c2, key .non none false (by rw [hr]; exact at0) cU_eqn (by simp only [Bool.false_eq_true, if_false]; exact at0), ⟨by omega, fun _ z => by cases z⟩, d2⟩
  · by_cases hz : lo = 0
    · exact ⟨lo, some 1, c2, key (.int lo) (some 1) true (by rw [hr]; exact at1) (by rw [cU_eq, hz]; rfl) (by simp only [if_true]; exact at1), ⟨by omega, fun _ z => by cases z; omega⟩, d2⟩
    · exact ⟨lo, some lo, c2, key (.int lo) (some lo) false (by rw [hr]; exact at1) (by rw [cU_eq]; simp; omega) (by simp only [Bool.false_eq_true, if_false]; exact at0), ⟨by omega, fun _ z => by cases z; omega⟩, d2⟩
  · exact ⟨lo, some 4, c2, key (.int 4) (some 4) false (by rw [hr]; exact at2) (by rw [cU_eq]; rfl) (by simp only [Bool.false_eq_true, if_false]; exact at0), ⟨by omega, fun _ z => by cases z; omega⟩, d2⟩
  · exact ⟨lo, some 4, c2, key (.int 4) (some 4) false (by rw [hr]; exact at3) (by rw [cU_eq]; rfl) (by simp only [Bool.false_eq_true, if_false]; exact at0), ⟨by omega, fun _ z => by cases z; omega⟩, d2⟩
theorem max_int {p q : Nat} : (if (q : Int) > (p : Int) then (q : Int) else (p : Int)) = ((max p q : Nat) : Int) := by
  split <;> omega
theorem mulI {p q : Nat} : (p : Int) * (q : Int) = ((p * q : Nat) : Int) := by simp
def IU (l : List Int) : U := .tup (l.map U.int)
theorem run_fits {as os : List Int} {ol il : Nat} {oh ih : Option Nat} (h1 : as.length ≤ 1000) (h2 : os.length ≤ 1000) (fo : FanOk ol oh) (fi : FanOk il ih) :
    ∃ b, vcall P wf cf (k + 1) i__law_fits [(.shr, IU as), (.shr, IU os), (.shr, fanU ol oh), (.shr, fanU il ih)] c = some ((false, .bl b), c) ∧ (b = true → Fits as.length os.length ol il oh ih (max (ol * as.length) (il * os.length))) := by
  unfold IU fanU
  have l1 : (((as.map U.int).length : Nat) : Int) = (as.length : Int) := by rw [List.length_map]
  have l2 : (((os.map U.int).length : Nat) : Int) = (os.length : Int) := by rw [List.length_map]
  obtain ⟨N, hN⟩ : ∃ N, N = max (ol * as.length) (il * os.length) := ⟨_, rfl⟩
  rw [← hN]
  have hmx : (if ((il * os.length : Nat) : Int) > ((ol * as.length : Nat) : Int) then ((il * os.length : Nat) : Int) else ((ol * as.length : Nat) : Int)) = (N : Int) := by rw [hN]; exact max_int
  have i0 : ∀ {x y : U}, ixU c (.tup [x, y]) (.int 0) = some x := ixU_t at0
  have i1 : ∀ {x y : U}, ixU c (.tup [x, y]) (.int 1) = some y := ixU_t at1
  have hfo : ∀ h, oh = some h → h ≤ 4 := fun h z => (fo.2 h z).2.2
  have hfi : ∀ h, ih = some h → h ≤ 4 := fun h z => (fi.2 h z).2.2
  by_cases q1 : ((as.length * os.length : Nat) : Int) < (N : Int)
  · refine ⟨false, ?_, fun z => by cases z⟩
    rw [vcall_fin (b := b__law_fits) (ρ := [some (.shr, .tup (as.map U.int)), some (.shr, .tup (os.map U.int)), some (.shr, .tup [.int ol, oU oh]), some (.shr, .tup [.int il, oU ih]), none]) rfl rfl rfl rfl, b__law_fits]
    wp_walk using i0, i1, l1, l2, mulI, hmx, decide_eq_true q1
  · have st : ∀ {oh ih : Option Nat}, ([some (.shr, .tup (as.map U.int)), some (.shr, .tup (os.map U.int)), some (.shr, .tup [.int ol, oU oh]), some (.shr, .tup [.int il, oU ih]), none] : VEnv) = [some (.shr, .tup (as.map U.int)), some (.shr, .tup (os.map U.int)), some (.shr, .tup [.int ol, oU oh]), some (.shr, .tup [.int il, oU ih]), none] := rfl
    cases oh with
    | none =>
      cases ih with
      | none =>
        refine ⟨true, ?_, fun z => ⟨hN, by omega, fun _ e => (by cases e), fun _ e => (by cases e)⟩⟩
        rw [vcall_fin (b := b__law_fits) (ρ := [some (.shr, .tup (as.map U.int)), some (.shr, .tup (os.map U.int)), some (.shr, .tup [.int ol, .non]), some (.shr, .tup [.int il, .non]), none]) rfl rfl rfl rfl, b__law_fits]
        wp_walk using i0, i1, l1, l2, mulI, hmx, decide_eq_false q1
      | some h =>
        have := hfi h rfl
        refine ⟨decide ((N : Int) ≤ ((h * os.length : Nat) : Int)), ?_, fun z => ⟨hN, by omega, fun _ e => (by cases e), fun _ e => (by cases e; have := of_decide_eq_true z; omega)⟩⟩
        rw [vcall_fin (b := b__law_fits) (ρ := [some (.shr, .tup (as.map U.int)), some (.shr, .tup (os.map U.int)), some (.shr, .tup [.int ol, .non]), some (.shr, .tup [.int il, .int h]), none]) rfl rfl rfl rfl, b__law_fits]
        wp_walk using i0, i1, l1, l2, mulI, hmx, decide_eq_false q1
    | some g =>
      have := hfo g rfl
      by_cases q2 : ((g * as.length : Nat) : Int) < (N : Int)
      · refine ⟨false, ?_, fun z => by cases z⟩
        rw [vcall_fin (b := b__law_fits) (ρ := [some (.shr, .tup (as.map U.int)), some (.shr, .tup (os.map U.int)), some (.shr, .tup [.int ol, .int g]), some (.shr, .tup [.int il, oU ih]), none]) rfl rfl rfl rfl, b__law_fits]
        wp_walk using i0, i1, l1, l2, mulI, hmx, decide_eq_false q1, decide_eq_true q2
      · cases ih with
        | none =>
          refine ⟨true, ?_, fun z => ⟨hN, by omega, fun _ e => (by cases e; omega), fun _ e => (by cases e)⟩⟩
          rw [vcall_fin (b := b__law_fits) (ρ := [some (.shr, .tup (as.map U.int)), some (.shr, .tup (os.map U.int)), some (.shr, .tup [.int ol, .int g]), some (.shr, .tup [.int il, .non]), none]) rfl rfl rfl rfl, b__law_fits]
          wp_walk using i0, i1, l1, l2, mulI, hmx, decide_eq_false q1, decide_eq_false q2
        | some h =>
          have := hfi h rfl
          refine ⟨decide ((N : Int) ≤ ((h * os.length : Nat) : Int)), ?_, fun z => ⟨hN, by omega, fun _ e => (by cases e; omega), fun _ e => (by cases e; have := of_decide_eq_true z; omega)⟩⟩
          rw [vcall_fin (b := b__law_fits) (ρ := [some (.shr, .tup (as.map U.int)), some (.shr, .tup (os.map U.int)), some (.shr, .tup [.int ol, .int g]), some (.shr, .tup [.int il, .int h]), none]) rfl rfl rfl rfl, b__law_fits]
          wp_walk using i0, i1, l1, l2, mulI, hmx, decide_eq_false q1, decide_eq_false q2
end Lw
end
section
set_option linter.all false
set_option maxRecDepth 100000
set_option maxHeartbeats 4000000
namespace Lw
open PySem L2 Ev
local macro_rules | `(tactic| walk_at "vv") => `(tactic| simp -implicitDefEqProofs (discharger := first | omega | assumption | decide) only [eE_var, eE_int, eE_bl, eE_str, eE_non, eE_tup, eE_lst, op2_some, eE_bin, eE_b2, eE_rng, ob2_some, eE_cmp, ox2_some, eE_ix, op1_some, ob1_some, eE_b1, eE_isi, eE_not, on1_some, eE_neg, th2_t, th2_f, eE_and, eE_or, eE_ite, eE_call, methS_some, eE_meth, slS_some, eE_sl, eEs_nil, eEs_cons, eAs_nil, eAs_cons, eO_none, eO_some, eI_seq, eI_r1, eI_r2, eI_zip, eI_enum, liftS_some, ar_var, ar_lit, ar_tup, ar_lst, ar_bin, ar_neg, ar_cmp, ar_chain, ar_and, ar_or, ar_not, ar_ite, ar_call, ar_b1, ar_b2, ar_meth, ar_isi, ar_ix, ar_sl, ar_rng, ar_comp, arOf_some, lift_some, liftB_some, asgS_one, md_own, md_shr, eT_asg, eT_par, setS_some, eT_setIx, eT_augIx, augA_some, augB_int, eT_expr, eT_ret, eT_ife, eT_pass, goOn_nx, goOn_ret, eTs_nil, eTs_cons, tru1_bl, vC_eq, ret_var, retW_some, ret_lit, ret_tup, ret_lst, ret_bin, ret_cmp, ret_chain, ret_and, ret_or, ret_not, ret_ite, ret_call, ret_b1, ret_b2, ret_meth, ret_isi, ret_ix, ret_sl, ret_comp, endFor_nx, endFor_ret, finU_sh, eT_for, vb_some, vb_none, slotAr, resA, resC, optAll, Option.map_some, Option.bind_some, List.map_cons, List.map_nil, List.getElem?_cons_zero, List.getElem?_cons_succ, List.set_cons_zero, List.set_cons_succ, bU_add, bU_sub, bU_mulr, bU_mull, bU_fdiv, bU_mod, cU_lt, cU_gt, cU_le, cU_ge, cU_eq, cU_ne, cU_nn, cU_in, cU_nnn, cU_inn, tU_bl, b1_len_t, b1_len_l, b1_len_f, b1_tup_l, b1_tup_t, b1_int_b, b1_srt, b2_maxU, b2_minU, b2_dmU, List.length_cons, List.length_nil, lockV_nil, unlockV_nil, if_true, Bool.false_eq_true, if_false, mokS_t, m2ok, eE_dnew, eE_rev, eE_sm, smS_str, eT_setD, ar_dnew, ar_rev, ar_sm, ret_rev, ret_sm, wp_some, iU_non, iU_bl, iU_int, iU_str, iU_tup, iU_lst, iU_fz, iU_dct, reduceCtorEq, decide_true, decide_false, Bool.or_true, Bool.true_or, Bool.or_false, Bool.false_or, Bool.not_true, Bool.not_false, eE_chain, chS_t, chS_f, oIntU, b1_all_map, eq_self])
local macro_rules | `(tactic| wp_walk using $ts,*) => `(tactic| simp -implicitDefEqProofs (discharger := first | omega | assumption | decide) only [$[$ts:term],*, eE_var, eE_int, eE_bl, eE_str, eE_non, eE_tup, eE_lst, op2_some, eE_bin, eE_b2, eE_rng, ob2_some, eE_cmp, ox2_some, eE_ix, op1_some, ob1_some, eE_b1, eE_isi, eE_not, on1_some, eE_neg, th2_t, th2_f, eE_and, eE_or, eE_ite, eE_call, methS_some, eE_meth, slS_some, eE_sl, eEs_nil, eEs_cons, eAs_nil, eAs_cons, eO_none, eO_some, eI_seq, eI_r1, eI_r2, eI_zip, eI_enum, liftS_some, ar_var, ar_lit, ar_tup, ar_lst, ar_bin, ar_neg, ar_cmp, ar_chain, ar_and, ar_or, ar_not, ar_ite, ar_call, ar_b1, ar_b2, ar_meth, ar_isi, ar_ix, ar_sl, ar_rng, ar_comp, arOf_some, lift_some, liftB_some, asgS_one, md_own, md_shr, eT_asg, eT_par, setS_some, eT_setIx, eT_augIx, augA_some, augB_int, eT_expr, eT_ret, eT_ife, eT_pass, goOn_nx, goOn_ret, eTs_nil, eTs_cons, tru1_bl, vC_eq, ret_var, retW_some, ret_lit, ret_tup, ret_lst, ret_bin, ret_cmp, ret_chain, ret_and, ret_or, ret_not, ret_ite, ret_call, ret_b1, ret_b2, ret_meth, ret_isi, ret_ix, ret_sl, ret_comp, endFor_nx, endFor_ret, finU_sh, eT_for, vb_some, vb_none, slotAr, resA, resC, optAll, Option.map_some, Option.bind_some, List.map_cons, List.map_nil, List.getElem?_cons_zero, List.getElem?_cons_succ, List.set_cons_zero, List.set_cons_succ, bU_add, bU_sub, bU_mulr, bU_mull, bU_fdiv, bU_mod, cU_lt, cU_gt, cU_le, cU_ge, cU_eq, cU_ne, cU_nn, cU_in, cU_nnn, cU_inn, tU_bl, b1_len_t, b1_len_l, b1_len_f, b1_tup_l, b1_tup_t, b1_int_b, b1_srt, b2_maxU, b2_minU, b2_dmU, List.length_cons, List.length_nil, lockV_nil, unlockV_nil, if_true, Bool.false_eq_true, if_false, mokS_t, m2ok, eE_dnew, eE_rev, eE_sm, smS_str, eT_setD, ar_dnew, ar_rev, ar_sm, ret_rev, ret_sm, wp_some, iU_non, iU_bl, iU_int, iU_str, iU_tup, iU_lst, iU_fz, iU_dct, reduceCtorEq, decide_true, decide_false, Bool.or_true, Bool.true_or, Bool.or_false, Bool.false_or, Bool.not_true, Bool.not_false, eE_chain, chS_t, chS_f, oIntU, b1_all_map, eq_self])
variable {wf k : Nat} {c : Ce}
def pr (p : Int × Int) : U := .tup [.int p.1, .int p.2]
def prD (p : Int × Int) : PyData := .tuple [.int p.1, .int p.2]
theorem py_pr (p : Int × Int) : pyU 60 (pr p) = some (prD p) := rfl
theorem alike_pr (p q : Int × Int) : PySem.W.alike (prD p) (prD q) = true := rfl
theorem key_pr {p q : Int × Int} (h : PySem.W.keyToks (prD p) = PySem.W.keyToks (prD q)) : p = q := by
  simp only [prD, PySem.W.keyToks, PySem.W.keyToksAll, List.cons_append, List.nil_append, List.cons.injEq, and_true, true_and, Sum.inl.injEq] at h
  exact Prod.ext h.1 h.2
theorem sortable_pr (l : List (Int × Int)) : sortable (l.map prD) = true := by
  unfold sortable
  rw [Bool.or_eq_true]
  left
  rw [List.all_eq_true]
  intro d hd
  obtain ⟨p, _, rfl⟩ := List.mem_map.mp hd
  rfl
def enumF : Nat → List Int → List U
  | _, [] => []
  | i, a :: as => .tup [.int (i : Int), .int a] :: enumF (i + 1) as
theorem enumF_eq (as : List Int) : enumsU (as.map U.int) = enumF 0 as := by
  have key : ∀ (as : List Int) (i : Nat), (List.range' i as.length).zipWith (fun (i : Nat) x => U.tup [.int (i : Int), x]) (as.map U.int) = enumF i as := by
    intro as
    induction as with
    | nil => intro i; rfl
    | cons a as ih => intro i; simp only [List.length_cons, List.range'_succ, List.map_cons, List.zipWith_cons_cons, enumF, ih]
  unfold enumsU
  rw [List.length_map, List.range_eq_range']
  exact key as 0
/-- the pairs of one -/
def gB (os : List Int) (a : Int) : U → Option U
  | .int x => some (pr (a, os.getD (x.toNat % os.length) 0))
  | _ => none
theorem gB_map (os : List Int) (a : Int) (s n : Nat) : (rangeU (s : Int) n).filterMap (gB os a) = (blk os s n a).map pr := by
  unfold rangeU blk
  rw [List.map_map, List.filterMap_map]
  have : ∀ l : List Nat, l.filterMap (gB os a ∘ fun (i : Nat) => U.int ((s : Int) + (i : Int))) = l.map (pr ∘ fun t => (a, os.getD ((s + t) % os.length) 0)) := by
    intro l
    induction l with
    | nil => rfl
    | cons t l ih =>
      have e : ((s : Int) + (t : Int)).toNat = s + t := by omega
      rw [List.filterMap_cons_some (b := pr (a, os.getD ((s + t) % os.length) 0)) (by simp only [Function.comp, gB, e]), ih]
      rfl
  exact this _
theorem r2Uss {v : VEnv} {n n' : Nat} {md md' : Md} {i j : Int} (e : v[n]? = some (some (md, .int i))) (e' : v[n']? = some (some (md', .int j))) (h1 : -(2 ^ 62) ≤ i) (h2 : i < 2 ^ 62) (h3 : -(2 ^ 62) ≤ j) (h4 : j < 2 ^ 62) : rng2U v (.slot n) (.slot n') = some ⟨rangeU i (j - i).toNat, []⟩ := by
  unfold rng2U
  simp only [resA, e, e']
  exact if_pos ⟨⟨h1, h2⟩, ⟨h3, h4⟩⟩
theorem run_blk {as0 os : List Int} {o i m : U} {q r : Nat} {pl : Int} {a : Int} {s n : Nat} {ps : List U} (hm : 0 < os.length) (hm2 : os.length ≤ 1000) (hs : s + n ≤ 90000) :
    vE (vcall P wf cf k) (.comp c_dealt_beside_1 (.one 14) [14] (.r2 (.var 8) (.var 13)) .none) [some (.shr, .tup []), some (.shr, .tup []), some (.shr, IU as0), some (.shr, IU os), some (.shr, o), some (.shr, i), some (.own, .lst ps), some (.shr, m), some (.shr, .int (s : Int)), some (.shr, .int (q : Int)), some (.shr, .int (r : Int)), some (.shr, .int pl), some (.shr, .int a), some (.shr, .int ((s + n : Nat) : Int)), none] c = some ((true, .lst ((blk os s n a).map pr)), [some (.shr, .tup []), some (.shr, .tup []), some (.shr, IU as0), some (.shr, IU os), some (.shr, o), some (.shr, i), some (.own, .lst ps), some (.shr, m), some (.shr, .int (s : Int)), some (.shr, .int (q : Int)), some (.shr, .int (r : Int)), some (.shr, .int pl), some (.shr, .int a), some (.shr, .int ((s + n : Nat) : Int)), none], c) := by
  rw [← gB_map]
  have hn : (((s + n : Nat) : Int) - (s : Int)).toNat = n := by omega
  refine comp_pure (gB os a) (s := ⟨rangeU (s : Int) n, []⟩) ?_ rfl rfl rfl ?_ (by simp [rangeU]; omega)
  · rw [eI_r2]
    walk_at "vv"
    rw [r2Uss (md := .shr) (md' := .shr) (i := (s : Int)) (j := ((s + n : Nat) : Int)) rfl rfl (by omega) (by omega) (by omega) (by omega), hn]
    rfl
  · intro u hu
    unfold rangeU at hu
    obtain ⟨t, ht, rfl⟩ := List.mem_map.mp hu
    rw [List.mem_range] at ht
    refine ⟨_, rfl, ?_⟩
    have hl : (((os.map U.int).length : Nat) : Int) = (os.length : Int) := by rw [List.length_map]
    have hmod : ((s : Int) + (t : Int)) % (os.length : Int) = (((s + t) % os.length : Nat) : Int) := by simp
    have hlt := Nat.mod_lt (s + t) hm
    have e1 : atI (os.map U.int) (((s + t) % os.length : Nat) : Int) = some (.int (os.getD ((s + t) % os.length) 0)) := atU (k := (s + t) % os.length) (by rw [List.getElem?_map, List.getElem?_eq_getElem hlt, List.getD_eq_getElem?_getD, List.getElem?_eq_getElem hlt]; rfl) rfl
    have t2 : ∀ {w x : U}, newTU [w, x] = some (false, .tup [w, x]) := nTU (by simp)
    have e : ((s : Int) + (t : Int)).toNat = s + t := by omega
    unfold turnV c_dealt_beside_1 IU
    simp only [wipeV, List.set_cons_succ, List.set_cons_zero]
    wp_walk using hl, hmod, ixU_t e1, t2
    simp only [gB, e]
    rfl
/-- the loop over the ones -/
theorem deal_loop {as0 os : List Int} {o i m : U} {q r : Nat} (hm : 0 < os.length) (hm2 : os.length ≤ 1000) (hq : q ≤ 1000) (hr : r ≤ 1000) : ∀ (as : List Int) (j : Nat) (ps : List (Int × Int)) (s11 s12 s13 : Option (Md × U)), j + as.length ≤ 80 → ps.length + 1001 * as.length ≤ 90000 →
    ∃ f' s11' s12' s13', forU (forStep (vcall P wf cf k) wf (.many [11, 12]) l_dealt_beside_2) (enumF j as) [some (.shr, .tup []), some (.shr, .tup []), some (.shr, IU as0), some (.shr, IU os), some (.shr, o), some (.shr, i), some (.own, .lst (ps.map pr)), some (.shr, m), some (.shr, .int (ps.length : Int)), some (.shr, .int (q : Int)), some (.shr, .int (r : Int)), s11, s12, s13, none] c = some (.nx, [some (.shr, .tup []), some (.shr, .tup []), some (.shr, IU as0), some (.shr, IU os), some (.shr, o), some (.shr, i), some (.own, .lst ((ps ++ deal os q r j ps.length as).map pr)), some (.shr, m), some (.shr, .int f'), some (.shr, .int (q : Int)), some (.shr, .int (r : Int)), s11', s12', s13', none], c) := by
  intro as
  induction as with
  | nil => intro j ps s11 s12 s13 _ _; exact ⟨_, s11, s12, s13, by simp only [enumF, deal, List.append_nil]; rfl⟩
  | cons a as ih =>
    intro j ps s11 s12 s13 h1 h2
    simp only [List.length_cons] at h1 h2
    have hsh : share q r j ≤ 1001 := by unfold share; split <;> omega
    have hb := run_blk (wf := wf) (k := k) (c := c) (as0 := as0) (os := os) (o := o) (i := i) (m := m) (q := q) (r := r) (pl := (j : Int)) (a := a) (s := ps.length) (n := share q r j) (ps := ps.map pr) hm hm2 (by omega)
    have hme : m2U .extend [some (.shr, .tup []), some (.shr, .tup []), some (.shr, IU as0), some (.shr, IU os), some (.shr, o), some (.shr, i), some (.own, .lst (ps.map pr)), some (.shr, m), some (.shr, .int (ps.length : Int)), some (.shr, .int (q : Int)), some (.shr, .int (r : Int)), some (.shr, .int (j : Int)), some (.shr, .int a), some (.shr, .int ((ps.length + share q r j : Nat) : Int)), none] 6 (.lst ((blk os ps.length (share q r j) a).map pr)) = some (.non, [some (.shr, .tup []), some (.shr, .tup []), some (.shr, IU as0), some (.shr, IU os), some (.shr, o), some (.shr, i), some (.own, .lst ((ps ++ blk os ps.length (share q r j) a).map pr)), some (.shr, m), some (.shr, .int (ps.length : Int)), some (.shr, .int (q : Int)), some (.shr, .int (r : Int)), some (.shr, .int (j : Int)), some (.shr, .int a), some (.shr, .int ((ps.length + share q r j : Nat) : Int)), none]) := by
      have : (ps.map pr).length + ((blk os ps.length (share q r j) a).map pr).length ≤ 100000 := by simp [blk]; omega
      simp only [m2U, List.getElem?_cons_zero, List.getElem?_cons_succ, if_pos this, List.set_cons_succ, List.set_cons_zero, List.map_append]
    have st : forStep (vcall P wf cf k) wf (.many [11, 12]) l_dealt_beside_2 (.tup [.int (j : Int), .int a]) [some (.shr, .tup []), some (.shr, .tup []), some (.shr, IU as0), some (.shr, IU os), some (.shr, o), some (.shr, i), some (.own, .lst (ps.map pr)), some (.shr, m), some (.shr, .int (ps.length : Int)), some (.shr, .int (q : Int)), some (.shr, .int (r : Int)), s11, s12, s13, none] c = some (.nx, [some (.shr, .tup []), some (.shr, .tup []), some (.shr, IU as0), some (.shr, IU os), some (.shr, o), some (.shr, i), some (.own, .lst ((ps ++ blk os ps.length (share q r j) a).map pr)), some (.shr, m), some (.shr, .int ((ps.length + share q r j : Nat) : Int)), some (.shr, .int (q : Int)), some (.shr, .int (r : Int)), some (.shr, .int (j : Int)), some (.shr, .int a), some (.shr, .int ((ps.length + share q r j : Nat) : Int)), none], c) := by
      unfold forStep l_dealt_beside_2
      simp only [setU, setAllU, List.set_cons_succ, List.set_cons_zero]
      have z0 := decide_eq_false (show ¬ (j : Int) < ((0 : Nat) : Int) by omega)
      by_cases hj : j < r
      · have e : share q r j = q + 1 := by unfold share; rw [if_pos hj]
        have e' : (ps.length : Int) + (q : Int) + 1 - 0 = ((ps.length + share q r j : Nat) : Int) := by rw [e]; omega
        wp_walk using decide_eq_true (show (j : Int) < (r : Int) by omega), z0, e', hb, hme
      · have e : share q r j = q := by unfold share; rw [if_neg hj]
        have e' : (ps.length : Int) + (q : Int) + 0 - 0 = ((ps.length + share q r j : Nat) : Int) := by rw [e]; omega
        wp_walk using decide_eq_false (show ¬ (j : Int) < (r : Int) by omega), z0, e', hb, hme
    have el : (ps ++ blk os ps.length (share q r j) a).length = ps.length + share q r j := by simp [blk]
    rw [show enumF j (a :: as) = .tup [.int (j : Int), .int a] :: enumF (j + 1) as from rfl, forU_cons st]
    obtain ⟨f', s11', s12', s13', z⟩ := ih (j + 1) (ps ++ blk os ps.length (share q r j) a) (some (.shr, .int (j : Int))) (some (.shr, .int a)) (some (.shr, .int ((ps.length + share q r j : Nat) : Int))) (by omega) (by simp [blk]; omega)
    refine ⟨f', s11', s12', s13', ?_⟩
    rw [el] at z
    rw [z, List.append_assoc]
    rfl
end Lw
end
section
set_option linter.all false
set_option maxRecDepth 100000
set_option maxHeartbeats 4000000
namespace Lw
open PySem L2 Ev
local macro_rules | `(tactic| walk_at "vv") => `(tactic| simp -implicitDefEqProofs (discharger := first | omega | assumption | decide) only [eE_var, eE_int, eE_bl, eE_str, eE_non, eE_tup, eE_lst, op2_some, eE_bin, eE_b2, eE_rng, ob2_some, eE_cmp, ox2_some, eE_ix, op1_some, ob1_some, eE_b1, eE_isi, eE_not, on1_some, eE_neg, th2_t, th2_f, eE_and, eE_or, eE_ite, eE_call, methS_some, eE_meth, slS_some, eE_sl, eEs_nil, eEs_cons, eAs_nil, eAs_cons, eO_none, eO_some, eI_seq, eI_r1, eI_r2, eI_zip, eI_enum, liftS_some, ar_var, ar_lit, ar_tup, ar_lst, ar_bin, ar_neg, ar_cmp, ar_chain, ar_and, ar_or, ar_not, ar_ite, ar_call, ar_b1, ar_b2, ar_meth, ar_isi, ar_ix, ar_sl, ar_rng, ar_comp, arOf_some, lift_some, liftB_some, asgS_one, md_own, md_shr, eT_asg, eT_par, setS_some, eT_setIx, eT_augIx, augA_some, augB_int, eT_expr, eT_ret, eT_ife, eT_pass, goOn_nx, goOn_ret, eTs_nil, eTs_cons, tru1_bl, vC_eq, ret_var, retW_some, ret_lit, ret_tup, ret_lst, ret_bin, ret_cmp, ret_chain, ret_and, ret_or, ret_not, ret_ite, ret_call, ret_b1, ret_b2, ret_meth, ret_isi, ret_ix, ret_sl, ret_comp, endFor_nx, endFor_ret, finU_sh, eT_for, vb_some, vb_none, slotAr, resA, resC, optAll, Option.map_some, Option.bind_some, List.map_cons, List.map_nil, List.getElem?_cons_zero, List.getElem?_cons_succ, List.set_cons_zero, List.set_cons_succ, bU_add, bU_sub, bU_mulr, bU_mull, bU_fdiv, bU_mod, cU_lt, cU_gt, cU_le, cU_ge, cU_eq, cU_ne, cU_nn, cU_in, cU_nnn, cU_inn, tU_bl, b1_len_t, b1_len_l, b1_len_f, b1_tup_l, b1_tup_t, b1_int_b, b1_srt, b2_maxU, b2_minU, b2_dmU, List.length_cons, List.length_nil, lockV_nil, unlockV_nil, if_true, Bool.false_eq_true, if_false, mokS_t, m2ok, eE_dnew, eE_rev, eE_sm, smS_str, eT_setD, ar_dnew, ar_rev, ar_sm, ret_rev, ret_sm, wp_some, iU_non, iU_bl, iU_int, iU_str, iU_tup, iU_lst, iU_fz, iU_dct, reduceCtorEq, decide_true, decide_false, Bool.or_true, Bool.true_or, Bool.or_false, Bool.false_or, Bool.not_true, Bool.not_false, eE_chain, chS_t, chS_f, oIntU, b1_all_map, eq_self])
local macro_rules | `(tactic| wp_walk using $ts,*) => `(tactic| simp -implicitDefEqProofs (discharger := first | omega | assumption | decide) only [$[$ts:term],*, eE_var, eE_int, eE_bl, eE_str, eE_non, eE_tup, eE_lst, op2_some, eE_bin, eE_b2, eE_rng, ob2_some, eE_cmp, ox2_some, eE_ix, op1_some, ob1_some, eE_b1, eE_isi, eE_not, on1_some, eE_neg, th2_t, th2_f, eE_and, eE_or, eE_ite, eE_call, methS_some, eE_meth, slS_some, eE_sl, eEs_nil, eEs_cons, eAs_nil, eAs_cons, eO_none, eO_some, eI_seq, eI_r1, eI_r2, eI_zip, eI_enum, liftS_some, ar_var, ar_lit, ar_tup, ar_lst, ar_bin, ar_neg, ar_cmp, ar_chain, ar_and, ar_or, ar_not, ar_ite, ar_call, ar_b1, ar_b2, ar_meth, ar_isi, ar_ix, ar_sl, ar_rng, ar_comp, arOf_some, lift_some, liftB_some, asgS_one, md_own, md_shr, eT_asg, eT_par, setS_some, eT_setIx, eT_augIx, augA_some, augB_int, eT_expr, eT_ret, eT_ife, eT_pass, goOn_nx, goOn_ret, eTs_nil, eTs_cons, tru1_bl, vC_eq, ret_var, retW_some, ret_lit, ret_tup, ret_lst, ret_bin, ret_cmp, ret_chain, ret_and, ret_or, ret_not, ret_ite, ret_call, ret_b1, ret_b2, ret_meth, ret_isi, ret_ix, ret_sl, ret_comp, endFor_nx, endFor_ret, finU_sh, eT_for, vb_some, vb_none, slotAr, resA, resC, optAll, Option.map_some, Option.bind_some, List.map_cons, List.map_nil, List.getElem?_cons_zero, List.getElem?_cons_succ, List.set_cons_zero, List.set_cons_succ, bU_add, bU_sub, bU_mulr, bU_mull, bU_fdiv, bU_mod, cU_lt, cU_gt, cU_le, cU_ge, cU_eq, cU_ne, cU_nn, cU_in, cU_nnn, cU_inn, tU_bl, b1_len_t, b1_len_l, b1_len_f, b1_tup_l, b1_tup_t, b1_int_b, b1_srt, b2_maxU, b2_minU, b2_dmU, List.length_cons, List.length_nil, lockV_nil, unlockV_nil, if_true, Bool.false_eq_true, if_false, mokS_t, m2ok, eE_dnew, eE_rev, eE_sm, smS_str, eT_setD, ar_dnew, ar_rev, ar_sm, ret_rev, ret_sm, wp_some, iU_non, iU_bl, iU_int, iU_str, iU_tup, iU_lst, iU_fz, iU_dct, reduceCtorEq, decide_true, decide_false, Bool.or_true, Bool.true_or, Bool.or_false, Bool.false_or, Bool.not_true, Bool.not_false, eE_chain, chS_t, chS_f, oIntU, b1_all_map, eq_self])
variable {wf k : Nat} {c : Ce}
structure GoodP (as os : List Int) (ol il : Nat) (oh ih : Option Nat) (N : Nat) (ws : List (Int × Int)) : Prop where
  m1 : ∀ p ∈ ws, p.1 ∈ as
  m2 : ∀ p ∈ ws, p.2 ∈ os
  len : ws.length = N
  o : ∀ a ∈ as, InFan (cntF ws a) ol oh
  i : ∀ b ∈ os, InFan (cntS ws b) il ih
  inc : ws.Pairwise fun p q => PySem.W.dataLt (prD p) (prD q) = true
theorem natDiv {p q : Nat} : (p : Int) / (q : Int) = ((p / q : Nat) : Int) := by simp
theorem natMod {p q : Nat} : (p : Int) % (q : Int) = ((p % q : Nat) : Int) := by simp
theorem run_beside0 {as os : List Int} {o i : U} (z : as.length = 0 ∨ os.length = 0) : vcall P wf cf (k + 1) i_dealt_beside [(.shr, .tup []), (.shr, .tup []), (.shr, IU as), (.shr, IU os), (.shr, o), (.shr, i)] c = some ((true, .lst []), c) := by
  have l1 : (((as.map U.int).length : Nat) : Int) = (as.length : Int) := by rw [List.length_map]
  have l2 : (((os.map U.int).length : Nat) : Int) = (os.length : Int) := by rw [List.length_map]
  unfold IU
  rw [vcall_fin (b := b_dealt_beside) (ρ := [some (.shr, .tup []), some (.shr, .tup []), some (.shr, .tup (as.map U.int)), some (.shr, .tup (os.map U.int)), some (.shr, o), some (.shr, i), none, none, none, none, none, none, none, none, none]) rfl rfl rfl rfl, b_dealt_beside]
  by_cases z1 : as.length = 0
  · wp_walk using l1, l2, nL0, show ((as.length : Int) == 0) = true by simpa using z1
    exact finU_fr rfl
  · have z2 : os.length = 0 := by omega
    wp_walk using l1, l2, nL0, show ((as.length : Int) == 0) = false by simpa using z1, show ((os.length : Int) == 0) = true by simpa using z2
    exact finU_fr rfl
theorem run_beside {as os : List Int} {ol il : Nat} {oh ih : Option Nat} {N : Nat} (h1 : as.length ≤ 70) (h2 : os.length ≤ 70) (hn : 0 < as.length) (hm : 0 < os.length) (hol : ol ≤ 4) (hil : il ≤ 4) (hN : N = max (ol * as.length) (il * os.length)) (hNs : N ≤ 4900) (hq : N / as.length ≤ 1000) (hr : N % as.length ≤ 1000) :
    vcall P wf cf (k + 1) i_dealt_beside [(.shr, .tup []), (.shr, .tup []), (.shr, IU as), (.shr, IU os), (.shr, fanU ol oh), (.shr, fanU il ih)] c = some ((true, .lst ((deal os (N / as.length) (N % as.length) 0 0 as).map pr)), c) := by
  have l1 : (((as.map U.int).length : Nat) : Int) = (as.length : Int) := by rw [List.length_map]
  have l2 : (((os.map U.int).length : Nat) : Int) = (os.length : Int) := by rw [List.length_map]
  have hmx : (if ((il * os.length : Nat) : Int) + ((0 : Nat) : Int) > ((ol * as.length : Nat) : Int) + ((0 : Nat) : Int) then ((il * os.length : Nat) : Int) + ((0 : Nat) : Int) else ((ol * as.length : Nat) : Int) + ((0 : Nat) : Int)) = (N : Int) := by rw [hN]; simp only [Int.natCast_zero, Int.add_zero]; exact max_int
  obtain ⟨f', s11, s12, s13, lp⟩ := deal_loop (wf := wf) (k := k) (c := c) (as0 := as) (os := os) (o := fanU ol oh) (i := fanU il ih) (m := .int (N : Int)) (q := N / as.length) (r := N % as.length) hm (by omega) hq hr as 0 [] none none none (by omega) (by simp; omega)
  unfold IU fanU at lp ⊢
  have lp' : forU (forStep (vcall P wf cf k) wf (.many [11, 12]) l_dealt_beside_2) (enumF 0 as) [some (.shr, .tup []), some (.shr, .tup []), some (.shr, .tup (as.map U.int)), some (.shr, .tup (os.map U.int)), some (.shr, .tup [.int ol, oU oh]), some (.shr, .tup [.int il, oU ih]), some (.own, .lst []), some (.shr, .int (N : Int)), some (.shr, .int ((0 : Nat) : Int)), some (.shr, .int ((N / as.length : Nat) : Int)), some (.shr, .int ((N % as.length : Nat) : Int)), none, none, none, none] c = _ := lp
  have i0 : ∀ {x y : U}, ixU c (.tup [x, y]) (.int 0) = some x := ixU_t at0
  have lz1 : b2U .lzip (.tup []) (.tup (os.map U.int)) = some (true, .lst []) := b2_lz rfl
  have lz2 : b2U .lzip (.tup (as.map U.int)) (.tup []) = some (true, .lst []) := b2_lz (by simp)
  have ad : binU .Add (.lst []) (.lst []) = some (true, .lst []) := rfl
  have dm : b2U .divmod (.int ((N : Int) - ((0 : Nat) : Int))) (.int (as.length : Int)) = some (false, .tup [.int ((N / as.length : Nat) : Int), .int ((N % as.length : Nat) : Int)]) := by
    rw [b2_dmU (by omega)]
    simp only [Int.natCast_zero, Int.sub_zero, natDiv, natMod]
  rw [vcall_fin (b := b_dealt_beside) (ρ := [some (.shr, .tup []), some (.shr, .tup []), some (.shr, .tup (as.map U.int)), some (.shr, .tup (os.map U.int)), some (.shr, .tup [.int ol, oU oh]), some (.shr, .tup [.int il, oU ih]), none, none, none, none, none, none, none, none, none]) rfl rfl rfl rfl, b_dealt_beside]
  wp_walk using l1, l2, i0, mulI, lz1, lz2, ad, dm, asgS, setU, setAllU, hmx, show ((as.length : Int) == 0) = false by simpa using (show as.length ≠ 0 by omega), show ((os.length : Int) == 0) = false by simpa using (show os.length ≠ 0 by omega)
  rw [eU_tup (md := .shr) (us := as.map U.int) rfl]
  wp_walk using enumF_eq as
  rw [lock_shr1 (u := .tup (as.map U.int)) rfl, lp']
  walk_at "vv"
  rw [unlock_shr1 (u := .tup (as.map U.int)) rfl]
  wp_walk using List.nil_append, List.length_nil
  exact finU_fr rfl
theorem run_dealt {as os : List Int} {ol il : Nat} {oh ih : Option Nat} (ha : as.Nodup) (ho : os.Nodup) (h1 : as.length ≤ 70) (h2 : os.length ≤ 70) (fo : FanOk ol oh) (fi : FanOk il ih) (h : Fits as.length os.length ol il oh ih (max (ol * as.length) (il * os.length))) :
    ∃ ws, vcall P wf cf (k + 2) i_dealt [(.shr, IU as), (.shr, IU os), (.shr, fanU ol oh), (.shr, fanU il ih)] c = some ((false, .tup (ws.map pr)), c) ∧ GoodP as os ol il oh ih (max (ol * as.length) (il * os.length)) ws := by
  have l1 : (((as.map U.int).length : Nat) : Int) = (as.length : Int) := by rw [List.length_map]
  have l2 : (((os.map U.int).length : Nat) : Int) = (os.length : Int) := by rw [List.length_map]
  have t0 : newTU [] = some (false, .tup []) := rfl
  have zero : (as.length = 0 ∨ os.length = 0) → GoodP as os ol il oh ih (max (ol * as.length) (il * os.length)) [] := fun z => by
    have hle := h.le
    have hN : max (ol * as.length) (il * os.length) = 0 := by
      rcases z with z | z
      · rw [z] at hle ⊢; omega
      · rw [z] at hle ⊢; omega
    have ho' : ol * as.length = 0 := by omega
    have hi' : il * os.length = 0 := by omega
    refine ⟨fun p hp => (by cases hp), fun p hp => (by cases hp), hN.symm, fun a ha' => ⟨?_, fun _ _ => Nat.zero_le _⟩, fun b hb => ⟨?_, fun _ _ => Nat.zero_le _⟩, .nil⟩
    · have : 0 < as.length := List.length_pos_of_mem ha'
      rcases Nat.mul_eq_zero.mp ho' with w | w
      · rw [w]; exact Nat.zero_le _
      · omega
    · have : 0 < os.length := List.length_pos_of_mem hb
      rcases Nat.mul_eq_zero.mp hi' with w | w
      · rw [w]; exact Nat.zero_le _
      · omega
  by_cases z1 : as.length = 0 ∨ os.length = 0
  · refine ⟨[], ?_, zero z1⟩
    have e := run_beside0 (wf := wf) (k := k) (c := c) (o := fanU ol oh) (i := fanU il ih) z1
    rw [vcall_fin (b := b_dealt) (ρ := [some (.shr, IU as), some (.shr, IU os), some (.shr, fanU ol oh), some (.shr, fanU il ih)]) rfl rfl rfl rfl, b_dealt]
    wp_walk using t0, callS_some e, show sortU [] = some (true, .lst []) from by (unfold sortU; simp [sortable]; rfl)
  · obtain ⟨N, hN⟩ : ∃ N, N = max (ol * as.length) (il * os.length) := ⟨_, rfl⟩
    rw [← hN] at h ⊢
    have hn : 0 < as.length := by omega
    have hm : 0 < os.length := by omega
    obtain ⟨g1, g2, g3, g4⟩ := deal_right ha ho hn hm h
    have hNs : N ≤ 4900 := by
      have := h.le
      have : as.length * os.length ≤ 70 * 70 := Nat.mul_le_mul h1 h2
      omega
    obtain ⟨ws, w1, w2, w3⟩ := sortU_gen (f := pr) (e := prD) (fun b _ => py_pr b) (fun a _ => rfl) (fun a _ b _ => alike_pr a b) (sortable_pr _) (fun a b => key_pr) g1 (by rw [g2]; omega)
    refine ⟨ws, ?_, ⟨fun p hp => deal_fst os _ _ as 0 0 p (w1.mem_iff.mp hp), fun p hp => deal_mem hm _ _ as 0 0 p (w1.mem_iff.mp hp), (by rw [w1.length_eq, g2]), fun a ha2 => (by rw [cntF_perm w1]; exact g3 a ha2), fun b hb => (by rw [cntS_perm w1]; exact g4 b hb), w2⟩⟩
    have hq : N / as.length ≤ 1000 := by
      have := share_le (q := N / as.length) (r := N % as.length) hn rfl rfl (show N ≤ os.length * as.length by rw [Nat.mul_comm]; exact h.le) (N % as.length)
      unfold share at this
      rw [if_neg (by omega)] at this
      omega
    have hr : N % as.length ≤ 1000 := by have := Nat.mod_lt N hn; omega
    have e := run_beside (wf := wf) (k := k) (c := c) (oh := oh) (ih := ih) h1 h2 hn hm fo.1 fi.1 hN hNs hq hr
    rw [vcall_fin (b := b_dealt) (ρ := [some (.shr, IU as), some (.shr, IU os), some (.shr, fanU ol oh), some (.shr, fanU il ih)]) rfl rfl rfl rfl, b_dealt]
    wp_walk using t0, callS_some e, w3
end Lw
end
section
set_option linter.all false
set_option maxRecDepth 100000
set_option maxHeartbeats 4000000
namespace Lw
open PySem L2 Ev
local macro_rules | `(tactic| walk_at "vv") => `(tactic| simp -implicitDefEqProofs (discharger := first | omega | assumption | decide) only [eE_var, eE_int, eE_bl, eE_str, eE_non, eE_tup, eE_lst, op2_some, eE_bin, eE_b2, eE_rng, ob2_some, eE_cmp, ox2_some, eE_ix, op1_some, ob1_some, eE_b1, eE_isi, eE_not, on1_some, eE_neg, th2_t, th2_f, eE_and, eE_or, eE_ite, eE_call, methS_some, eE_meth, slS_some, eE_sl, eEs_nil, eEs_cons, eAs_nil, eAs_cons, eO_none, eO_some, eI_seq, eI_r1, eI_r2, eI_zip, eI_enum, liftS_some, ar_var, ar_lit, ar_tup, ar_lst, ar_bin, ar_neg, ar_cmp, ar_chain, ar_and, ar_or, ar_not, ar_ite, ar_call, ar_b1, ar_b2, ar_meth, ar_isi, ar_ix, ar_sl, ar_rng, ar_comp, arOf_some, lift_some, liftB_some, asgS_one, md_own, md_shr, eT_asg, eT_par, setS_some, eT_setIx, eT_augIx, augA_some, augB_int, eT_expr, eT_ret, eT_ife, eT_pass, goOn_nx, goOn_ret, eTs_nil, eTs_cons, tru1_bl, vC_eq, ret_var, retW_some, ret_lit, ret_tup, ret_lst, ret_bin, ret_cmp, ret_chain, ret_and, ret_or, ret_not, ret_ite, ret_call, ret_b1, ret_b2, ret_meth, ret_isi, ret_ix, ret_sl, ret_comp, endFor_nx, endFor_ret, finU_sh, eT_for, vb_some, vb_none, slotAr, resA, resC, optAll, Option.map_some, Option.bind_some, List.map_cons, List.map_nil, List.getElem?_cons_zero, List.getElem?_cons_succ, List.set_cons_zero, List.set_cons_succ, bU_add, bU_sub, bU_mulr, bU_mull, bU_fdiv, bU_mod, cU_lt, cU_gt, cU_le, cU_ge, cU_eq, cU_ne, cU_nn, cU_in, cU_nnn, cU_inn, tU_bl, b1_len_t, b1_len_l, b1_len_f, b1_tup_l, b1_tup_t, b1_int_b, b1_srt, b2_maxU, b2_minU, b2_dmU, List.length_cons, List.length_nil, lockV_nil, unlockV_nil, if_true, Bool.false_eq_true, if_false, mokS_t, m2ok, eE_dnew, eE_rev, eE_sm, smS_str, eT_setD, ar_dnew, ar_rev, ar_sm, ret_rev, ret_sm, wp_some, iU_non, iU_bl, iU_int, iU_str, iU_tup, iU_lst, iU_fz, iU_dct, reduceCtorEq, decide_true, decide_false, Bool.or_true, Bool.true_or, Bool.or_false, Bool.false_or, Bool.not_true, Bool.not_false, eE_chain, chS_t, chS_f, oIntU, b1_all_map, eq_self])
local macro_rules | `(tactic| wp_walk using $ts,*) => `(tactic| simp -implicitDefEqProofs (discharger := first | omega | assumption | decide) only [$[$ts:term],*, eE_var, eE_int, eE_bl, eE_str, eE_non, eE_tup, eE_lst, op2_some, eE_bin, eE_b2, eE_rng, ob2_some, eE_cmp, ox2_some, eE_ix, op1_some, ob1_some, eE_b1, eE_isi, eE_not, on1_some, eE_neg, th2_t, th2_f, eE_and, eE_or, eE_ite, eE_call, methS_some, eE_meth, slS_some, eE_sl, eEs_nil, eEs_cons, eAs_nil, eAs_cons, eO_none, eO_some, eI_seq, eI_r1, eI_r2, eI_zip, eI_enum, liftS_some, ar_var, ar_lit, ar_tup, ar_lst, ar_bin, ar_neg, ar_cmp, ar_chain, ar_and, ar_or, ar_not, ar_ite, ar_call, ar_b1, ar_b2, ar_meth, ar_isi, ar_ix, ar_sl, ar_rng, ar_comp, arOf_some, lift_some, liftB_some, asgS_one, md_own, md_shr, eT_asg, eT_par, setS_some, eT_setIx, eT_augIx, augA_some, augB_int, eT_expr, eT_ret, eT_ife, eT_pass, goOn_nx, goOn_ret, eTs_nil, eTs_cons, tru1_bl, vC_eq, ret_var, retW_some, ret_lit, ret_tup, ret_lst, ret_bin, ret_cmp, ret_chain, ret_and, ret_or, ret_not, ret_ite, ret_call, ret_b1, ret_b2, ret_meth, ret_isi, ret_ix, ret_sl, ret_comp, endFor_nx, endFor_ret, finU_sh, eT_for, vb_some, vb_none, slotAr, resA, resC, optAll, Option.map_some, Option.bind_some, List.map_cons, List.map_nil, List.getElem?_cons_zero, List.getElem?_cons_succ, List.set_cons_zero, List.set_cons_succ, bU_add, bU_sub, bU_mulr, bU_mull, bU_fdiv, bU_mod, cU_lt, cU_gt, cU_le, cU_ge, cU_eq, cU_ne, cU_nn, cU_in, cU_nnn, cU_inn, tU_bl, b1_len_t, b1_len_l, b1_len_f, b1_tup_l, b1_tup_t, b1_int_b, b1_srt, b2_maxU, b2_minU, b2_dmU, List.length_cons, List.length_nil, lockV_nil, unlockV_nil, if_true, Bool.false_eq_true, if_false, mokS_t, m2ok, eE_dnew, eE_rev, eE_sm, smS_str, eT_setD, ar_dnew, ar_rev, ar_sm, ret_rev, ret_sm, wp_some, iU_non, iU_bl, iU_int, iU_str, iU_tup, iU_lst, iU_fz, iU_dct, reduceCtorEq, decide_true, decide_false, Bool.or_true, Bool.true_or, Bool.or_false, Bool.false_or, Bool.not_true, Bool.not_false, eE_chain, chS_t, chS_f, oIntU, b1_all_map, eq_self])
variable {wf k : Nat} {c : Ce}
theorem comp_none {cl : Nat → List (Md × U) → Ce → Option (W × Ce)} {elt : E} {tg : Tg} {own : List Nat} {it : I} {cond : Eo} {v : VEnv} {c : Ce} {s : SrcU} {vw : VEnv} (hI : vI cl it v c = some (s, v, c)) (hf : own.all (free1 (lockV v s.locks)) = true) (hs : (tgS tg).all (own.contains ·) = true) (hw : wipeV (lockV v s.locks) own = vw)
    (ht : ∀ u, u ∈ s.items → ∃ v2, setU tg u vw = some v2 ∧ turnV cl elt cond v2 c = some (none, v2, c)) (hl : s.items.length ≤ 100000) :
    vE cl (.comp elt tg own it cond) v c = some ((true, .lst []), v, c) := by
  have := comp_pure (fun _ => none) hI hf hs hw ht hl
  rw [this]
  simp
theorem cU_nil : cmpU .NotEq (.lst []) (.lst []) = some false := by simp [cmpU, Ev.eqU, pyU, optAll, PyData.eqv, PyData.eqvAll, PyData.canLay0, PyData.canLayAll0]
theorem cU_ltp {p q : Int × Int} (h : PySem.W.dataLt (prD p) (prD q) = true) : cmpU .Lt (pr p) (pr q) = some true := by
  show ltU (pr p) (pr q) = some true
  unfold ltU pr
  simp only [show pyU 60 (.tup [.int p.1, .int p.2]) = some (prD p) from rfl, show pyU 60 (.tup [.int q.1, .int q.2]) = some (prD q) from rfl]
  rw [if_pos ⟨alike_pr p q, by unfold prD; simp, rfl, rfl⟩, h]
theorem py_ints (as : List Int) : pyU 60 (IU as) = some (.tuple (as.map PyData.int)) := by
  have : optAll ((as.map U.int).map (pyU 59)) = some (as.map PyData.int) := by
    rw [List.map_map]
    induction as with
    | nil => rfl
    | cons a as ih => rw [List.map_cons, List.map_cons]; show (optAll _).map _ = _; rw [ih]; rfl
  show (optAll ((as.map U.int).map (pyU 59))).map _ = _
  rw [this]; rfl
theorem lay_ints : ∀ as : List Int, PyData.canLayAll0 (as.map PyData.int) = true
  | [] => rfl
  | a :: as => by rw [List.map_cons, PyData.canLayAll0, lay_ints as]; rfl
theorem cU_in' {as : List Int} {x : Int} (h : x ∈ as) : cmpU .NotIn (.int x) (IU as) = some false := by
  have e : (as.map PyData.int).any (fun z => PyData.eqv z (.int x)) = true := by
    rw [List.any_eq_true]
    exact ⟨.int x, List.mem_map_of_mem h, by simp [PyData.eqv]⟩
  show (inU (.int x) (IU as)).map (!·) = some false
  have : inU (.int x) (IU as) = some true := by
    unfold inU
    have h2 := py_ints as
    unfold IU at h2 ⊢
    simp only [show pyU 60 (.int x) = some (.int x) from rfl, h2, e]
    rw [if_pos (lay_ints as)]
  rw [this]; rfl
theorem run_infan {n lo : Nat} {hi : Option Nat} (h : InFan n lo hi) : vcall P wf cf (k + 1) i__law_in_fan [(.shr, .int (n : Int)), (.shr, fanU lo hi)] c = some ((false, .bl true), c) := by
  have i0 : ∀ {x y : U}, ixU c (.tup [x, y]) (.int 0) = some x := ixU_t at0
  have i1 : ∀ {x y : U}, ixU c (.tup [x, y]) (.int 1) = some y := ixU_t at1
  have h1 := h.1
  cases hi with
  | none =>
    unfold fanU oU
    rw [vcall_fin (b := b__law_in_fan) (ρ := [some (.shr, .int (n : Int)), some (.shr, .tup [.int lo, .non])]) rfl rfl rfl rfl, b__law_in_fan]
    wp_walk using i0, i1, decide_eq_true (show (lo : Int) ≤ (n : Int) by omega)
  | some g =>
    have h2 := h.2 g rfl
    unfold fanU oU
    rw [vcall_fin (b := b__law_in_fan) (ρ := [some (.shr, .int (n : Int)), some (.shr, .tup [.int lo, .int g])]) rfl rfl rfl rfl, b__law_in_fan]
    wp_walk using i0, i1, decide_eq_true (show (lo : Int) ≤ (n : Int) by omega), decide_eq_true (show (n : Int) ≤ (g : Int) by omega)
def gF (a : Int) : U → Option U
  | .tup [.int x, _] => if x == a then some (.int 1) else none
  | _ => none
def gS (a : Int) : U → Option U
  | .tup [_, .int x] => if x == a then some (.int 1) else none
  | _ => none
theorem gF_len (ws : List (Int × Int)) (a : Int) : ((ws.map pr).filterMap (gF a)).length = cntF ws a := by
  induction ws with
  | nil => rfl
  | cons p ws ih =>
    unfold cntF at ih ⊢
    rw [List.map_cons, List.filter_cons]
    by_cases h : (p.1 == a) = true
    · rw [List.filterMap_cons_some (b := U.int 1) (by simp only [pr, gF, h, if_true]), if_pos h]
      rw [List.length_cons, List.length_cons, ih]
    · rw [List.filterMap_cons_none (by simp only [pr, gF]; rw [if_neg h]), if_neg h, ih]
theorem gS_len (ws : List (Int × Int)) (a : Int) : ((ws.map pr).filterMap (gS a)).length = cntS ws a := by
  induction ws with
  | nil => rfl
  | cons p ws ih =>
    unfold cntS at ih ⊢
    rw [List.map_cons, List.filter_cons]
    by_cases h : (p.2 == a) = true
    · rw [List.filterMap_cons_some (b := U.int 1) (by simp only [pr, gS, h, if_true]), if_pos h]
      rw [List.length_cons, List.length_cons, ih]
    · rw [List.filterMap_cons_none (by simp only [pr, gS]; rw [if_neg h]), if_neg h, ih]
theorem run_right {as os : List Int} {ol il : Nat} {oh ih : Option Nat} {ws : List (Int × Int)} (h1 : as.length ≤ 70) (h2 : os.length ≤ 70) (fo : FanOk ol oh) (fi : FanOk il ih) (hw : ws.length ≤ 5000) (g : GoodP as os ol il oh ih (max (ol * as.length) (il * os.length)) ws) :
    vcall P wf cf (k + 2) i__law_right [(.shr, IU as), (.shr, IU os), (.shr, fanU ol oh), (.shr, fanU il ih), (.shr, .tup (ws.map pr))] c = some ((false, .bl true), c) := by
  have t0 : newTU [] = some (false, .tup []) := rfl
  have n0 : newLU [] = some (true, .lst []) := rfl
  have lw : (((ws.map pr).length : Nat) : Int) = (ws.length : Int) := by rw [List.length_map]
  obtain ⟨v, hv⟩ : ∃ v : VEnv, v = [some (.shr, IU as), some (.shr, IU os), some (.shr, fanU ol oh), some (.shr, fanU il ih), some (.shr, .tup (ws.map pr)), none, none, none, none, none] := ⟨_, rfl⟩
  have cA : vE (vcall P wf cf (k + 1)) (.comp c__law_right_14 (.one 7) [7] (.seq (.var 4)) q__law_right_13) v c = some ((true, .lst []), v, c) := by
    subst hv
    refine comp_none (s := ⟨ws.map pr, [4]⟩) (by rw [eI_seq]; walk_at "vv"; rw [sU_tup (md := .shr) (us := ws.map pr) rfl]; rfl) rfl rfl rfl (fun u hu => ?_) (by simp; omega)
    obtain ⟨p, _, rfl⟩ := List.mem_map.mp hu
    refine ⟨_, rfl, ?_⟩
    unfold turnV q__law_right_13 c__law_right_14 pr
    wp_walk using show isiU (.tup [.int p.1, .int p.2]) .tuple = some true from rfl, Bool.not_true
    rfl
  have cB : vE (vcall P wf cf (k + 1)) (.comp c__law_right_12 (.one 5) [5] (.r2 (.lit (.int 1)) (.b1 .len (.var 4))) q__law_right_11) v c = some ((true, .lst []), v, c) := by
    subst hv
    refine comp_none (s := ⟨rangeU 1 (((ws.length : Int) - 1).toNat), []⟩) (by rw [eI_r2]; wp_walk using lw; rw [r2U (by omega) (by omega) (by omega) (by omega)]; rfl) rfl rfl rfl (fun u hu => ?_) (by simp [rangeU]; omega)
    unfold rangeU at hu
    obtain ⟨t, ht, rfl⟩ := List.mem_map.mp hu
    rw [List.mem_range] at ht
    have l1 : t < ws.length := by omega
    have l2 : t + 1 < ws.length := by omega
    have a1 : atI (ws.map pr) ((1 : Int) + (t : Int) - 1) = some (pr (ws[t]'l1)) := atU (k := t) (by rw [List.getElem?_map, List.getElem?_eq_getElem l1]; rfl) (by omega)
    have a2 : atI (ws.map pr) ((1 : Int) + (t : Int)) = some (pr (ws[t + 1]'l2)) := atU (k := t + 1) (by rw [List.getElem?_map, List.getElem?_eq_getElem l2]; rfl) (by omega)
    have a3 := cU_ltp (List.pairwise_iff_getElem.mp g.inc t (t + 1) l1 l2 (by omega))
    refine ⟨[some (.shr, IU as), some (.shr, IU os), some (.shr, fanU ol oh), some (.shr, fanU il ih), some (.shr, .tup (ws.map pr)), some (.shr, .int ((1 : Int) + (t : Int))), none, none, none, none], rfl, ?_⟩
    unfold turnV q__law_right_11 c__law_right_12
    wp_walk using ixU_t a1, ixU_t a2, a3, Bool.not_true
  have cC : vE (vcall P wf cf (k + 1)) (.comp c__law_right_10 (.many [8, 9]) [8, 9] (.seq (.var 4)) q__law_right_9) v c = some ((true, .lst []), v, c) := by
    subst hv
    refine comp_none (s := ⟨ws.map pr, [4]⟩) (by rw [eI_seq]; walk_at "vv"; rw [sU_tup (md := .shr) (us := ws.map pr) rfl]; rfl) rfl rfl rfl (fun u hu => ?_) (by simp; omega)
    obtain ⟨p, hp, rfl⟩ := List.mem_map.mp hu
    refine ⟨[some (.shr, IU as), some (.shr, IU os), some (.shr, fanU ol oh), some (.shr, fanU il ih), some (.shr, .tup (ws.map pr)), none, none, none, some (.shr, .int p.1), some (.shr, .int p.2)], rfl, ?_⟩
    unfold turnV q__law_right_9 c__law_right_10
    wp_walk using cU_in' (g.m1 p hp), cU_in' (g.m2 p hp)
  have cD : vE (vcall P wf cf (k + 1)) (.comp c__law_right_8 (.one 6) [6] (.seq (.var 0)) q__law_right_7) v c = some ((true, .lst []), v, c) := by
    subst hv
    refine comp_none (s := ⟨as.map U.int, [0]⟩) (by rw [eI_seq]; walk_at "vv"; rw [sU_tup (md := .shr) (us := as.map U.int) rfl]; rfl) rfl rfl rfl (fun u hu => ?_) (by simp; omega)
    obtain ⟨a, ha, rfl⟩ := List.mem_map.mp hu
    refine ⟨[some (.shr, IU as), some (.shr, IU os), some (.shr, fanU ol oh), some (.shr, fanU il ih), some (.shr, .tup (ws.map pr)), none, some (.shr, .int a), none, none, none], rfl, ?_⟩
    have inner : vE (vcall P wf cf (k + 1)) (.comp c__law_right_6 (.many [8, 9]) [8, 9] (.seq (.var 4)) q__law_right_5) [some (.shr, IU as), some (.shr, IU os), some (.shr, fanU ol oh), some (.shr, fanU il ih), some (.shr, .tup (ws.map pr)), none, some (.shr, .int a), none, none, none] c = some ((true, .lst ((ws.map pr).filterMap (gF a))), [some (.shr, IU as), some (.shr, IU os), some (.shr, fanU ol oh), some (.shr, fanU il ih), some (.shr, .tup (ws.map pr)), none, some (.shr, .int a), none, none, none], c) := by
      refine comp_pure (gF a) (s := ⟨ws.map pr, [4]⟩) (by rw [eI_seq]; walk_at "vv"; rw [sU_tup (md := .shr) (us := ws.map pr) rfl]; rfl) rfl rfl rfl (fun u hu => ?_) (by simp; omega)
      obtain ⟨p, hp, rfl⟩ := List.mem_map.mp hu
      refine ⟨[some (.shr, IU as), some (.shr, IU os), some (.shr, fanU ol oh), some (.shr, fanU il ih), some (.shr, .tup (ws.map pr)), none, some (.shr, .int a), none, some (.shr, .int p.1), some (.shr, .int p.2)], rfl, ?_⟩
      unfold turnV q__law_right_5 c__law_right_6
      walk_at "vv"
      cases hb : (p.1 == a)
      · simp only [pr, gF, hb, Bool.false_eq_true, if_false]
      · simp only [pr, gF, hb, if_true, vb_some]
    have rf := run_infan (wf := wf) (k := k) (c := c) (g.o a ha)
    have ll : ((((ws.map pr).filterMap (gF a)).length : Nat) : Int) = ((cntF ws a : Nat) : Int) := by rw [gF_len]
    unfold turnV q__law_right_7 c__law_right_8
    wp_walk using inner, ll, callS_some rf, Bool.not_true
  have cE : vE (vcall P wf cf (k + 1)) (.comp c__law_right_4 (.one 6) [6] (.seq (.var 1)) q__law_right_3) v c = some ((true, .lst []), v, c) := by
    subst hv
    refine comp_none (s := ⟨os.map U.int, [1]⟩) (by rw [eI_seq]; walk_at "vv"; rw [sU_tup (md := .shr) (us := os.map U.int) rfl]; rfl) rfl rfl rfl (fun u hu => ?_) (by simp; omega)
    obtain ⟨a, ha, rfl⟩ := List.mem_map.mp hu
    refine ⟨[some (.shr, IU as), some (.shr, IU os), some (.shr, fanU ol oh), some (.shr, fanU il ih), some (.shr, .tup (ws.map pr)), none, some (.shr, .int a), none, none, none], rfl, ?_⟩
    have inner : vE (vcall P wf cf (k + 1)) (.comp c__law_right_2 (.many [8, 9]) [8, 9] (.seq (.var 4)) q__law_right_1) [some (.shr, IU as), some (.shr, IU os), some (.shr, fanU ol oh), some (.shr, fanU il ih), some (.shr, .tup (ws.map pr)), none, some (.shr, .int a), none, none, none] c = some ((true, .lst ((ws.map pr).filterMap (gS a))), [some (.shr, IU as), some (.shr, IU os), some (.shr, fanU ol oh), some (.shr, fanU il ih), some (.shr, .tup (ws.map pr)), none, some (.shr, .int a), none, none, none], c) := by
      refine comp_pure (gS a) (s := ⟨ws.map pr, [4]⟩) (by rw [eI_seq]; walk_at "vv"; rw [sU_tup (md := .shr) (us := ws.map pr) rfl]; rfl) rfl rfl rfl (fun u hu => ?_) (by simp; omega)
      obtain ⟨p, hp, rfl⟩ := List.mem_map.mp hu
      refine ⟨[some (.shr, IU as), some (.shr, IU os), some (.shr, fanU ol oh), some (.shr, fanU il ih), some (.shr, .tup (ws.map pr)), none, some (.shr, .int a), none, some (.shr, .int p.1), some (.shr, .int p.2)], rfl, ?_⟩
      unfold turnV q__law_right_1 c__law_right_2
      walk_at "vv"
      cases hb : (p.2 == a)
      · simp only [pr, gS, hb, Bool.false_eq_true, if_false]
      · simp only [pr, gS, hb, if_true, vb_some]
    have rf := run_infan (wf := wf) (k := k) (c := c) (g.i a ha)
    have ll : ((((ws.map pr).filterMap (gS a)).length : Nat) : Int) = ((cntS ws a : Nat) : Int) := by rw [gS_len]
    unfold turnV q__law_right_3 c__law_right_4
    wp_walk using inner, ll, callS_some rf, Bool.not_true
  have l1 : (((as.map U.int).length : Nat) : Int) = (as.length : Int) := by rw [List.length_map]
  have l2 : (((os.map U.int).length : Nat) : Int) = (os.length : Int) := by rw [List.length_map]
  obtain ⟨N, hN⟩ : ∃ N, N = max (ol * as.length) (il * os.length) := ⟨_, rfl⟩
  have hmx : (if ((il * os.length : Nat) : Int) > ((ol * as.length : Nat) : Int) then ((il * os.length : Nat) : Int) else ((ol * as.length : Nat) : Int)) = (N : Int) := by rw [hN]; exact max_int
  have hlen := g.len
  rw [← hN] at hlen
  have i0 : ∀ {x y : U}, ixU c (.tup [x, y]) (.int 0) = some x := ixU_t at0
  subst hv
  rw [vcall_fin (b := b__law_right) (ρ := [some (.shr, IU as), some (.shr, IU os), some (.shr, fanU ol oh), some (.shr, fanU il ih), some (.shr, .tup (ws.map pr)), none, none, none, none, none]) rfl rfl rfl rfl, b__law_right]
  wp_walk using cA, cB, cC, cD, cE, n0, cU_nil, show isiU (.tup (ws.map pr)) .tuple = some true from rfl, Bool.not_true
  unfold IU fanU
  wp_walk using l1, l2, lw, i0, mulI, hmx, hlen, show ((N : Int) == (N : Int)) = true by simp
end Lw
end
section
set_option linter.all false
set_option maxRecDepth 100000
set_option maxHeartbeats 4000000
namespace Lw
open PySem L2 Ev
local macro_rules | `(tactic| walk_at "vv") => `(tactic| simp -implicitDefEqProofs (discharger := first | omega | assumption | decide) only [eE_var, eE_int, eE_bl, eE_str, eE_non, eE_tup, eE_lst, op2_some, eE_bin, eE_b2, eE_rng, ob2_some, eE_cmp, ox2_some, eE_ix, op1_some, ob1_some, eE_b1, eE_isi, eE_not, on1_some, eE_neg, th2_t, th2_f, eE_and, eE_or, eE_ite, eE_call, methS_some, eE_meth, slS_some, eE_sl, eEs_nil, eEs_cons, eAs_nil, eAs_cons, eO_none, eO_some, eI_seq, eI_r1, eI_r2, eI_zip, eI_enum, liftS_some, ar_var, ar_lit, ar_tup, ar_lst, ar_bin, ar_neg, ar_cmp, ar_chain, ar_and, ar_or, ar_not, ar_ite, ar_call, ar_b1, ar_b2, ar_meth, ar_isi, ar_ix, ar_sl, ar_rng, ar_comp, arOf_some, lift_some, liftB_some, asgS_one, md_own, md_shr, eT_asg, eT_par, setS_some, eT_setIx, eT_augIx, augA_some, augB_int, eT_expr, eT_ret, eT_ife, eT_pass, goOn_nx, goOn_ret, eTs_nil, eTs_cons, tru1_bl, vC_eq, ret_var, retW_some, ret_lit, ret_tup, ret_lst, ret_bin, ret_cmp, ret_chain, ret_and, ret_or, ret_not, ret_ite, ret_call, ret_b1, ret_b2, ret_meth, ret_isi, ret_ix, ret_sl, ret_comp, endFor_nx, endFor_ret, finU_sh, eT_for, vb_some, vb_none, slotAr, resA, resC, optAll, Option.map_some, Option.bind_some, List.map_cons, List.map_nil, List.getElem?_cons_zero, List.getElem?_cons_succ, List.set_cons_zero, List.set_cons_succ, bU_add, bU_sub, bU_mulr, bU_mull, bU_fdiv, bU_mod, cU_lt, cU_gt, cU_le, cU_ge, cU_eq, cU_ne, cU_nn, cU_in, cU_nnn, cU_inn, tU_bl, b1_len_t, b1_len_l, b1_len_f, b1_tup_l, b1_tup_t, b1_int_b, b1_srt, b2_maxU, b2_minU, b2_dmU, List.length_cons, List.length_nil, lockV_nil, unlockV_nil, if_true, Bool.false_eq_true, if_false, mokS_t, m2ok, eE_dnew, eE_rev, eE_sm, smS_str, eT_setD, ar_dnew, ar_rev, ar_sm, ret_rev, ret_sm, wp_some, iU_non, iU_bl, iU_int, iU_str, iU_tup, iU_lst, iU_fz, iU_dct, reduceCtorEq, decide_true, decide_false, Bool.or_true, Bool.true_or, Bool.or_false, Bool.false_or, Bool.not_true, Bool.not_false, eE_chain, chS_t, chS_f, oIntU, b1_all_map, eq_self])
local macro_rules | `(tactic| wp_walk using $ts,*) => `(tactic| simp -implicitDefEqProofs (discharger := first | omega | assumption | decide) only [$[$ts:term],*, eE_var, eE_int, eE_bl, eE_str, eE_non, eE_tup, eE_lst, op2_some, eE_bin, eE_b2, eE_rng, ob2_some, eE_cmp, ox2_some, eE_ix, op1_some, ob1_some, eE_b1, eE_isi, eE_not, on1_some, eE_neg, th2_t, th2_f, eE_and, eE_or, eE_ite, eE_call, methS_some, eE_meth, slS_some, eE_sl, eEs_nil, eEs_cons, eAs_nil, eAs_cons, eO_none, eO_some, eI_seq, eI_r1, eI_r2, eI_zip, eI_enum, liftS_some, ar_var, ar_lit, ar_tup, ar_lst, ar_bin, ar_neg, ar_cmp, ar_chain, ar_and, ar_or, ar_not, ar_ite, ar_call, ar_b1, ar_b2, ar_meth, ar_isi, ar_ix, ar_sl, ar_rng, ar_comp, arOf_some, lift_some, liftB_some, asgS_one, md_own, md_shr, eT_asg, eT_par, setS_some, eT_setIx, eT_augIx, augA_some, augB_int, eT_expr, eT_ret, eT_ife, eT_pass, goOn_nx, goOn_ret, eTs_nil, eTs_cons, tru1_bl, vC_eq, ret_var, retW_some, ret_lit, ret_tup, ret_lst, ret_bin, ret_cmp, ret_chain, ret_and, ret_or, ret_not, ret_ite, ret_call, ret_b1, ret_b2, ret_meth, ret_isi, ret_ix, ret_sl, ret_comp, endFor_nx, endFor_ret, finU_sh, eT_for, vb_some, vb_none, slotAr, resA, resC, optAll, Option.map_some, Option.bind_some, List.map_cons, List.map_nil, List.getElem?_cons_zero, List.getElem?_cons_succ, List.set_cons_zero, List.set_cons_succ, bU_add, bU_sub, bU_mulr, bU_mull, bU_fdiv, bU_mod, cU_lt, cU_gt, cU_le, cU_ge, cU_eq, cU_ne, cU_nn, cU_in, cU_nnn, cU_inn, tU_bl, b1_len_t, b1_len_l, b1_len_f, b1_tup_l, b1_tup_t, b1_int_b, b1_srt, b2_maxU, b2_minU, b2_dmU, List.length_cons, List.length_nil, lockV_nil, unlockV_nil, if_true, Bool.false_eq_true, if_false, mokS_t, m2ok, eE_dnew, eE_rev, eE_sm, smS_str, eT_setD, ar_dnew, ar_rev, ar_sm, ret_rev, ret_sm, wp_some, iU_non, iU_bl, iU_int, iU_str, iU_tup, iU_lst, iU_fz, iU_dct, reduceCtorEq, decide_true, decide_false, Bool.or_true, Bool.true_or, Bool.or_false, Bool.false_or, Bool.not_true, Bool.not_false, eE_chain, chS_t, chS_f, oIntU, b1_all_map, eq_self])
variable {wf k : Nat} {c : Ce}
def rI (a : Int) (n : Nat) : List Int := (List.range n).map fun (i : Nat) => a + (i : Int)
theorem rI_U (a : Int) (n : Nat) : rangeU a n = (rI a n).map U.int := by unfold rangeU rI; rw [List.map_map]; rfl
theorem rI_len (a : Int) (n : Nat) : (rI a n).length = n := by simp [rI]
theorem rI_nodup (a : Int) (n : Nat) : (rI a n).Nodup := by
  unfold rI
  rw [List.nodup_iff_pairwise_ne, List.pairwise_map]
  exact (List.nodup_range (n := n)).imp fun h e => h (by omega)
theorem cut_to {xs : List U} {m : Nat} (h : m ≤ 100000) : slU (.tup xs) none (some (m : Int)) = some (false, .tup (xs.take m)) := by
  unfold slU cutU
  have e1 : HT.sIx xs.length 0 none = 0 := rfl
  have e2 : HT.sIx xs.length xs.length (some (m : Int)) = min m xs.length := HT.sIx_nat _ _ _
  simp only [e1, e2, List.drop_zero, Nat.sub_zero]
  congr 3
  rw [List.take_eq_take_iff]
  omega
theorem same_ws (ws : List (Int × Int)) : cmpU .NotEq (.tup (ws.map pr)) (.tup (ws.map pr)) = some false := by
  have e : PyData.eqvAll (ws.map prD) (ws.map prD) = true := by
    induction ws with
    | nil => rfl
    | cons p ws ih => simp [PyData.eqvAll, prD, PyData.eqv, ih]
  have h : pyU 60 (.tup (ws.map pr)) = some (.tuple (ws.map prD)) := by
    have : optAll ((ws.map pr).map (pyU 59)) = some (ws.map prD) := by
      clear e
      rw [List.map_map]
      induction ws with
      | nil => rfl
      | cons a as ih => rw [List.map_cons, List.map_cons]; show (optAll _).map _ = _; rw [ih]; rfl
    show (optAll ((ws.map pr).map (pyU 59))).map _ = _
    rw [this]; rfl
  show (Ev.eqU (.tup (ws.map pr)) (.tup (ws.map pr))).map (!·) = some false
  unfold Ev.eqU
  have lay : ∀ l : List (Int × Int), PyData.canLayAll0 (l.map prD) = true := fun l => by
    induction l with
    | nil => rfl
    | cons a as ih => rw [List.map_cons, PyData.canLayAll0, ih]; rfl
  have l2 : (PyData.tuple (ws.map prD)).canLay0 = true := lay ws
  simp only [h, PyData.eqv, e, l2]
  rfl
theorem turn {sc : U} {a : Nat} (ha : a < 90000) (h : Deck a c) (u : U) (s2 s3 s4 s5 s6 s7 s8 s9 : Option (Md × U)) : ∃ s3' s4' s5' s6' s7' s8' s9' c', forStep (vcall P wf cf (k + 3)) wf (.one 2) l_law_1 u [some (.shr, sc), some (.shr, .cel 0), s2, s3, s4, s5, s6, s7, s8, s9] c = some (.nx, [some (.shr, sc), some (.shr, .cel 0), some (.shr, u), s3', s4', s5', s6', s7', s8', s9'], c') ∧ Deck (a + 10) c' := by
  obtain ⟨r1, c1, e1, p1, d1⟩ := run_next (wf := wf) (k := k + 2) (by omega) h
  obtain ⟨r2, c2, e2, p2, d2⟩ := run_next (wf := wf) (k := k + 2) (by omega) d1
  obtain ⟨r3, c3, e3, p3, d3⟩ := run_next (wf := wf) (k := k + 2) (by omega) d2
  obtain ⟨r4, c4, e4, p4, d4⟩ := run_next (wf := wf) (k := k + 2) (by omega) d3
  obtain ⟨r5, c5, e5, p5, d5⟩ := run_next (wf := wf) (k := k + 2) (by omega) d4
  obtain ⟨r6, c6, e6, p6, d6⟩ := run_next (wf := wf) (k := k + 2) (by omega) d5
  obtain ⟨ol, oh, c7, e7, fo, d7⟩ := run_fan (wf := wf) (k := k + 1) (by omega) d6
  obtain ⟨il, ih, c8, e8, fi, d8⟩ := run_fan (wf := wf) (k := k + 1) (by omega) d7
  obtain ⟨f, hf⟩ : ∃ f : Nat, r1 % 9 = (f : Int) := ⟨(r1 % 9).toNat, by omega⟩
  have hf9 : f < 9 := by omega
  have n3 : ∀ {w x y : U}, newLU [w, x, y] = some (true, .lst [w, x, y]) := nLU (by simp)
  obtain ⟨lim, hl1, hl2⟩ : ∃ lim : Nat, atI [U.int 9, .int 9, .int 40] (r2 % 3) = some (.int (lim : Int)) ∧ lim ≤ 40 := by
    have : r2 % 3 = 0 ∨ r2 % 3 = 1 ∨ r2 % 3 = 2 := by omega
    rcases this with z | z | z
    · exact ⟨9, by rw [z]; exact at0, by omega⟩
    · exact ⟨9, by rw [z]; exact at1, by omega⟩
    · exact ⟨40, by rw [z]; exact at2, by omega⟩
  obtain ⟨n, hn⟩ : ∃ n : Nat, r3 % ((lim : Int) + 1) = (n : Int) := ⟨(r3 % ((lim : Int) + 1)).toNat, by have := Int.emod_nonneg r3 (show (lim : Int) + 1 ≠ 0 by omega); omega⟩
  have hnl : n ≤ 40 := by have := Int.emod_lt_of_pos r3 (show 0 < (lim : Int) + 1 by omega); omega
  obtain ⟨b, hb⟩ : ∃ b : Nat, r4 % 20 = (b : Int) := ⟨(r4 % 20).toNat, by omega⟩
  have hb20 : b < 20 := by omega
  obtain ⟨m, hm⟩ : ∃ m : Nat, r5 % ((lim : Int) + 1) = (m : Int) := ⟨(r5 % ((lim : Int) + 1)).toNat, by have := Int.emod_nonneg r5 (show (lim : Int) + 1 ≠ 0 by omega); omega⟩
  have hml : m ≤ 40 := by have := Int.emod_lt_of_pos r5 (show 0 < (lim : Int) + 1 by omega); omega
  have g1 : rngU true (.int (f : Int)) (.int ((f : Int) + (n : Int))) = some (false, IU (rI f n)) := by
    rw [rgU (by omega) (by omega) (by omega) (by omega) (by omega), show ((f : Int) + (n : Int) - (f : Int)).toNat = n by omega, rI_U]; rfl
  have g2 : rngU true (.int (b : Int)) (.int 70) = some (false, IU (rI b (70 - b))) := by
    rw [rgU (by omega) (by omega) (by omega) (by omega) (by omega), show ((70 : Int) - (b : Int)).toNat = 70 - b by omega, rI_U]; rfl
  have g3 : slU (IU (rI b (70 - b))) none (some (m : Int)) = some (false, IU ((rI b (70 - b)).take m)) := by
    unfold IU; rw [cut_to (by omega), List.map_take]
  have facts : ∀ (os : List Int), os.Nodup → os.length ≤ 70 → (vcall P wf cf (k + 3) i__law_fits [(.shr, IU (rI f n)), (.shr, IU os), (.shr, fanU ol oh), (.shr, fanU il ih)] c8 = some ((false, .bl false), c8)) ∨ ∃ ws : List (Int × Int), vcall P wf cf (k + 3) i__law_fits [(.shr, IU (rI f n)), (.shr, IU os), (.shr, fanU ol oh), (.shr, fanU il ih)] c8 = some ((false, .bl true), c8) ∧ vcall P wf cf (k + 3) i_dealt [(.shr, IU (rI f n)), (.shr, IU os), (.shr, fanU ol oh), (.shr, fanU il ih)] c8 = some ((false, .tup (ws.map pr)), c8) ∧ vcall P wf cf (k + 3) i__law_right [(.shr, IU (rI f n)), (.shr, IU os), (.shr, fanU ol oh), (.shr, fanU il ih), (.shr, .tup (ws.map pr))] c8 = some ((false, .bl true), c8) := by
    intro os ho hol
    obtain ⟨bb, q1, q2⟩ := run_fits (wf := wf) (k := k + 2) (c := c8) (as := rI f n) (os := os) (by rw [rI_len]; omega) (by omega) fo fi
    cases bb with
    | false => exact .inl q1
    | true =>
      have ft := q2 rfl
      obtain ⟨ws, w1, w2⟩ := run_dealt (wf := wf) (k := k + 2) (c := c8) (rI_nodup f n) ho (by rw [rI_len]; omega) hol fo fi ft
      have wl : ws.length ≤ 5000 := by
        rw [w2.len]
        have := ft.le
        have : (rI f n).length * os.length ≤ 40 * 70 := Nat.mul_le_mul (by rw [rI_len]; exact hnl) hol
        omega
      exact .inr ⟨ws, q1, w1, run_right (wf := wf) (k := k + 1) (c := c8) (by rw [rI_len]; omega) hol fo fi wl w2⟩
  have oi : ∀ {x : Int}, oIntU (some (.int x)) = some (some x) := rfl
  have on : oIntU none = some none := rfl
  by_cases h4 : r6 % 4 = 0
  · have h4' : (r6 % 4 == 0) = true := by simpa using h4
    rcases facts (rI f n) (rI_nodup f n) (by rw [rI_len]; omega) with q1 | ⟨ws, q1, w1, rr⟩
    · refine ⟨some (.shr, .int (f : Int)), some (.shr, .int (lim : Int)), some (.shr, IU (rI f n)), some (.shr, IU (rI f n)), some (.shr, fanU ol oh), some (.shr, fanU il ih), s9, c8, ?_, d8⟩
      unfold forStep l_law_1
      simp only [setU, List.set_cons_succ, List.set_cons_zero]
      wp_walk using callS_some e1, callS_some e2, callS_some e3, callS_some e4, callS_some e5, callS_some e6, callS_some e7, callS_some e8, hf, n3, ixU_l hl1, hn, hb, hm, g1, g2, g3, oi, on, h4', callS_some q1
    · refine ⟨some (.shr, .int (f : Int)), some (.shr, .int (lim : Int)), some (.shr, IU (rI f n)), some (.shr, IU (rI f n)), some (.shr, fanU ol oh), some (.shr, fanU il ih), some (.shr, .tup (ws.map pr)), c8, ?_, d8⟩
      unfold forStep l_law_1
      simp only [setU, List.set_cons_succ, List.set_cons_zero]
      wp_walk using callS_some e1, callS_some e2, callS_some e3, callS_some e4, callS_some e5, callS_some e6, callS_some e7, callS_some e8, hf, n3, ixU_l hl1, hn, hb, hm, g1, g2, g3, oi, on, h4', callS_some q1, callS_some w1, callS_some rr, Bool.not_true, same_ws ws
  · have h4' : (r6 % 4 == 0) = false := by simpa using h4
    have hod : ((rI b (70 - b)).take m).Nodup := (List.take_sublist _ _).nodup (rI_nodup b (70 - b))
    rcases facts ((rI b (70 - b)).take m) hod (by rw [List.length_take]; omega) with q1 | ⟨ws, q1, w1, rr⟩
    · refine ⟨some (.shr, .int (f : Int)), some (.shr, .int (lim : Int)), some (.shr, IU (rI f n)), some (.shr, IU ((rI b (70 - b)).take m)), some (.shr, fanU ol oh), some (.shr, fanU il ih), s9, c8, ?_, d8⟩
      unfold forStep l_law_1
      simp only [setU, List.set_cons_succ, List.set_cons_zero]
      wp_walk using callS_some e1, callS_some e2, callS_some e3, callS_some e4, callS_some e5, callS_some e6, callS_some e7, callS_some e8, hf, n3, ixU_l hl1, hn, hb, hm, g1, g2, g3, oi, on, h4', callS_some q1
    · refine ⟨some (.shr, .int (f : Int)), some (.shr, .int (lim : Int)), some (.shr, IU (rI f n)), some (.shr, IU ((rI b (70 - b)).take m)), some (.shr, fanU ol oh), some (.shr, fanU il ih), some (.shr, .tup (ws.map pr)), c8, ?_, d8⟩
      unfold forStep l_law_1
      simp only [setU, List.set_cons_succ, List.set_cons_zero]
      wp_walk using callS_some e1, callS_some e2, callS_some e3, callS_some e4, callS_some e5, callS_some e6, callS_some e7, callS_some e8, hf, n3, ixU_l hl1, hn, hb, hm, g1, g2, g3, oi, on, h4', callS_some q1, callS_some w1, callS_some rr, Bool.not_true, same_ws ws
theorem turns {sc : U} : ∀ (us : List U) (a : Nat) (c : Ce) (s2 s3 s4 s5 s6 s7 s8 s9 : Option (Md × U)), a + 10 * us.length < 90000 → Deck a c → ∃ s2' s3' s4' s5' s6' s7' s8' s9' c', forU (forStep (vcall P wf cf (k + 3)) wf (.one 2) l_law_1) us [some (.shr, sc), some (.shr, .cel 0), s2, s3, s4, s5, s6, s7, s8, s9] c = some (.nx, [some (.shr, sc), some (.shr, .cel 0), s2', s3', s4', s5', s6', s7', s8', s9'], c') := by
  intro us
  induction us with
  | nil => intro a c s2 s3 s4 s5 s6 s7 s8 s9 _ _; exact ⟨s2, s3, s4, s5, s6, s7, s8, s9, c, rfl⟩
  | cons u us ih =>
    intro a c s2 s3 s4 s5 s6 s7 s8 s9 h1 h2
    simp only [List.length_cons] at h1
    obtain ⟨t3, t4, t5, t6, t7, t8, t9, c1, q1, q2⟩ := turn (wf := wf) (k := k) (sc := sc) (by omega) h2 u s2 s3 s4 s5 s6 s7 s8 s9
    rw [forU_cons q1]
    exact ih (a + 10) c1 _ t3 t4 t5 t6 t7 t8 t9 (by omega) q2
theorem run_law {ns : List Int} (h : ns.length ≤ 63) : ∃ c', vcall P wf cf (k + 4) i_law [(.shr, .fz (ns.map U.int))] [] = some ((false, .bl true), c') := by
  obtain ⟨c1, e1, d1⟩ := run_deck (wf := wf) (k := k + 2) h
  obtain ⟨s2, s3, s4, s5, s6, s7, s8, s9, c', z⟩ := turns (wf := wf) (k := k) (sc := .fz (ns.map U.int)) (rangeU 0 40) 0 c1 none none none none none none none none (by simp [rangeU]) d1
  refine ⟨c', ?_⟩
  rw [vcall_fin (b := b_law) (ρ := [some (.shr, .fz (ns.map U.int)), none, none, none, none, none, none, none, none, none]) rfl rfl rfl rfl, b_law]
  wp_walk using callS_some e1
  rw [r1U (by omega) (by omega)]
  wp_walk using show (40 : Int).toNat = 40 from rfl, z
end Lw
end
set_option maxRecDepth 100000
theorem PySem.Challenge.cw_fankinds_k06_ways_dealt_holds : PySem.Challenge.rw_fankinds_k06_ways_dealt.Holds := by
  exact Lw.holds 4000 fun ns h => by
    obtain ⟨c, e⟩ := Lw.run_law (wf := 4000) (k := 56) h
    exact Ev.vlaw (cf := Lw.cf) e
