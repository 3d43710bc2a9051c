import PyProof.Rows.All
import Wide.All
import OpenK.AllK
import Wide.FinOn
import KE.KStateDown
import HandS.ForMost
import HandS.More
import HandS.WordsExc
import HandS.Defaults
import HandS.Flow
import HandS.Style
import HandS.Deep
import HandS.TupAny
import HandS.Zip
import HandS.IsInst
import HandS.Conv
import KE.LtData
import KE.SortData
import PyProof.ReprReads
import HandS.HeadEnd
import HandS.HeadHook4
import HandS.Head0
import HandS.Head1
import HandS.Head2
import PySem.Challenge.RW_fankinds_k15_steps
section
set_option Elab.async false
set_option linter.all false
set_option maxRecDepth 100000
set_option maxHeartbeats 4000000
/-! Plain data, a store of things that change, and how the layer's heap bears them. -/
namespace Ev
open PySem PySem.Spec PyProof.Rows L2

/-- a value: immutable data, or the number of a thing in the store -/
inductive D where
  | non
  | bl (b : Bool)
  | int (i : Int)
  | str (s : Str)
  | tup (xs : List D)
  | ref (n : Nat)
/-- a thing in the store -/
inductive O where
  | lst (xs : List D)
  | fz (xs : List D)
abbrev Sto := List O

abbrev Env := List (Option D)

section
variable (K : PySem.W.Frag) (H : Hp) (m : List Addr)
mutual
inductive RV : D → V → Prop
  | non : RV .non .non
  | bl (b : Bool) : RV (.bl b) (.bl b)
  | int (i : Int) : RV (.int i) (.int i)
  | str (s : Str) : RV (.str s) (.str s)
  | tup {a : Addr} {vs : List V} {ds : List D} : SqT K H a vs → RVs ds vs → RV (.tup ds) (.ref a)
  | ref {n : Nat} {a : Addr} : m[n]? = some a → RV (.ref n) (.ref a)
inductive RVs : List D → List V → Prop
  | nil : RVs [] []
  | cons {d : D} {ds : List D} {v : V} {vs : List V} : RV d v → RVs ds vs → RVs (d :: ds) (v :: vs)
end
def RO (a : Addr) : O → Prop
  | .lst ds => ∃ vs, H a = some (.lst vs) ∧ RVs K H m ds vs
  | .fz ds => ∃ o vs, H a = some (.frz o (.lst vs)) ∧ RVs K H m ds vs
structure RS (S : Sto) : Prop where
  nd : m.Nodup
  len : m.length = S.length
  obj : ∀ (n : Nat) (a : Addr) (o : O), m[n]? = some a → S[n]? = some o → RO K H m a o
structure RE (ρ : Env) (σ : L2.St) : Prop where
  len : ρ.length = σ.length
  get : ∀ (i : Nat) (d : D), ρ[i]? = some (some d) → ∃ v, σ[i]? = some (some v) ∧ RV K H m d v
end

/-- tuples stay -/
def TK (H H' : Hp) : Prop := ∀ a xs, Rd H a (.tup xs) → Rd H' a (.tup xs)
theorem TK.refl (H : Hp) : TK H H := fun _ _ h => h
theorem TK.trans {H H1 H2 : Hp} (a : TK H H1) (b : TK H1 H2) : TK H H2 := fun x xs h => b x xs (a x xs h)
theorem TK.sq {K : PySem.W.Frag} {H H' : Hp} {a : Addr} {vs : List V} (t : TK H H') (h : SqT K H a vs) : SqT K H' a vs := by
  rcases h with h | h
  · exact .inl (t _ _ h)
  · exact .inr h
theorem TK.new {H : Hp} {p : Addr} {o : HO} (h : H p = none) : TK H (upd H p o) := fun a xs r => by
  rcases r with r | ⟨ob, r⟩
  · exact .inl (by rw [upd_ne (ne_of_none r h)]; exact r)
  · exact .inr ⟨ob, by rw [upd_ne (ne_of_none r h)]; exact r⟩
theorem TK.lst {H : Hp} {p : Addr} {o : HO} {ys : List V} (h : H p = some (.lst ys)) : TK H (upd H p o) := fun a xs r => by
  rcases r with r | ⟨ob, r⟩
  · exact .inl (by rw [upd_ne (ne_of r h (by intro z; cases z))]; exact r)
  · exact .inr ⟨ob, by rw [upd_ne (ne_of r h (by intro z; cases z))]; exact r⟩

section
variable {K : PySem.W.Frag} {H H' : Hp} {m m' : List Addr}
theorem pre_get {α : Type} {l l' : List α} (h : l <+: l') {n : Nat} {a : α} (e : l[n]? = some a) : l'[n]? = some a := by
  obtain ⟨r, rfl⟩ := h
  have hn : n < l.length := by
    rcases Nat.lt_or_ge n l.length with h | h
    · exact h
    · rw [List.getElem?_eq_none h] at e; cases e
  rw [List.getElem?_append_left hn]; exact e
mutual
theorem RV.mono (t : TK H H') (p : m <+: m') : ∀ {d : D} {v : V}, RV K H m d v → RV K H' m' d v
  | _, _, .non => .non
  | _, _, .bl b => .bl b
  | _, _, .int i => .int i
  | _, _, .str s => .str s
  | _, _, .tup h r => .tup (t.sq h) (RVs.mono t p r)
  | _, _, .ref e => .ref (pre_get p e)
theorem RVs.mono (t : TK H H') (p : m <+: m') : ∀ {ds : List D} {vs : List V}, RVs K H m ds vs → RVs K H' m' ds vs
  | _, _, .nil => .nil
  | _, _, .cons h r => .cons (RV.mono t p h) (RVs.mono t p r)
end
theorem RE.mono {ρ : Env} {σ : L2.St} (t : TK H H') (p : m <+: m') (h : RE K H m ρ σ) : RE K H' m' ρ σ := ⟨h.len, fun i d e => by
  obtain ⟨v, e', r⟩ := h.get i d e
  exact ⟨v, e', r.mono t p⟩⟩
theorem RE.set {ρ : Env} {σ : L2.St} {d : D} {v : V} (i : Nat) (h : RE K H m ρ σ) (q : RV K H m d v) : RE K H m (ρ.set i (some d)) (σ.set i (some v)) := by
  refine ⟨by simp [h.len], fun j d' e => ?_⟩
  by_cases hj : i = j
  · subst hj
    have hi : i < ρ.length := by
      rcases Nat.lt_or_ge i ρ.length with z | z
      · exact z
      · rw [List.getElem?_eq_none (by simpa using z)] at e; cases e
    rw [List.getElem?_set_self hi] at e
    cases e
    exact ⟨v, List.getElem?_set_self (h.len ▸ hi), q⟩
  · rw [List.getElem?_set_ne hj] at e
    rw [List.getElem?_set_ne hj]
    exact h.get j d' e
theorem RVs.length : ∀ {ds : List D} {vs : List V}, RVs K H m ds vs → ds.length = vs.length
  | _, _, .nil => rfl
  | _, _, .cons _ r => by simp [RVs.length r]
theorem RVs.get : ∀ {ds : List D} {vs : List V} {i : Nat} {d : D}, RVs K H m ds vs → ds[i]? = some d → ∃ v, vs[i]? = some v ∧ RV K H m d v
  | _, _, _, _, .nil, e => by simp at e
  | _, _, 0, _, .cons h r, e => by simp at e; subst e; exact ⟨_, rfl, h⟩
  | _, _, i + 1, _, .cons h r, e => by
    obtain ⟨v, e', q⟩ := RVs.get (i := i) r (by simpa using e)
    exact ⟨v, by simpa using e', q⟩
theorem RVs.get' : ∀ {ds : List D} {vs : List V} {i : Nat} {v : V}, RVs K H m ds vs → vs[i]? = some v → ∃ d, ds[i]? = some d ∧ RV K H m d v
  | _, _, _, _, .nil, e => by simp at e
  | _, _, 0, _, .cons h r, e => by simp at e; subst e; exact ⟨_, rfl, h⟩
  | _, _, i + 1, _, .cons h r, e => by
    obtain ⟨v, e', q⟩ := RVs.get' (i := i) r (by simpa using e)
    exact ⟨v, by simpa using e', q⟩
theorem RVs.append : ∀ {ds es : List D} {vs us : List V}, RVs K H m ds vs → RVs K H m es us → RVs K H m (ds ++ es) (vs ++ us)
  | _, _, _, _, .nil, s => s
  | _, _, _, _, .cons h r, s => .cons h (RVs.append r s)
theorem RVs.take : ∀ {ds : List D} {vs : List V} (n : Nat), RVs K H m ds vs → RVs K H m (ds.take n) (vs.take n)
  | _, _, 0, _ => .nil
  | _, _, _ + 1, .nil => .nil
  | _, _, n + 1, .cons h r => .cons h (RVs.take n r)
theorem RVs.drop : ∀ {ds : List D} {vs : List V} (n : Nat), RVs K H m ds vs → RVs K H m (ds.drop n) (vs.drop n)
  | _, _, 0, r => r
  | _, _, _ + 1, .nil => .nil
  | _, _, n + 1, .cons h r => RVs.drop n r
theorem RVs.set {d : D} {v : V} (q : RV K H m d v) : ∀ {ds : List D} {vs : List V} (n : Nat), RVs K H m ds vs → RVs K H m (ds.set n d) (vs.set n v)
  | _, _, _, .nil => .nil
  | _, _, 0, .cons h r => .cons q r
  | _, _, n + 1, .cons h r => .cons h (RVs.set q n r)
theorem RVs.eraseIdx : ∀ {ds : List D} {vs : List V} (n : Nat), RVs K H m ds vs → RVs K H m (ds.eraseIdx n) (vs.eraseIdx n)
  | _, _, _, .nil => .nil
  | _, _, 0, .cons h r => r
  | _, _, n + 1, .cons h r => .cons h (RVs.eraseIdx n r)
theorem RVs.reverse {ds : List D} {vs : List V} (h : RVs K H m ds vs) : RVs K H m ds.reverse vs.reverse := by
  have key : ∀ {ds : List D} {vs : List V}, RVs K H m ds vs → RVs K H m ds.reverse vs.reverse := by
    intro ds
    induction ds with
    | nil => intro vs h; cases h; exact .nil
    | cons d r ih =>
      intro vs h
      cases h with
      | cons h1 h2 =>
        rw [List.reverse_cons, List.reverse_cons]
        exact (ih h2).append (.cons h1 .nil)
  exact key h
/-- a store, a new thing in it -/
theorem RS.fresh {S : Sto} (r : RS K H m S) {p : Addr} (h : H p = none) : p ∉ m := fun hp => by
  obtain ⟨n, hn, e⟩ := List.mem_iff_getElem.mp hp
  have e1 : m[n]? = some p := by rw [List.getElem?_eq_getElem hn, e]
  have hS : n < S.length := r.len ▸ hn
  have q := r.obj n p _ e1 (List.getElem?_eq_getElem hS)
  cases hz : S[n] with
  | lst ds => rw [hz] at q; obtain ⟨vs, q, _⟩ := q; rw [h] at q; cases q
  | fz ds => rw [hz] at q; obtain ⟨o, vs, q, _⟩ := q; rw [h] at q; cases q
/-- the heap has more, nothing of the store is touched -/
theorem RS.more {S : Sto} (r : RS K H m S) (t : TK H H') (hk : ∀ a ∈ m, H' a = H a) : RS K H' m S := by
  refine ⟨r.nd, r.len, fun n a o e1 e2 => ?_⟩
  have hm : a ∈ m := List.mem_iff_getElem?.mpr ⟨n, e1⟩
  have q := r.obj n a o e1 e2
  cases o with
  | lst ds => obtain ⟨vs, q, w⟩ := q; exact ⟨vs, by rw [hk a hm]; exact q, w.mono t (List.prefix_refl m)⟩
  | fz ds => obtain ⟨ob, vs, q, w⟩ := q; exact ⟨ob, vs, by rw [hk a hm]; exact q, w.mono t (List.prefix_refl m)⟩
theorem RS.tup {S : Sto} (r : RS K H m S) {p : Addr} {o : HO} (h : H p = none) : RS K (upd H p o) m S :=
  r.more (TK.new h) fun a ha => upd_ne fun z => r.fresh h (z ▸ ha)
theorem RS.new {S : Sto} (r : RS K H m S) {p : Addr} (h : H p = none) {o : HO} {ob : O} (hob : RO K (upd H p o) (m ++ [p]) p ob) : RS K (upd H p o) (m ++ [p]) (S ++ [ob]) := by
  refine ⟨?_, by simp [r.len], fun n a o' e1 e2 => ?_⟩
  · rw [List.nodup_append]
    refine ⟨r.nd, by simp, ?_⟩
    intro a ha b hb e
    rw [List.mem_singleton] at hb
    subst hb
    exact r.fresh h (e ▸ ha)
  · have r2 : RS K (upd H p o) m S := r.tup h
    rcases Nat.lt_or_ge n m.length with hn | hn
    · rw [List.getElem?_append_left hn] at e1
      rw [List.getElem?_append_left (r.len ▸ hn)] at e2
      have q := r2.obj n a o' e1 e2
      have pp : m <+: m ++ [p] := List.prefix_append _ _
      cases o' with
      | lst ds => obtain ⟨vs, q, w⟩ := q; exact ⟨vs, q, w.mono (TK.refl _) pp⟩
      | fz ds => obtain ⟨ob, vs, q, w⟩ := q; exact ⟨ob, vs, q, w.mono (TK.refl _) pp⟩
    · rw [List.getElem?_append_right hn] at e1
      rw [List.getElem?_append_right (r.len ▸ hn)] at e2
      have h0 : n - m.length = 0 := by
        rcases Nat.eq_zero_or_pos (n - m.length) with z | z
        · exact z
        · rw [List.getElem?_eq_none (by simp; omega)] at e1; cases e1
      rw [h0] at e1
      rw [← r.len, h0] at e2
      simp at e1 e2
      subst e1 e2
      exact hob
/-- a list of the store is changed -/
theorem RS.write {S : Sto} (r : RS K H m S) {n : Nat} {a : Addr} {ys : List V} {ds : List D} {vs : List V} (e : m[n]? = some a) (h : H a = some (.lst ys)) (q : RVs K H m ds vs) : RS K (upd H a (.lst vs)) m (S.set n (.lst ds)) := by
  have t : TK H (upd H a (.lst vs)) := TK.lst h
  have pp : m <+: m := List.prefix_refl m
  refine ⟨r.nd, by simp [r.len], fun k b o e1 e2 => ?_⟩
  by_cases hk : k = n
  · subst hk
    rw [e] at e1; cases e1
    have hS : k < S.length := by
      rw [← r.len]
      rcases Nat.lt_or_ge k m.length with z | z
      · exact z
      · rw [List.getElem?_eq_none z] at e; cases e
    rw [List.getElem?_set_self hS] at e2
    cases e2
    exact ⟨vs, upd_same, q.mono t pp⟩
  · rw [List.getElem?_set_ne (Ne.symm hk)] at e2
    have hab : b ≠ a := fun z => by
      subst z
      apply hk
      have h1 : k < m.length := by
        rcases Nat.lt_or_ge k m.length with z | z
        · exact z
        · rw [List.getElem?_eq_none z] at e1; cases e1
      have h2 : n < m.length := by
        rcases Nat.lt_or_ge n m.length with z | z
        · exact z
        · rw [List.getElem?_eq_none z] at e; cases e
      rw [List.getElem?_eq_getElem h1] at e1
      rw [List.getElem?_eq_getElem h2] at e
      have ee : m[k] = m[n] := (Option.some.inj e1).trans (Option.some.inj e).symm
      have pw := List.pairwise_iff_getElem.mp r.nd
      rcases Nat.lt_trichotomy k n with z | z | z
      · exact absurd ee (pw k n h1 h2 z)
      · exact z
      · exact absurd ee.symm (pw n k h2 h1 z)
    have q' := r.obj k b o e1 e2
    cases o with
    | lst ds => obtain ⟨vs, q', w⟩ := q'; exact ⟨vs, by rw [upd_ne hab]; exact q', w.mono t pp⟩
    | fz ds => obtain ⟨ob, vs, q', w⟩ := q'; exact ⟨ob, vs, by rw [upd_ne hab]; exact q', w.mono t pp⟩
end
end Ev
end
section
set_option Elab.async false
set_option linter.all false
set_option maxRecDepth 100000
set_option maxHeartbeats 4000000
/-! The small language that a def's body is erased to, and what it does. -/
namespace Ev
open PySem L2

inductive Ty where
  | int | bool | str | tuple | list | dict
  deriving DecidableEq
/-- built-ins of one argument, of two; methods are built-ins with the object ahead -/
inductive B1 where
  | len | tuple | list | sorted | all | repr | int | min | max | set
  deriving DecidableEq
inductive B2 where
  | min | max
  deriving DecidableEq
inductive M2 where
  | append | extend | pop
  deriving DecidableEq
/-- a target: a slot, or several -/
inductive Tg where
  | one (i : Nat) | many (is : List Nat)

mutual
inductive E where
  | bad
  | var (i : Nat)
  | lit (d : D)
  | tup (es : Es)
  | lst (es : Es)
  | bin (op : Operator) (a b : E)
  | neg (a : E)
  | cmp (op : CmpOp) (a b : E)
  | chain (op op' : CmpOp) (a b c : E)
  | and (a b : E)
  | or (a b : E)
  | not (a : E)
  | ite (c a b : E)
  | call (f : Nat) (es : Es)
  | b1 (b : B1) (a : E)
  | b2 (b : B2) (a c : E)
  | meth (b : M2) (a c : E)
  | isi (a : E) (t : Ty)
  | ix (a b : E)
  | sl (a : E) (lo hi : Eo)
  | rev (a : E)
  | comp (elt : E) (tg : Tg) (own : List Nat) (it : I) (cond : Eo)
inductive I where
  | bad
  | seq (e : E)
  | r1 (a : E)
  | r2 (a b : E)
  | zip (a b : E)
  | enum (a : E)
inductive Es where
  | nil
  | cons (e : E) (r : Es)
inductive Eo where
  | none
  | some (e : E)
end
mutual
inductive T where
  | bad
  | asg (t : Tg) (e : E)
  | par (i j : Nat) (a b : E)
  | setIx (o i e : E)
  | expr (e : E)
  | ret (e : E)
  | ife (c : E) (a b : Ts)
  | for (t : Tg) (it : I) (b : Ts)
  | while (c : E) (b : Ts)
  | pass
inductive Ts where
  | nil
  | cons (t : T) (r : Ts)
end

abbrev R (α : Type) := Option (α × Sto)
def bnd {α β : Type} (x : R α) (f : α → Sto → R β) : R β := match x with
  | none => none
  | some (a, S) => f a S
@[simp] theorem bnd_none {α β : Type} (f : α → Sto → R β) : bnd none f = none := rfl
@[simp] theorem bnd_some {α β : Type} (a : α) (S : Sto) (f : α → Sto → R β) : bnd (some (a, S)) f = f a S := rfl
theorem bnd_eq {α β : Type} {x : R α} {f : α → Sto → R β} {b : β} {S' : Sto} (h : bnd x f = some (b, S')) : ∃ a S, x = some (a, S) ∧ f a S = some (b, S') := by
  cases x with
  | none => cases h
  | some p => exact ⟨p.1, p.2, rfl, h⟩

/-- the items of a list of the store -/
def itemsAt (S : Sto) (n : Nat) : Option (List D) := match S[n]? with
  | some (.lst xs) => some xs
  | some (.fz xs) => some xs
  | none => none
def optAll {α : Type} : List (Option α) → Option (List α)
  | [] => some []
  | some a :: r => (optAll r).map (a :: ·)
  | none :: _ => none
theorem optAll_map {α β : Type} {f : α → Option β} {g : α → β} : ∀ {xs : List α}, (∀ x ∈ xs, f x = some (g x)) → optAll (xs.map f) = some (xs.map g)
  | [], _ => rfl
  | x :: r, h => by
    rw [List.map_cons, h x (by simp), optAll, optAll_map (fun y hy => h y (by simp [hy]))]
    rfl
/-- a datum as a whole, lists of the store in it -/
def pyD : Nat → Sto → D → Option PyData
  | _, _, .non => some .none
  | _, _, .bl b => some (.bool b)
  | _, _, .int i => some (.int i)
  | _, _, .str s => if PyData.strOk s = true then some (.str s) else none
  | 0, _, .tup _ => none
  | 0, _, .ref _ => none
  | k + 1, S, .tup xs => (optAll (xs.map (pyD k S))).map .tuple
  | k + 1, S, .ref n => ((itemsAt S n).bind fun xs => optAll (xs.map (pyD k S))).map .list
def cutD (xs : List D) (lo hi : Option Int) : List D := (xs.drop (HT.sIx xs.length 0 lo)).take (HT.sIx xs.length xs.length hi - HT.sIx xs.length 0 lo)
def truthD (S : Sto) : D → Option Bool
  | .non => some false
  | .bl b => some b
  | .int i => some (i != 0)
  | .str s => if s.length ≤ 100000 then some ((s.length : Int) != 0) else none
  | .tup xs => some (!xs.isEmpty)
  | .ref n => (itemsAt S n).map fun xs => !xs.isEmpty
/-- a new list -/
def newL (S : Sto) (xs : List D) : R D := if xs.length ≤ 100000 then some (.ref S.length, S ++ [.lst xs]) else none
def newT (S : Sto) (xs : List D) : R D := if xs.length ≤ 100000 then some (.tup xs, S) else none
def binD (S : Sto) : Operator → D → D → R D
  | .Add, .int i, .int j => some (.int (i + j), S)
  | .Add, .str x, .str y => if x.length + y.length ≤ 100000 then some (.str (x ++ y), S) else none
  | .Add, .tup xs, .tup ys => newT S (xs ++ ys)
  | .Add, .ref a, .ref b => match S[a]?, S[b]? with
    | some (.lst xs), some (.lst ys) => newL S (xs ++ ys)
    | _, _ => none
  | .Sub, .int i, .int j => some (.int (i - j), S)
  | .Mult, .int i, .int j => if (-(2 ^ 64) < i ∧ i < 2 ^ 64) ∨ (-(2 ^ 64) < j ∧ j < 2 ^ 64) then some (.int (i * j), S) else none
  | .FloorDiv, .int i, .int j => if 0 < j ∧ j < 1073741824 then some (.int (i / j), S) else none
  | .Mod, .int i, .int j => if 0 < j then some (.int (i % j), S) else none
  | .Pow, .int i, .int j => if 0 ≤ j ∧ j ≤ 1000000 ∧ i.natAbs < 2 ^ 64 then some (.int (i ^ j.toNat), S) else none
  | _, _, _ => none
def inD (S : Sto) (x y : D) : Option Bool := match x, y with
  | .str x, .str z => match x.cps.toList with
    | [c] => some (decide (c ∈ z.cps.toList))
    | _ => none
  | x, y => match pyD 60 S x, pyD 60 S y with
    | some p, some (.list ps) => some (ps.any fun z => PyData.eqv z p)
    | some p, some (.tuple ps) => some (ps.any fun z => PyData.eqv z p)
    | _, _ => none
open Classical in
noncomputable def ltD (S : Sto) (x y : D) : Option Bool := match x, y with
  | .int i, .int j => some (decide (i < j))
  | x, y => match pyD 60 S x, pyD 60 S y with
    | some p, some q => if PySem.W.alike p q = true ∧ p ≠ .none then some (PySem.W.dataLt p q) else none
    | _, _ => none
def eqD (S : Sto) (x y : D) : Option Bool := match pyD 60 S x, pyD 60 S y with
  | some p, some q => some (PyData.eqv p q)
  | _, _ => none
def isD : D → D → Option Bool
  | x, .non => some (match x with
    | .non => true
    | _ => false)
  | .bl a, .bl b => some (decide (a = b))
  | _, _ => none
noncomputable def cmpD (S : Sto) : CmpOp → D → D → Option Bool
  | .Eq, x, y => eqD S x y
  | .NotEq, x, y => (eqD S x y).map (!·)
  | .Lt, x, y => ltD S x y
  | .Gt, .int i, .int j => some (decide (j < i))
  | .LtE, .int i, .int j => some (decide (i ≤ j))
  | .GtE, .int i, .int j => some (decide (j ≤ i))
  | .Is, x, y => isD x y
  | .IsNot, x, y => (isD x y).map (!·)
  | .In, x, y => inD S x y
  | .NotIn, x, y => (inD S x y).map (!·)
  | _, _, _ => none
def lenD (S : Sto) : D → Option Nat
  | .str s => if s.length ≤ 100000 then some s.length else none
  | .tup xs => some xs.length
  | .ref n => (itemsAt S n).map (·.length)
  | _ => none
def isiD (S : Sto) : D → Ty → Option Bool
  | .non, _ => some false
  | .bl _, t => some (decide (t = .bool) || decide (t = .int))
  | .int _, t => some (decide (t = .int))
  | .str _, t => some (decide (t = .str))
  | .tup _, t => some (decide (t = .tuple))
  | .ref n, t => match S[n]? with
    | some (.lst _) => some (decide (t = .list))
    | some (.fz _) => some (decide (t = .list))
    | none => none
def seqD (S : Sto) : D → Option (List D)
  | .tup xs => some xs
  | .ref n => itemsAt S n
  | _ => none
def boolsOf : List D → Option (List Bool)
  | [] => some []
  | .bl b :: r => (boolsOf r).map (b :: ·)
  | _ => none
def intsOf : List D → Option (List Int)
  | [] => some []
  | .int b :: r => (intsOf r).map (b :: ·)
  | _ => none
def pyT (S : Sto) (d : D) : PyData := (pyD 60 S d).getD .none
/-- sorted, as the machine does it -/
def sortable (ds : List PyData) : Bool := (ds.all fun d => match d with
  | .tuple (_ :: _) => true
  | _ => false) || ds.all fun d => match d with
  | .none => false
  | .tuple _ => false
  | _ => true
def sortD (S : Sto) (xs : List D) : R D :=
  if xs.length ≤ 100000 ∧ (xs.all fun d => (pyD 60 S d).isSome) = true ∧ ((xs.map (pyT S)).all fun p => (xs.map (pyT S)).all fun q => PySem.W.alike p q) = true ∧ sortable (xs.map (pyT S)) = true then
    newL S (xs.mergeSort (PySem.W.dataLe false (pyT S)))
  else none
def b1D (S : Sto) : B1 → D → R D
  | .len, d => (lenD S d).map fun n => (.int n, S)
  | .tuple, .tup xs => some (.tup xs, S)
  | .tuple, .ref n => (itemsAt S n).map fun xs => (.tup xs, S)
  | .list, d => (seqD S d).bind fun xs => newL S xs
  | .sorted, .ref n => (itemsAt S n).bind fun xs => sortD S xs
  | .all, .ref n => (itemsAt S n).bind fun xs => (boolsOf xs).map fun bs => (.bl (bs.all id), S)
  | .repr, .tup xs => match pyD 60 S (.tup xs) with
    | some p => if p.showable = true ∧ p.shown.length ≤ 1000000 then some (.str p.shown, S) else none
    | none => none
  | .int, .int i => some (.int i, S)
  | .int, .bl b => some (.int (if b then 1 else 0), S)
  | _, _ => none
def b2D (S : Sto) : B2 → D → D → R D
  | .max, .int i, .int j => some (.int (if j > i then j else i), S)
  | .min, .int i, .int j => some (.int (if j < i then j else i), S)
  | _, _, _ => none
def isL (S : Sto) : D → Bool
  | .ref n => (itemsAt S n).isSome
  | _ => false
def m2D (S : Sto) : M2 → D → D → R D
  | .append, .ref n, d => match S[n]? with
    | some (.lst xs) => if xs.length < 100000 then some (.non, S.set n (.lst (xs ++ [d]))) else none
    | _ => none
  | .extend, .ref n, .ref k => match S[n]?, S[k]? with
    | some (.lst xs), some (.lst ys) => if xs.length + ys.length ≤ 100000 then some (.non, S.set n (.lst (xs ++ ys))) else none
    | _, _ => none
  | .pop, .ref n, .int i => match S[n]? with
    | some (.lst xs) => match xs[i.toNat]? with
      | some d => if 0 ≤ i ∧ i < 2 ^ 62 then some (d, S.set n (.lst (xs.eraseIdx i.toNat))) else none
      | none => none
    | _ => none
  | _, _, _ => none
def ixD (S : Sto) (a b : D) : R D := match a, b with
  | .tup xs, .int i => (atI xs i).map fun d => (d, S)
  | .ref n, .int i => (itemsAt S n).bind fun xs => (atI xs i).map fun d => (d, S)
  | _, _ => none
def oInt : Option D → Option (Option Int)
  | none => some none
  | some (.int i) => some (some i)
  | _ => none
def slD (S : Sto) (a : D) (lo hi : Option Int) : R D := match a with
  | .tup xs => some (.tup (cutD xs lo hi), S)
  | .ref n => (itemsAt S n).bind fun xs => newL S (cutD xs lo hi)
  | _ => none
def setAll : List Nat → List D → Env → Option Env
  | [], [], ρ => some ρ
  | i :: is, d :: ds, ρ => setAll is ds (ρ.set i (some d))
  | _, _, _ => none
def setT : Tg → D → Env → Option Env
  | .one i, d, ρ => some (ρ.set i (some d))
  | .many is, .tup ds, ρ => setAll is ds ρ
  | _, _, _ => none
def wipeE (ρ : Env) : List Nat → Env
  | [] => ρ
  | v :: vs => (wipeE ρ vs).set v none
/-- what is walked: its items, and (of lists) which lists must stand as they are -/
structure Src where
  items : List D
  held : List (Nat × List D)
def Src.ok (s : Src) (S : Sto) : Prop := ∀ p ∈ s.held, itemsAt S p.1 = some p.2
def rangeD (lo : Int) (n : Nat) : List D := (List.range n).map fun (i : Nat) => D.int (lo + (i : Int))
def heldD : D → List D → List (Nat × List D)
  | .ref n, xs => [(n, xs)]
  | _, _ => []
def small (i : Int) : Prop := -(2 ^ 62) ≤ i ∧ i < 2 ^ 62
instance (i : Int) : Decidable (small i) := inferInstanceAs (Decidable (_ ∧ _))
inductive Fl where
  | nx (ρ : Env)
  | ret (d : D)
open Classical in
/-- a for's turns -/
noncomputable def forL (s : Src) (step : D → Env → Sto → R Fl) : List D → Env → Sto → R Fl
  | [], ρ, S => if s.ok S then some (.nx ρ, S) else none
  | d :: r, ρ, S => if s.ok S then bnd (step d ρ S) fun f S' => match f with
      | .nx ρ' => forL s step r ρ' S'
      | .ret v => some (.ret v, S')
    else none
open Classical in
/-- a comprehension's turns: the list at n is filled -/
noncomputable def compL (s : Src) (n : Nat) (step : D → Sto → R (Option D)) : List D → Sto → R Unit
  | [], S => if s.ok S then some ((), S) else none
  | d :: r, S => if s.ok S then bnd (step d S) fun o S' => match o with
      | none => compL s n step r S'
      | some y => match S'[n]? with
        | some (.lst acc) => if acc.length < 100000 then compL s n step r (S'.set n (.lst (acc ++ [y]))) else none
        | _ => none
    else none
def whileL (c : Env → Sto → R Bool) (b : Env → Sto → R Fl) : Nat → Env → Sto → R Fl
  | 0, _, _ => none
  | k + 1, ρ, S => bnd (c ρ S) fun t S' => if t = true then bnd (b ρ S') fun f S'' => match f with
      | .nx ρ' => whileL c b k ρ' S''
      | .ret v => some (.ret v, S'')
    else some (.nx ρ, S')

def signs (s : Str) : List D := s.cps.toList.map fun c => D.str ⟨#[c]⟩
def srcD (S : Sto) (d : D) : R Src := match d with
  | .str s => some (⟨signs s, []⟩, S)
  | d => match seqD S d with
    | some xs => some (⟨xs, heldD d xs⟩, S)
    | none => none
def zip2 (xs ys : List D) : List D := List.zipWith (fun x y => D.tup [x, y]) xs ys
def zipD (S : Sto) (d e : D) : R Src := match d, e with
  | .tup xs, .tup ys => some (⟨zip2 xs ys, []⟩, S)
  | .ref a, .ref b => match itemsAt S a, itemsAt S b with
    | some xs, some ys => some (⟨zip2 xs ys, [(a, xs), (b, ys)]⟩, S)
    | _, _ => none
  | _, _ => none
def rng1 (S : Sto) (d : D) : R Src := match d with
  | .int j => if small j then some (⟨rangeD 0 j.toNat, []⟩, S) else none
  | _ => none
def rng2 (S : Sto) (d e : D) : R Src := match d, e with
  | .int i, .int j => if small i ∧ small j then some (⟨rangeD i (j - i).toNat, []⟩, S) else none
  | _, _ => none
def sl3 (S : Sto) (x : D) (l h : Option D) : R D := match oInt l, oInt h with
  | some l, some h => slD S x l h
  | _, _ => none
def stepC (fe : Env → Sto → R D) (fc : Env → Sto → R (Option D)) (tg : Tg) (ρ : Env) : D → Sto → R (Option D) := fun d S2 => match setT tg d ρ with
  | none => none
  | some ρ2 => bnd (fc ρ2 S2) fun c S3 => match c with
    | none => bnd (fe ρ2 S3) fun y S4 => some (some y, S4)
    | some v => match truthD S3 v with
      | some true => bnd (fe ρ2 S3) fun y S4 => some (some y, S4)
      | some false => some (none, S3)
      | none => none
def setIxD (S : Sto) (ρ : Env) (x y d : D) : R Fl := match x, y with
  | .ref n, .int k => match S[n]? with
    | some (.lst xs) => match ixN xs.length k with
      | some j => some (.nx ρ, S.set n (.lst (xs.set j d)))
      | none => none
    | _ => none
  | _, _ => none
/-- a for's body -/
def stepF (t : Tg) (f : Env → Sto → R Fl) : D → Env → Sto → R Fl := fun d ρ' S' => match setT t d ρ' with
  | none => none
  | some ρ2 => f ρ2 S'
section
variable (cl : Nat → List D → Sto → R D)
mutual
noncomputable def evE : E → Env → Sto → R D
  | .bad, _, _ => none
  | .var i, ρ, S => match ρ[i]? with
    | some (some d) => some (d, S)
    | _ => none
  | .lit d, _, S => some (d, S)
  | .tup es, ρ, S => bnd (evEs es ρ S) fun ds S1 => newT S1 ds
  | .lst es, ρ, S => bnd (evEs es ρ S) fun ds S1 => newL S1 ds
  | .bin op a b, ρ, S => bnd (evE a ρ S) fun x S1 => bnd (evE b ρ S1) fun y S2 => binD S2 op x y
  | .neg a, ρ, S => bnd (evE a ρ S) fun x S1 => match x with
    | .int i => some (.int (-i), S1)
    | _ => none
  | .cmp op a b, ρ, S => bnd (evE a ρ S) fun x S1 => bnd (evE b ρ S1) fun y S2 => (cmpD S2 op x y).map fun k => (.bl k, S2)
  | .chain op op' a b c, ρ, S => bnd (evE a ρ S) fun x S1 => bnd (evE b ρ S1) fun y S2 => match cmpD S2 op x y with
    | some true => bnd (evE c ρ S2) fun z S3 => (cmpD S3 op' y z).map fun k => (.bl k, S3)
    | some false => some (.bl false, S2)
    | none => none
  | .and a b, ρ, S => bnd (evE a ρ S) fun x S1 => match truthD S1 x with
    | some true => evE b ρ S1
    | some false => some (x, S1)
    | none => none
  | .or a b, ρ, S => bnd (evE a ρ S) fun x S1 => match truthD S1 x with
    | some true => some (x, S1)
    | some false => evE b ρ S1
    | none => none
  | .not a, ρ, S => bnd (evE a ρ S) fun x S1 => (truthD S1 x).map fun k => (.bl (!k), S1)
  | .ite c a b, ρ, S => bnd (evE c ρ S) fun x S1 => match truthD S1 x with
    | some true => evE a ρ S1
    | some false => evE b ρ S1
    | none => none
  | .call f es, ρ, S => bnd (evEs es ρ S) fun ds S1 => cl f ds S1
  | .b1 b a, ρ, S => bnd (evE a ρ S) fun x S1 => b1D S1 b x
  | .b2 b a c, ρ, S => bnd (evE a ρ S) fun x S1 => bnd (evE c ρ S1) fun y S2 => b2D S2 b x y
  | .meth b a c, ρ, S => bnd (evE a ρ S) fun x S1 => if isL S1 x = true then bnd (evE c ρ S1) fun y S2 => m2D S2 b x y else none
  | .isi a t, ρ, S => bnd (evE a ρ S) fun x S1 => (isiD S1 x t).map fun k => (.bl k, S1)
  | .ix a b, ρ, S => bnd (evE a ρ S) fun x S1 => bnd (evE b ρ S1) fun y S2 => ixD S2 x y
  | .sl a lo hi, ρ, S => bnd (evE a ρ S) fun x S1 => bnd (evO lo ρ S1) fun l S2 => bnd (evO hi ρ S2) fun h S3 => sl3 S3 x l h
  | .rev _, _, _ => none
  | .comp elt tg own it cond, ρ, S => bnd (evI it ρ S) fun s S1 =>
      bnd (compL s S1.length (stepC (evE elt) (evO cond) tg (wipeE ρ own)) s.items (S1 ++ [.lst []])) fun _ S9 => some (.ref S1.length, S9)
noncomputable def evI : I → Env → Sto → R Src
  | .bad, _, _ => none
  | .seq e, ρ, S => bnd (evE e ρ S) fun d S1 => srcD S1 d
  | .r1 a, ρ, S => bnd (evE a ρ S) fun d S1 => rng1 S1 d
  | .r2 a b, ρ, S => bnd (evE a ρ S) fun d S1 => bnd (evE b ρ S1) fun e S2 => rng2 S2 d e
  | .zip a b, ρ, S => bnd (evE a ρ S) fun d S1 => bnd (evE b ρ S1) fun e S2 => zipD S2 d e
  | .enum _, _, _ => none
noncomputable def evEs : Es → Env → Sto → R (List D)
  | .nil, _, S => some ([], S)
  | .cons e r, ρ, S => bnd (evE e ρ S) fun d S1 => bnd (evEs r ρ S1) fun ds S2 => some (d :: ds, S2)
noncomputable def evO : Eo → Env → Sto → R (Option D)
  | .none, _, S => some (none, S)
  | .some e, ρ, S => bnd (evE e ρ S) fun d S1 => some (some d, S1)
end
noncomputable def evC (c : E) (ρ : Env) (S : Sto) : R Bool := bnd (evE cl c ρ S) fun x S1 => (truthD S1 x).map fun k => (k, S1)
variable (wf : Nat)
mutual
noncomputable def evT : T → Env → Sto → R Fl
  | .bad, _, _ => none
  | .asg t e, ρ, S => bnd (evE cl e ρ S) fun d S1 => (setT t d ρ).map fun ρ' => (.nx ρ', S1)
  | .par i j a b, ρ, S => bnd (evE cl a ρ S) fun x S1 => bnd (evE cl b ρ S1) fun y S2 => some (.nx ((ρ.set i (some x)).set j (some y)), S2)
  | .setIx o i e, ρ, S => bnd (evE cl e ρ S) fun d S1 => bnd (evE cl o ρ S1) fun x S2 => bnd (evE cl i ρ S2) fun y S3 => setIxD S3 ρ x y d
  | .expr e, ρ, S => bnd (evE cl e ρ S) fun _ S1 => some (.nx ρ, S1)
  | .ret e, ρ, S => bnd (evE cl e ρ S) fun d S1 => some (.ret d, S1)
  | .ife c a b, ρ, S => bnd (evC cl c ρ S) fun t S1 => if t = true then evTs a ρ S1 else evTs b ρ S1
  | .for t it b, ρ, S => bnd (evI cl it ρ S) fun s S1 => forL s (stepF t (evTs b)) s.items ρ S1
  | .while c b, ρ, S => whileL (evC cl c) (evTs b) wf ρ S
  | .pass, ρ, S => some (.nx ρ, S)
noncomputable def evTs : Ts → Env → Sto → R Fl
  | .nil, ρ, S => some (.nx ρ, S)
  | .cons t r, ρ, S => bnd (evT t ρ S) fun f S1 => match f with
    | .nx ρ' => evTs r ρ' S1
    | .ret d => some (.ret d, S1)
end
end
/-- a def: how many slots, how many parameters, its body -/
structure Fn where
  n : Nat
  np : Nat
  body : Ts
noncomputable def callF (P : List Fn) (wf : Nat) : Nat → Nat → List D → Sto → R D
  | 0, _, _, _ => none
  | k + 1, f, ds, S => match P[f]? with
    | none => none
    | some F => if ds.length = F.np then bnd (evTs (callF P wf k) wf F.body (ds.map some ++ List.replicate (F.n - F.np) none) S) fun r S1 => match r with
      | .nx _ => some (.non, S1)
      | .ret d => some (d, S1)
      else none
end Ev
end
section
set_option Elab.async false
set_option linter.all false
set_option maxRecDepth 100000
set_option maxHeartbeats 4000000
/-! What the language's pieces do is what the machine does: judgements by meaning, and expressions. -/
namespace Ev
open PySem PySem.Spec PyProof.Rows L2

section
variable {X : Cx}
/-! ### judgements by meaning -/
def WE (X : Cx) (e : Expr) (σ : L2.St) (H : Hp) (Q : VK) : Prop := ∀ (pins : List (Addr × Obj)) (s : Shared), Inv X pins σ H s → wpAny (model X.prog X.w) X.A (eval e X.env) (EP X pins σ Q) X.xe s
def WT (X : Cx) (e : Expr) (σ : L2.St) (H : Hp) (Q : Bool → Hp → Prop) : Prop := ∀ (pins : List (Addr × Obj)) (s : Shared), Inv X pins σ H s → wpAny (model X.prog X.w) X.A (isTrue e X.env (eval e X.env)) (TP X pins σ Q) X.xe s
def WA (X : Cx) (es : List Expr) (σ : L2.St) (H : Hp) (Q : List V → Hp → Prop) : Prop := ∀ (pos : Pos) (pins : List (Addr × Obj)) (s : Shared), Inv X pins σ H s → wpAny (model X.prog X.w) X.A (spliced (backTo pos (starEach es X.env))) (AP X pins σ Q) X.xe s
def WS (X : Cx) (st : Stmt) (D : Ends) (σ : L2.St) (H : Hp) : Prop := ∀ (pins : List (Addr × Obj)) (s : Shared), Inv X pins σ H s → wpAny (model X.prog X.w) X.A (exec st X.env) (SP X pins D) X.xe s
def WSs (X : Cx) (st : List Stmt) (D : Ends) (σ : L2.St) (H : Hp) : Prop := ∀ (pins : List (Addr × Obj)) (s : Shared), Inv X pins σ H s → wpAny (model X.prog X.w) X.A (execs st X.env) (SP X pins D) X.xe s
def WI (X : Cx) (tg iter : Expr) (σ : L2.St) (H : Hp) (R : It → Hp → Prop) : Prop := ∀ (pins : List (Addr × Obj)) (s : Shared), Inv X pins σ H s →
    wpAny (model X.prog X.w) X.A (eval iter X.env) (fun v s1 => wpAny (model X.prog X.w) X.A (pyIter v) (PIE X pins σ tg R) X.xe s1) X.xe s
/-- an operation on values -/
def WO (X : Cx) (f : Value → Value → Sem Value) (x y : V) (H : Hp) (Q : VK) : Prop := ∀ (pins : List (Addr × Obj)) (s : Shared) (σ : L2.St) (v u : Value), Inv X pins σ H s → RelV x v → RelV y u → wpAny (model X.prog X.w) X.A (f v u) (EP X pins σ Q) X.xe s
theorem pe_W (e : Expr) : PE X e (WE X e) := ⟨fun pins s _ _ _ I h => h pins s I⟩
theorem pt_W (e : Expr) : PT X e (WT X e) := ⟨fun pins s _ _ _ I h => h pins s I⟩
theorem pa_W (es : List Expr) : PA X es (WA X es) := ⟨fun pos pins s _ _ _ I h => h pos pins s I⟩
theorem ps_W (st : Stmt) : PS X st (WS X st) := ⟨fun pins s _ _ _ I h => h pins s I⟩
theorem pss_W (st : List Stmt) : PSs X st (WSs X st) := ⟨fun pins s _ _ _ I h => h pins s I⟩
theorem pi_W (tg iter : Expr) : PI X tg iter (WI X tg iter) := ⟨fun pins s _ _ _ I h => h pins s I⟩
theorem or_W (f : Value → Value → Sem Value) : OpR X f (WO X f) := fun pins s σ H x y v u Q I rx ry h => h pins s σ v u I rx ry
variable {e a b c : Expr} {σ : L2.St} {H : Hp} {Q Q' : VK} {pos : Pos}
theorem WE.of {t : TE} (h : PE X e t) (q : t σ H Q) : WE X e σ H Q := fun pins s I => h.run pins s σ H Q I q
theorem WT.of {t : TT} {Q : Bool → Hp → Prop} (h : PT X e t) (q : t σ H Q) : WT X e σ H Q := fun pins s I => h.run pins s σ H Q I q
theorem WA.of {es : List Expr} {t : TA} {Q : List V → Hp → Prop} (h : PA X es t) (q : t σ H Q) : WA X es σ H Q := fun pos pins s I => h.run pos pins s σ H Q I q
theorem WS.of {st : Stmt} {t : TS} {D : Ends} (h : PS X st t) (q : t D σ H) : WS X st D σ H := fun pins s I => h.run pins s σ H D I q
theorem WSs.of {st : List Stmt} {t : TS} {D : Ends} (h : PSs X st t) (q : t D σ H) : WSs X st D σ H := fun pins s I => h.run pins s σ H D I q
theorem WI.of {tg : Expr} {t : TI} {R : It → Hp → Prop} (h : PI X tg e t) (q : t σ H R) : WI X tg e σ H R := fun pins s I => h.run pins s σ H R I q
theorem WO.of {f : Value → Value → Sem Value} {r : R2} {x y : V} (h : OpR X f r) (q : r x y H Q) : WO X f x y H Q := fun pins s σ v u I rx ry => h pins s σ H x y v u Q I rx ry q
theorem WE.mono (h : WE X e σ H Q) (k : ∀ v H', Q v H' → Q' v H') : WE X e σ H Q' := fun pins s I =>
  thn (h pins s I) fun u s' ⟨v, H', I', r, q⟩ => ⟨v, H', I', r, k v H' q⟩
theorem WT.mono {Q Q' : Bool → Hp → Prop} (h : WT X e σ H Q) (k : ∀ v H', Q v H' → Q' v H') : WT X e σ H Q' := fun pins s I =>
  thn (h pins s I) fun u s' ⟨H', I', q⟩ => ⟨H', I', k u H' q⟩
theorem WA.mono {es : List Expr} {Q Q' : List V → Hp → Prop} (h : WA X es σ H Q) (k : ∀ v H', Q v H' → Q' v H') : WA X es σ H Q' := fun pos pins s I =>
  thn (h pos pins s I) fun u s' ⟨v, H', I', r, q⟩ => ⟨v, H', I', r, k v H' q⟩
theorem WO.mono {f : Value → Value → Sem Value} {x y : V} (h : WO X f x y H Q) (k : ∀ v H', Q v H' → Q' v H') : WO X f x y H Q' := fun pins s σ v u I rx ry =>
  thn (h pins s σ v u I rx ry) fun u s' ⟨v, H', I', r, q⟩ => ⟨v, H', I', r, k v H' q⟩
theorem WI.mono {tg : Expr} {R R' : It → Hp → Prop} (h : WI X tg e σ H R) (k : ∀ J H', R J H' → R' J H') : WI X tg e σ H R' := fun pins s I =>
  thn (h pins s I) fun v s1 q => thn q fun itv s2 ⟨it, fp, tn, J, H', z, I', T, t0, f, r⟩ => ⟨it, fp, tn, J, H', z, I', T, t0, f, k J H' r⟩
theorem WS.mono {st : Stmt} {D D' : Ends} (h : WS X st D σ H) (k1 : ∀ σ H, D.nx σ H → D'.nx σ H) (k2 : ∀ v H, D.rt v H → D'.rt v H) (k3 : ∀ σ H, D.bk σ H → D'.bk σ H) (k4 : ∀ σ H, D.ct σ H → D'.ct σ H) : WS X st D' σ H := fun pins s I =>
  thn (h pins s I) fun f s' q => by
    cases f with
    | next => obtain ⟨σ', H', I', q⟩ := q; exact ⟨σ', H', I', k1 _ _ q⟩
    | brk => obtain ⟨σ', H', I', q⟩ := q; exact ⟨σ', H', I', k3 _ _ q⟩
    | cont => obtain ⟨σ', H', I', q⟩ := q; exact ⟨σ', H', I', k4 _ _ q⟩
    | ret u => obtain ⟨v, σ', H', I', r, q⟩ := q; exact ⟨v, σ', H', I', r, k2 _ _ q⟩
theorem WSs.mono {st : List Stmt} {D D' : Ends} (h : WSs X st D σ H) (k1 : ∀ σ H, D.nx σ H → D'.nx σ H) (k2 : ∀ v H, D.rt v H → D'.rt v H) (k3 : ∀ σ H, D.bk σ H → D'.bk σ H) (k4 : ∀ σ H, D.ct σ H → D'.ct σ H) : WSs X st D' σ H := fun pins s I =>
  thn (h pins s I) fun f s' q => by
    cases f with
    | next => obtain ⟨σ', H', I', q⟩ := q; exact ⟨σ', H', I', k1 _ _ q⟩
    | brk => obtain ⟨σ', H', I', q⟩ := q; exact ⟨σ', H', I', k3 _ _ q⟩
    | cont => obtain ⟨σ', H', I', q⟩ := q; exact ⟨σ', H', I', k4 _ _ q⟩
    | ret u => obtain ⟨v, σ', H', I', r, q⟩ := q; exact ⟨v, σ', H', I', r, k2 _ _ q⟩
end

/-! ### what is wanted behind a piece -/
/-- from (m, H) to a heap that bears S' -/
def PH (K : PySem.W.Frag) (m : List Addr) (H : Hp) (S' : Sto) (Z : List Addr → Hp → Prop) (H' : Hp) : Prop := ∃ m', m <+: m' ∧ TK H H' ∧ RS K H' m' S' ∧ Z m' H'
def PV (K : PySem.W.Frag) (m : List Addr) (H : Hp) (S' : Sto) (d : D) (v : V) (H' : Hp) : Prop := PH K m H S' (fun m' H' => RV K H' m' d v) H'
def PVs (K : PySem.W.Frag) (m : List Addr) (H : Hp) (S' : Sto) (ds : List D) (vs : List V) (H' : Hp) : Prop := PH K m H S' (fun m' H' => RVs K H' m' ds vs) H'
theorem PH.imp {K : PySem.W.Frag} {m m1 : List Addr} {H H1 H' : Hp} {S' : Sto} {Z Z' : List Addr → Hp → Prop} (h : PH K m1 H1 S' Z H') (p : m <+: m1) (t : TK H H1) (k : ∀ m', m1 <+: m' → TK H1 H' → Z m' H' → Z' m' H') : PH K m H S' Z' H' := by
  obtain ⟨m', p', t', r, z⟩ := h
  exact ⟨m', p.trans p', t.trans t', r, k m' p' t' z⟩
theorem PV.up {K : PySem.W.Frag} {m m1 : List Addr} {H H1 H' : Hp} {S' : Sto} {d : D} {v : V} (h : PV K m1 H1 S' d v H') (p : m <+: m1) (t : TK H H1) : PV K m H S' d v H' := PH.imp h p t fun _ _ _ z => z
theorem PV.here {K : PySem.W.Frag} {m : List Addr} {H : Hp} {S : Sto} {d : D} {v : V} (r : RS K H m S) (q : RV K H m d v) : PV K m H S d v H := ⟨m, List.prefix_refl m, TK.refl H, r, q⟩

/-- an expression does as f does; a test; arguments; an iterable -/
def SE (X : Cx) (e : Expr) (f : Env → Sto → R D) : Prop := ∀ ρ S d S', f ρ S = some (d, S') → ∀ m σ H, RE X.K H m ρ σ → RS X.K H m S → WE X e σ H (PV X.K m H S' d)
def ST (X : Cx) (e : Expr) (f : Env → Sto → R D) : Prop := ∀ ρ S d S', f ρ S = some (d, S') → ∀ k, truthD S' d = some k → ∀ m σ H, RE X.K H m ρ σ → RS X.K H m S → WT X e σ H (fun b H' => b = k ∧ PH X.K m H S' (fun _ _ => True) H')
def SA (X : Cx) (es : List Expr) (f : Env → Sto → R (List D)) : Prop := ∀ ρ S ds S', f ρ S = some (ds, S') → ∀ m σ H, RE X.K H m ρ σ → RS X.K H m S → WA X es σ H (PVs X.K m H S' ds)
/-- an operation on values does as g does -/
def SO (X : Cx) (f : Value → Value → Sem Value) (g : Sto → D → D → R D) : Prop := ∀ S x y d S', g S x y = some (d, S') → ∀ m H vx vy, RS X.K H m S → RV X.K H m x vx → RV X.K H m y vy → WO X f vx vy H (PV X.K m H S' d)

section
variable {X : Cx} {a b c : Expr} {pos : Pos} {fa fb fc : Env → Sto → R D}
/-- an expression whose test is its value's truth -/
def Plain (X : Cx) (e : Expr) : Prop := ∀ whole, isTrue e X.env whole = (do let v ← whole; standAt e.pos; holding [v] (truthy v))
theorem RS.items {K : PySem.W.Frag} {H : Hp} {m : List Addr} {S : Sto} (r : RS K H m S) {n : Nat} {a : Addr} {xs : List D} (e : m[n]? = some a) (h : itemsAt S n = some xs) : ∃ vs, SqL K H a vs ∧ RVs K H m xs vs := by
  unfold itemsAt at h
  cases hS : S[n]? with
  | none => rw [hS] at h; cases h
  | some o =>
    have q := r.obj n a o e hS
    rw [hS] at h
    cases o with
    | lst ds => obtain ⟨vs, q, hr⟩ := q; cases h; exact ⟨vs, .inl (.inl q), hr⟩
    | fz ds => obtain ⟨o, vs, q, hr⟩ := q; cases h; exact ⟨vs, .inl (.inr ⟨o, q⟩), hr⟩
theorem RVs.empty {K : PySem.W.Frag} {H : Hp} {m : List Addr} {ds : List D} {vs : List V} (h : RVs K H m ds vs) : (!ds.isEmpty) = !vs.isEmpty := by
  cases h <;> rfl
theorem tru_RV {K : PySem.W.Frag} {H : Hp} {m : List Addr} {S : Sto} (r : RS K H m S) {d : D} {v : V} {k : Bool} (q : RV K H m d v) (h : truthD S d = some k) : TruV K v H k := by
  cases q with
  | non => cases h; rfl
  | bl b => cases h; rfl
  | int i => cases h; rfl
  | str s =>
    simp only [truthD] at h
    split at h
    · cases h
      exact ⟨Nat.le_trans (by assumption) (show 100000 ≤ sizeLine by decide), rfl⟩
    · cases h
  | @tup a vs ds hs hr =>
    cases h
    exact .inr (.inl ⟨vs, hs, hr.empty⟩)
  | @ref n a e =>
    simp only [truthD] at h
    cases hi : itemsAt S n with
    | none => rw [hi] at h; cases h
    | some xs =>
      rw [hi] at h
      cases h
      obtain ⟨vs, hq, hr⟩ := r.items e hi
      exact .inl ⟨vs, hq, hr.empty⟩
theorem ST.plain (h : SE X a fa) (hp : Plain X a) : ST X a fa := fun ρ S d S' e k hk m σ H he hs =>
  WT.of (pt_truth (pe_W a) hp) ((h ρ S d S' e m σ H he hs).mono fun v H' ⟨m', p, t, r, q⟩ => ⟨k, tru_RV r q hk, rfl, m', p, t, r, trivial⟩)
theorem se_bin {op : Operator} {g : Sto → D → D → R D} (ha : SE X a fa) (hb : SE X b fb) (ho : SO X (binaryOp op) g) : SE X (.BinOp a op b pos) (fun ρ S => bnd (fa ρ S) fun x S1 => bnd (fb ρ S1) fun y S2 => g S2 x y) := fun ρ S d S' e m σ H he hs => by
  obtain ⟨x, S1, e1, e⟩ := bnd_eq e
  obtain ⟨y, S2, e2, e⟩ := bnd_eq e
  refine WE.of (pe_op (or_W _) (pe_W a) (pe_W b)) ((ha ρ S x S1 e1 m σ H he hs).mono fun v H1 ⟨m1, p1, t1, r1, q1⟩ => ?_)
  refine (hb ρ S1 y S2 e2 m1 σ H1 (he.mono t1 p1) r1).mono fun u H2 ⟨m2, p2, t2, r2, q2⟩ => ?_
  exact (ho S2 x y d S' e m2 H2 v u r2 (q1.mono t2 p2) q2).mono fun w H3 h => h.up (p1.trans p2) (t1.trans t2)
end
end Ev
end
section
set_option Elab.async false
set_option linter.all false
set_option maxRecDepth 100000
set_option maxHeartbeats 4000000
/-! Defs that are called where no repr is under way. -/
namespace Ev
open PySem PySem.Spec PyProof.Rows L2

structure FnG (prog : Program) (w : World) (K : PySem.W.Frag) (mg : Str → Option Value) (base : Heap) (k : Nat) (f : Addr) (fd : FuncData) (ps : List Str) (sp : List V → Hp → VK → Prop) : Prop where
  len : ∀ vs H Q, sp vs H Q → vs.length = ps.length
  run : ∀ (A : Around) (outer : List PySem.Env) (s : Shared) (H : Hp) (args : Args) (us : List Value) (vs : List V) (Q : VK), Room k A → A.guards = some [] → Env0 prog w K mg base A outer s H → BindsTo s fd args (ps.zip us) → Vals vs us → sp vs H Q →
    codeAny (model prog w) A (.call (.ref f) args) (CR CX0 outer prog w H s Q E0) s
section
variable {prog : Program} {w : World} {K : PySem.W.Frag} {mg : Str → Option Value} {base : Heap} {k : Nat} {f : Addr} {fd : FuncData} {x : Str} {params : Arguments} {body : List Stmt} {scope : Scope} {N ps : List Str} {sp : List V → Hp → VK → Prop}
theorem fnG_of (hF : FunD K x x params body scope [] [] f fd) (hS : FnScope N ps scope) (hlen : ∀ vs H Q, sp vs H Q → vs.length = ps.length)
    (hb : ∀ (cdv : Value) (A : Around) (outer : List PySem.Env) (s : Shared) (H : Hp) (vs : List V) (Q : VK), Room k (A.deeper (envOfC x scope s.heap.objs.size f cdv)) → A.guards = some [] → sp vs H Q →
      WSs (cxOf CX0 prog w K mg base N x scope f cdv A outer s H E0).nox body { nx := fun _ H' => Q .non H', rt := Q } (start N vs) H) : FnG prog w K mg base (k + 1) f fd ps sp := by
  obtain ⟨oc, od, dV, kV, doc, pm, an, cdv, ct, osl, rfl, lk, hcd, _, _⟩ := hF.ex
  refine ⟨hlen, fun A outer s H args us vs Q hr hg e0 hbd rv hsp => ?_⟩
  have hold : ∀ b o, base.get? b = some o → s.heap.get? b = some o := fun b o e => (e0.bs b o e).1
  have kin := e0.mod.kin.keeps hold
  refine codeAny_call_function hr.depth (kin _ _ lk) rfl hS.co hS.gen rfl (PySem.W.codeRec_of kin hcd) (hbd _ _ _ _ ?_)
  refine wpAny_newFunctionEnv_cells hS.kind (fun y hy => ?_) fun env he s1 xx => ?_
  · obtain ⟨n, v⟩ := y
    exact (hS.par n (List.of_mem_zip hy).1).imp id fun q => ⟨q, PySem.W.cellsFrom_some _ _ _ (.inl q)⟩
  · subst he
    refine ⟨(e0.mod.nolimit.keeps hold).keeps xx.toInCall.keep, codeAny_func ?_⟩
    have I : Inv (cxOf CX0 prog w K mg base N x scope f cdv A outer s H E0) [] (start N vs) H s1 := inv_start hS hr.hd e0 (hlen _ _ _ hsp) rv xx
    have W := (PSs.nox (pss_W body)).run [] s1 (start N vs) H _ I (hb cdv A outer s H vs Q (hr.deeper _) hg hsp)
    refine wpAny_mono W (fun fl s' hs => ?_) fun e s' hs => hs
    cases fl with
    | ret u => obtain ⟨v, σ', H', J, r, q⟩ := hs; exact ⟨v, H', J.os, J.bare, J.base, J.hok, r, q⟩
    | next => obtain ⟨σ', H', J, q⟩ := hs; exact ⟨V.non, H', J.os, J.bare, J.base, J.hok, rfl, q⟩
    | brk => obtain ⟨_, _, _, q⟩ := hs; exact q.elim
    | cont => obtain ⟨_, _, _, q⟩ := hs; exact q.elim
end
section
variable {X : Cx} {k : Nat} {f : Addr} {fd : FuncData} {ps : List Str} {sp : List V → Hp → VK → Prop}
theorem runG (F : FnG X.prog X.w X.K X.mg X.base k f fd ps sp) (hr : Room k X.A) (hgd : X.A.guards = some []) (hb : Binds X.K fd ps []) {pins : List (Addr × Obj)} {σ : L2.St} {H : Hp} {s : Shared} {Q : VK} {us : List Value} {vs : List V} (I : Inv X pins σ H s) (rv : Vals vs us) (h : sp vs H Q) :
    wpAny (model X.prog X.w) X.A (call (.ref f) us) (EP X pins σ Q) X.xe s := by
  have hl : (us ++ ([] : List Value)).length = ps.length := by rw [List.append_nil, ← rv.length]; exact F.len _ _ _ h
  have z := hb s us I.kIn hl
  rw [List.append_nil] at z
  refine wpAny_call (codeAny_mono (F.run X.A X.stack s H ⟨us, []⟩ us vs Q hr hgd I.env0 z rv h) fun r s' hq => ?_)
  match r, hq with
  | .error e, hq => exact hq.elim
  | .ok (.ret u), hq => exact I.after hq
  | .ok .next, hq => exact hq.elim
  | .ok .brk, hq => exact hq.elim
  | .ok .cont, hq => exact hq.elim
end
/-- a law's call: from the promise of its def to the row -/
theorem walkG {l : PySem.W.OpenLaw} {n k : Nat} {q : Program} {loose : List Str} {XP : (Str → Option Value) → Heap → Prop} {YP : World → Heap → Prop} {d : DefRec} {x : Str} (hn : l.most = some n) (hn2 : n ≤ sizeLine) (hdf : d.params.defaults = []) (hr : Room k callerA)
    (F : ∀ (w : World) (mg : Str → Option Value) (fa : Addr) (h : Heap), YP w h → h.Ns mainGlobals mg → mg d.name = some (.ref fa) → ∃ (K : PySem.W.Frag) (fd : FuncData) (sp : List V → Hp → VK → Prop), K.In h ∧ (∀ (s : Shared) (u : Value), BindsTo s fd ⟨[u], []⟩ [(x, u)]) ∧
      (∀ (H : Hp) (a : Addr) (ns : List Int), ns.length ≤ n → (∃ o, H a = some (.frz o (.lst (ns.map V.int)))) → sp [.ref a] H (fun v _ => v = .bl true)) ∧ (∀ a o, K.lookup a = some o → o.cls ≠ .type "list") ∧
      ∀ base : Heap, K.In base → base.Ns mainGlobals mg → FnG l.prog w K mg base k fa fd [x] sp) : PySem.W.WalkO q loose XP YP l.row.toRowW d [] (fun f vs => PySem.call f vs) := by
  refine Att.attach_call hn hdf fun w s₀ s₁ mg mb fa o pm cd doc a vs ns G Y ho hd hcd hmg hobj hints hlen hg => ?_
  obtain ⟨K, fd, sp, KX, hb, hsp, hnl, hF⟩ := F w mg fa _ Y G.T.g hmg
  let ob : Obj := { cls := .type "list", data := .seq vs.toArray }
  let H : Hp := fun b => if b = a then some (.frz ob (.lst (ns.map V.int))) else none
  have hHa : H a = some (.frz ob (.lst (ns.map V.int))) := if_pos rfl
  have hH : ∀ b, b ≠ a → H b = none := fun b hb => if_neg hb
  have hok : HOk l.prog w H s₁.heap := fun b o e => by
    by_cases hba : b = a
    · subst hba
      rw [hHa] at e
      cases e
      exact ⟨hobj, by rw [List.length_map]; exact Nat.le_trans hlen hn2, vs, _, vals_ints hints, hobj⟩
    · rw [hH b hba] at e; cases e
  have hna : ∀ {b : Addr} {o : Obj} {es : Array DictEntry} {ep : Nat}, s₁.heap.get? b = some o → o.data = .dict es ep → b ≠ a := fun {b o es ep} e dd z => by
    subst z
    rw [hobj] at e
    cases e
    cases dd
  have hid : ∀ {b : Addr} {o : Obj}, s₁.heap.get? b = some o → b ≠ a → (hidT s₁.heap H).get? b = some o := fun {b o} e z => hidT_get e (hH b z)
  have ns' : ∀ {b : Addr} {m : Str → Option Value}, s₁.heap.Ns b m → (hidT s₁.heap H).Ns b m := fun {b m} h => by
    obtain ⟨o, es, ep, e, dd, r⟩ := h
    exact ⟨o, es, ep, hid e (hna e dd), dd, r⟩
  have hK : K.In (hidT s₁.heap H) := fun b o e => hid (KX b o e) fun z => by
    subst z
    have z2 := KX b o e
    rw [hobj] at z2
    cases z2
    exact hnl b _ e rfl
  obtain ⟨mc, l1, l2⟩ := G.T.nolimit
  have md : Mod K mg (hidT s₁.heap H) := ⟨hK, ns' G.T.g, ⟨mb, ns' G.T.b, G.T.builtins⟩, ⟨mc, ns' l1, l2⟩⟩
  have none_mem : ∀ {b : Addr}, b ∉ ([] : List Addr) := fun {b} z => nomatch z
  have en : Env0 l.prog w K mg (hidT s₁.heap H) callerA [] s₁ H := ⟨rfl, md, fun b o e => of_hidT e, Nat.le_of_eq (hidT_size _ _), trivial, fun b z => (none_mem z).elim, hok, .of_eq hg⟩
  have go := (hF _ hK (ns' G.T.g)).run callerA [] s₁ H ⟨[.ref a], []⟩ [.ref a] [.ref a] _ hr rfl en (hb s₁ (.ref a)) (.cons rfl .nil) (hsp H a ns hlen ⟨_, hHa⟩)
  refine codeAny_mono go fun r s' h => ?_
  match r, h with
  | .error e, h => exact h.elim
  | .ok .next, h => exact h.elim
  | .ok .brk, h => exact h.elim
  | .ok .cont, h => exact h.elim
  | .ok (.ret u), h =>
    obtain ⟨v, H', os, bare, un, ok', r', q'⟩ := h
    cases (show v = .bl true from q')
    obtain rfl : u = Value.bool true := r'
    refine ⟨rfl, OldK.of_keep fun b o e => ?_, os, bare⟩
    by_cases hba : b = a
    · have z := un.frzs b ob (.lst (ns.map V.int)) (by rw [hba]; exact hHa)
      obtain ⟨z1, _⟩ := ok' b _ z
      have z2 : s₁.heap.get? b = some ob := by rw [hba]; exact hobj
      rw [e] at z2
      cases z2
      exact z1
    · exact un.keep b o e (hH b hba) (fun z => none_mem z) (fun z => none_mem z)
end Ev
end
section
set_option Elab.async false
set_option linter.all false
set_option maxRecDepth 100000
set_option maxHeartbeats 4000000
/-! Operations on values. -/
namespace Ev
open PySem PySem.Spec PyProof.Rows L2

section
variable {K : PySem.W.Frag} {H : Hp} {m : List Addr} {S : Sto}
theorem le_size {n : Nat} (h : n ≤ 100000) : n ≤ sizeLine := Nat.le_trans h (by decide)
theorem lt_size {n : Nat} (h : n < 100000) : n < sizeLine := Nat.lt_of_lt_of_le h (by decide)
/-- a datum as a whole, read off the heap -/
theorem dp_of (r : RS K H m S) : ∀ (k : Nat) (d : D) (p : PyData) (v : V), pyD k S d = some p → RV K H m d v → Dp K H v p ∧ p.canLay0 = true ∧ p.depth ≤ k := by
  have scal : ∀ (k : Nat) (d : D) (p : PyData) (v : V), (match d with | .tup _ => false | .ref _ => false | _ => true) = true → pyD k S d = some p → RV K H m d v → Dp K H v p ∧ p.canLay0 = true ∧ p.depth ≤ k := by
    intro k d p v hd e q
    cases d with
    | non => cases q; simp only [pyD] at e; cases e; exact ⟨.non, rfl, by simp [PyData.depth]⟩
    | bl b => cases q; simp only [pyD] at e; cases e; exact ⟨.bl b, rfl, by simp [PyData.depth]⟩
    | int i => cases q; simp only [pyD] at e; cases e; exact ⟨.int i, rfl, by simp [PyData.depth]⟩
    | str s =>
      cases q; simp only [pyD] at e
      split at e
      · rename_i h; cases e; exact ⟨.str s, by simpa [PyData.canLay0] using h, by simp [PyData.depth]⟩
      · cases e
    | tup _ => cases hd
    | ref _ => cases hd
  intro k
  induction k with
  | zero =>
    intro d p v e q
    cases d with
    | tup _ => simp [pyD] at e
    | ref _ => simp [pyD] at e
    | _ => exact scal 0 _ p v rfl e q
  | succ k ih =>
    have all : ∀ (xs : List D) (ps : List PyData) (vs : List V), optAll (xs.map (pyD k S)) = some ps → RVs K H m xs vs → DpAll K H vs ps ∧ PyData.canLayAll0 ps = true ∧ PyData.depthAll ps ≤ k := by
      intro xs
      induction xs with
      | nil => intro ps vs e q; cases q; cases e; exact ⟨.nil, rfl, by simp [PyData.depthAll]⟩
      | cons x xs ihx =>
        intro ps vs e q
        cases q with
        | cons q1 q2 =>
          rw [List.map_cons] at e
          cases hx : pyD k S x with
          | none => rw [hx] at e; cases e
          | some p =>
            rw [hx, optAll] at e
            cases hr : optAll (xs.map (pyD k S)) with
            | none => rw [hr] at e; cases e
            | some rs =>
              rw [hr] at e; cases e
              obtain ⟨a1, a2, a3⟩ := ih x p _ hx q1
              obtain ⟨b1, b2, b3⟩ := ihx rs _ hr q2
              refine ⟨.cons a1 b1, ?_, ?_⟩
              · simp [PyData.canLayAll0, a2, b2]
              · simp [PyData.depthAll]; omega
    intro d p v e q
    cases d with
    | tup xs =>
      cases q with
      | tup hs hr =>
        simp only [pyD] at e
        cases hx : optAll (xs.map (pyD k S)) with
        | none => rw [hx] at e; cases e
        | some ps =>
          rw [hx] at e; cases e
          obtain ⟨a1, a2, a3⟩ := all xs ps _ hx hr
          exact ⟨.tup hs a1, by simpa [PyData.canLay0] using a2, by simp [PyData.depth]; omega⟩
    | ref n =>
      cases q with
      | ref ea =>
        simp only [pyD] at e
        cases hi : itemsAt S n with
        | none => rw [hi] at e; cases e
        | some xs =>
          rw [hi] at e
          simp only [Option.bind_some] at e
          cases hx : optAll (xs.map (pyD k S)) with
          | none => rw [hx] at e; cases e
          | some ps =>
            rw [hx] at e; cases e
            obtain ⟨vs, hs, hr⟩ := r.items ea hi
            obtain ⟨a1, a2, a3⟩ := all xs ps _ hx hr
            exact ⟨.lst hs a1, by simpa [PyData.canLay0] using a2, by simp [PyData.depth]; omega⟩
    | _ => exact scal (k + 1) _ p v rfl e q
theorem shaped_of {k : Nat} {p : PyData} (h1 : p.canLay0 = true) (h2 : p.depth ≤ k) (hk : k ≤ 64 := by decide) : SeqAt.shaped p = true := by
  unfold SeqAt.shaped
  rw [h1, Bool.true_and]
  exact decide_eq_true (by omega)
/-- a new tuple, a new list -/
theorem pv_newT (r : RS K H m S) {xs : List D} {vs : List V} (q : RVs K H m xs vs) {p : Addr} (h : H p = none) : PV K m H S (.tup xs) (.ref p) (upd H p (.tup vs)) :=
  ⟨m, List.prefix_refl m, TK.new h, r.tup h, .tup (SqT.of upd_same) (q.mono (TK.new h) (List.prefix_refl m))⟩
theorem pv_newL (r : RS K H m S) {xs : List D} {vs : List V} (q : RVs K H m xs vs) {p : Addr} (h : H p = none) : PV K m H (S ++ [.lst xs]) (.ref S.length) (.ref p) (upd H p (.lst vs)) :=
  ⟨m ++ [p], List.prefix_append _ _, TK.new h, r.new h ⟨vs, upd_same, q.mono (TK.new h) (List.prefix_append _ _)⟩, .ref (by rw [← r.len, List.getElem?_append_right (Nat.le_refl _)]; simp)⟩
end

section
variable {X : Cx} {k : Nat}
theorem so_bin (op : Operator) : SO X (binaryOp op) (fun S x y => binD S op x y) := by
  intro S x y d S' e m H vx vy r qx qy
  replace e : binD S op x y = some (d, S') := e
  unfold binD at e
  split at e
  · cases e; cases qx; cases qy
    exact WO.of op_add ⟨_, _, rfl, rfl, .here r (.int _)⟩
  · split at e
    · cases e; cases qx; cases qy
      exact WO.of op_add_str ⟨_, _, rfl, rfl, le_size (by assumption), .here r (.str _)⟩
    · cases e
  · unfold newT at e
    split at e
    · rename_i hz
      cases e
      cases qx with
      | @tup a vs xs hs hr =>
        cases qy with
        | @tup b us ys hs' hr' =>
          refine WO.of op_catA ⟨a, b, vs, us, rfl, rfl, hs, hs', ?_, fun z => ?_, fun _ z => ?_, fun _ _ p hp => ?_⟩
          · rw [← hr.length, ← hr'.length, ← List.length_append]; exact le_size hz
          · subst z; cases hr; exact .here r (.tup hs' hr')
          · subst z; cases hr'; rw [List.append_nil]; exact .here r (.tup hs hr)
          · exact pv_newT r (hr.append hr') hp
    · cases e
  · split at e
    · rename_i x1 x2 n1 n2 xs ys h1 h2
      unfold newL at e
      split at e
      · rename_i hz
        cases e
        cases qx with
        | @ref _ a ea =>
          cases qy with
          | @ref _ b eb =>
            obtain ⟨vs, hv, hr⟩ := r.obj _ a _ ea h1
            obtain ⟨us, hu, hr'⟩ := r.obj _ b _ eb h2
            refine WO.of op_cat ⟨a, b, vs, us, rfl, rfl, hv, hu, ?_, fun p hp => ?_⟩
            · rw [← hr.length, ← hr'.length, ← List.length_append]; exact le_size hz
            · exact pv_newL r (hr.append hr') hp
      · cases e
    · cases e
  · cases e; cases qx; cases qy
    exact WO.of op_sub ⟨_, _, rfl, rfl, .here r (.int _)⟩
  · split at e
    · rename_i hz
      cases e; cases qx; cases qy
      exact WO.of op_mul ⟨_, _, rfl, rfl, hz, .here r (.int _)⟩
    · cases e
  · split at e
    · rename_i hz
      cases e; cases qx; cases qy
      exact WO.of op_fdiv ⟨_, _, rfl, rfl, hz, .here r (.int _)⟩
    · cases e
  · split at e
    · rename_i hz
      cases e; cases qx; cases qy
      exact WO.of op_mod ⟨_, _, rfl, rfl, hz, .here r (.int _)⟩
    · cases e
  · split at e
    · rename_i hz
      cases e; cases qx; cases qy
      exact WO.of op_pow ⟨_, _, rfl, rfl, hz, .here r (.int _)⟩
    · cases e
  · cases e

/-- a comparison's answer -/
def SC (X : Cx) (op : CmpOp) (g : Sto → D → D → Option Bool) : Prop := ∀ S x y k, g S x y = some k → ∀ m H vx vy, RS X.K H m S → RV X.K H m x vx → RV X.K H m y vy → ∀ Q : VK, Q (.bl k) H → WO X (compareOp op) vx vy H Q
theorem SC.so {op : CmpOp} {g : Sto → D → D → Option Bool} (h : SC X op g) : SO X (compareOp op) (fun S x y => (g S x y).map fun k => (.bl k, S)) := by
  intro S x y d S' e m H vx vy r qx qy
  replace e : (g S x y).map (fun k => (D.bl k, S)) = some (d, S') := e
  cases hg : g S x y with
  | none => rw [hg] at e; cases e
  | some k => rw [hg] at e; cases e; exact h S x y k hg m H vx vy r qx qy _ (.here r (.bl k))
theorem opt_not {o : Option Bool} {k : Bool} (h : o.map (!·) = some k) : o = some (!k) := by
  cases o with
  | none => cases h
  | some b => cases h; simp
theorem units64 {n : Nat} {A : Around} (hr : Room n A) : A.units + 66 < cLine := by have := hr.un; omega
theorem sc_eq (hr : Room k X.A) : SC X .Eq eqD := by
  intro S x y b e m H vx vy r qx qy Q q
  unfold eqD at e
  split at e
  · rename_i p1 p2 h1 h2
    cases e
    obtain ⟨a1, a2, a3⟩ := dp_of r 60 x p1 vx h1 qx
    obtain ⟨b1, b2, b3⟩ := dp_of r 60 y p2 vy h2 qy
    exact WO.of (op_eqD (by have := units64 hr; omega)) ⟨p1, p2, a1, b1, shaped_of a2 a3, shaped_of b2 b3, q⟩
  · cases e
theorem sc_ne (hr : Room k X.A) : SC X .NotEq (fun S x y => (eqD S x y).map (!·)) := by
  intro S x y b e m H vx vy r qx qy Q q
  replace e := opt_not e
  unfold eqD at e
  split at e
  · rename_i p1 p2 h1 h2
    have e := Option.some.inj e
    obtain ⟨a1, a2, a3⟩ := dp_of r 60 x p1 vx h1 qx
    obtain ⟨b1, b2, b3⟩ := dp_of r 60 y p2 vy h2 qy
    refine WO.of (op_neD (by have := units64 hr; omega)) ⟨p1, p2, a1, b1, shaped_of a2 a3, shaped_of b2 b3, ?_⟩
    rw [e, Bool.not_not]; exact q
  · cases e
/-- a < b of data that are alike -/
theorem op_ltD (hr : Room k X.A) : OpR X (compareOp .Lt) (fun x y H Q => ∃ d e, Dp X.K H x d ∧ Dp X.K H y e ∧ d ≠ .none ∧ d.depth ≤ 60 ∧ PySem.W.alike d e = true ∧ Q (.bl (PySem.W.dataLt d e)) H) := by
  intro pins s σ H x y v u Q I rx ry h
  obtain ⟨d, e, hx, hy, hn, hd, ha, q⟩ := h
  obtain ⟨as, r1⟩ := Dp.reads I d x v hx rx
  obtain ⟨bs, r2⟩ := Dp.reads I e y u hy ry
  have := units64 hr
  have z := PySem.W.rcLt_alike d e X.A s v u as bs r1 r2 ha hn (by have := Nat.min_le_left d.depth e.depth; omega)
  exact z X.prog X.w _ _ ⟨.bl _, H, I, rfl, q⟩
theorem sc_lt (hr : Room k X.A) : SC X .Lt ltD := by
  intro S x y b e m H vx vy r qx qy Q q
  unfold ltD at e
  split at e
  · cases e; cases qx; cases qy
    exact WO.of op_lt ⟨_, _, rfl, rfl, q⟩
  · split at e
    · rename_i p1 p2 h1 h2
      split at e
      · rename_i hal
        cases e
        obtain ⟨a1, a2, a3⟩ := dp_of r 60 x p1 vx h1 qx
        obtain ⟨b1, b2, b3⟩ := dp_of r 60 y p2 vy h2 qy
        exact WO.of (op_ltD hr) ⟨p1, p2, a1, b1, hal.2, a3, hal.1, q⟩
      · cases e
    · cases e
theorem op_inT (hr : Room k X.A) : OpR X (compareOp .In) (fun x y H Q => ∃ d ds, Dp X.K H x d ∧ Dp X.K H y (.tuple ds) ∧ SeqAt.shaped d = true ∧ SeqAt.shaped (.tuple ds) = true ∧ Q (.bl (ds.any fun z => PyData.eqv z d)) H) := by
  intro pins s σ H x y v u Q I rx ry h
  obtain ⟨d, ds, hd, he, sd, se, q⟩ := h
  obtain ⟨as, r1⟩ := Dp.reads I d x v hd rx
  obtain ⟨bs, r2⟩ := Dp.reads I (.tuple ds) y u he ry
  refine SeqAt.in_tuple_reads r2 r1 (by simpa [PyData.canLay0] using SeqAt.canLay_of_shaped se) (SeqAt.canLay_of_shaped sd) ?_ ⟨.bl _, H, I, rfl, q⟩
  have h1 := SeqAt.depth_of_shaped sd
  have h2 := Nat.min_le_right (PyData.depthAll ds) d.depth
  have h3 := units64 hr
  omega
theorem op_notInT (hr : Room k X.A) : OpR X (compareOp .NotIn) (fun x y H Q => ∃ d ds, Dp X.K H x d ∧ Dp X.K H y (.tuple ds) ∧ SeqAt.shaped d = true ∧ SeqAt.shaped (.tuple ds) = true ∧ Q (.bl (!ds.any fun z => PyData.eqv z d)) H) := by
  intro pins s σ H x y v u Q I rx ry h
  obtain ⟨d, ds, hd, he, sd, se, q⟩ := h
  obtain ⟨as, r1⟩ := Dp.reads I d x v hd rx
  obtain ⟨bs, r2⟩ := Dp.reads I (.tuple ds) y u he ry
  refine SeqAt.notIn_tuple_reads r2 r1 (by simpa [PyData.canLay0] using SeqAt.canLay_of_shaped se) (SeqAt.canLay_of_shaped sd) ?_ ⟨.bl _, H, I, rfl, q⟩
  have h1 := SeqAt.depth_of_shaped sd
  have h2 := Nat.min_le_right (PyData.depthAll ds) d.depth
  have h3 := units64 hr
  omega
theorem sign_of {x : Str} {c : Nat} (h : x.cps.toList = [c]) : x = ⟨#[c]⟩ := by
  obtain ⟨⟨l⟩⟩ := x
  simp at h
  subst h
  rfl
theorem sc_in (hr : Room k X.A) : SC X .In inD := by
  intro S x y b e m H vx vy r qx qy Q q
  unfold inD at e
  split at e
  · split at e
    · rename_i hc
      cases e; cases qx; cases qy
      exact WO.of op_in_sign ⟨_, _, by rw [sign_of hc], rfl, q⟩
    · cases e
  · split at e
    · rename_i p ps h1 h2
      cases e
      obtain ⟨a1, a2, a3⟩ := dp_of r 60 x p vx h1 qx
      obtain ⟨b1, b2, b3⟩ := dp_of r 60 y _ vy h2 qy
      exact WO.of (op_inD (by have := units64 hr; omega)) ⟨p, ps, a1, b1, shaped_of a2 a3, shaped_of b2 b3, q⟩
    · rename_i p ps h1 h2
      cases e
      obtain ⟨a1, a2, a3⟩ := dp_of r 60 x p vx h1 qx
      obtain ⟨b1, b2, b3⟩ := dp_of r 60 y _ vy h2 qy
      exact WO.of (op_inT hr) ⟨p, ps, a1, b1, shaped_of a2 a3, shaped_of b2 b3, q⟩
    · cases e
theorem sc_notIn (hr : Room k X.A) : SC X .NotIn (fun S x y => (inD S x y).map (!·)) := by
  intro S x y b e m H vx vy r qx qy Q q
  replace e := opt_not e
  unfold inD at e
  split at e
  · split at e
    · rename_i hc
      have e := Option.some.inj e
      cases qx; cases qy
      refine WO.of op_notIn_sign ⟨_, _, by rw [sign_of hc], rfl, ?_⟩
      rw [e, Bool.not_not]; exact q
    · cases e
  · split at e
    · rename_i p ps h1 h2
      have e := Option.some.inj e
      obtain ⟨a1, a2, a3⟩ := dp_of r 60 x p vx h1 qx
      obtain ⟨b1, b2, b3⟩ := dp_of r 60 y _ vy h2 qy
      refine WO.of (op_notInD (by have := units64 hr; omega)) ⟨p, ps, a1, b1, shaped_of a2 a3, shaped_of b2 b3, ?_⟩
      rw [e, Bool.not_not]; exact q
    · rename_i p ps h1 h2
      have e := Option.some.inj e
      obtain ⟨a1, a2, a3⟩ := dp_of r 60 x p vx h1 qx
      obtain ⟨b1, b2, b3⟩ := dp_of r 60 y _ vy h2 qy
      refine WO.of (op_notInT hr) ⟨p, ps, a1, b1, shaped_of a2 a3, shaped_of b2 b3, ?_⟩
      rw [e, Bool.not_not]; exact q
    · cases e
theorem sc_is : SC X .Is (fun _ x y => isD x y) := by
  intro S x y b e m H vx vy r qx qy Q q
  replace e : isD x y = some b := e
  unfold isD at e
  split at e
  · have e := Option.some.inj e
    cases qy
    refine WO.of op_isN ⟨rfl, ?_⟩
    cases qx <;> (subst e; exact q)
  · cases e; cases qx; cases qy
    exact WO.of op_isBl ⟨_, _, rfl, rfl, q⟩
  · cases e
theorem sc_isNot : SC X .IsNot (fun _ x y => (isD x y).map (!·)) := by
  intro S x y b e m H vx vy r qx qy Q q
  replace e := opt_not e
  unfold isD at e
  split at e
  · have e := Option.some.inj e
    have e2 : b = !!b := by simp
    rw [← e] at e2
    cases qy
    refine WO.of op_notN ⟨rfl, ?_⟩
    cases qx <;> (subst e2; exact q)
  · have e := Option.some.inj e
    cases qx; cases qy
    refine WO.of op_notBl ⟨_, _, rfl, rfl, ?_⟩
    rw [e, Bool.not_not]; exact q
  · cases e
theorem sc_cmp (hr : Room k X.A) (op : CmpOp) : SC X op (fun S x y => cmpD S op x y) := by
  intro S x y b e m H vx vy r qx qy Q q
  replace e : cmpD S op x y = some b := e
  unfold cmpD at e
  split at e
  · exact sc_eq hr S x y b e m H vx vy r qx qy Q q
  · exact sc_ne hr S x y b e m H vx vy r qx qy Q q
  · exact sc_lt hr S x y b e m H vx vy r qx qy Q q
  · cases e; cases qx; cases qy; exact WO.of op_gt ⟨_, _, rfl, rfl, q⟩
  · cases e; cases qx; cases qy; exact WO.of op_le ⟨_, _, rfl, rfl, q⟩
  · cases e; cases qx; cases qy; exact WO.of op_ge ⟨_, _, rfl, rfl, q⟩
  · exact sc_is S x y b e m H vx vy r qx qy Q q
  · exact sc_isNot S x y b e m H vx vy r qx qy Q q
  · exact sc_in hr S x y b e m H vx vy r qx qy Q q
  · exact sc_notIn hr S x y b e m H vx vy r qx qy Q q
  · cases e
theorem so_cmp (hr : Room k X.A) (op : CmpOp) : SO X (compareOp op) (fun S x y => (cmpD S op x y).map fun k => (.bl k, S)) := (sc_cmp hr op).so
end
end Ev
end
section
set_option Elab.async false
set_option linter.all false
set_option maxRecDepth 100000
set_option maxHeartbeats 4000000
/-! Calls of built-ins, methods, subscripts, slices. -/
namespace Ev
open PySem PySem.Spec PyProof.Rows L2

section
variable {X : Cx} {k : Nat}
def WC (X : Cx) (f : Value) (xs : List V) (H : Hp) (Q : VK) : Prop := ∀ (pins : List (Addr × Obj)) (s : Shared) (σ : L2.St) (us : List Value), Inv X pins σ H s → Vals xs us → wpAny (model X.prog X.w) X.A (call f us) (EP X pins σ Q) X.xe s
theorem cr_W (f : Value) : CallR X f (WC X f) := fun pins s σ H xs us Q I r h => h pins s σ us I r
theorem WC.of {f : Value} {r : List V → Hp → VK → Prop} {xs : List V} {H : Hp} {Q : VK} (h : CallR X f r) (q : r xs H Q) : WC X f xs H Q := fun pins s σ us I rv => h pins s σ H xs us Q I rv q
theorem WC.mono {f : Value} {xs : List V} {H : Hp} {Q Q' : VK} (h : WC X f xs H Q) (z : ∀ v H', Q v H' → Q' v H') : WC X f xs H Q' := fun pins s σ us I rv =>
  thn (h pins s σ us I rv) fun u s' ⟨v, H', I', r, q⟩ => ⟨v, H', I', r, z v H' q⟩
/-- a built-in of one argument does as g does -/
def SB (X : Cx) (f : Value) (g : Sto → D → R D) : Prop := ∀ S x d S', g S x = some (d, S') → ∀ m H vx, RS X.K H m S → RV X.K H m x vx → WC X f [vx] H (PV X.K m H S' d)
def SB2 (X : Cx) (f : Value) (g : Sto → D → D → R D) : Prop := ∀ S x y d S', g S x y = some (d, S') → ∀ m H vx vy, RS X.K H m S → RV X.K H m x vx → RV X.K H m y vy → WC X f [vx, vy] H (PV X.K m H S' d)

theorem seq_sq {K : PySem.W.Frag} {H : Hp} {m : List Addr} {S : Sto} (r : RS K H m S) {d : D} {v : V} {xs : List D} (q : RV K H m d v) (h : seqD S d = some xs) : ∃ a vs, v = .ref a ∧ (SqL K H a vs ∨ SqT K H a vs) ∧ RVs K H m xs vs := by
  cases q with
  | @tup a vs ds hs hr => cases h; exact ⟨a, vs, rfl, .inr hs, hr⟩
  | @ref n a e =>
    obtain ⟨vs, h1, h2⟩ := r.items e h
    exact ⟨a, vs, rfl, .inl h1, h2⟩
  | _ => cases h
theorem sb_len : SB X (.builtin "len") (fun S x => b1D S .len x) := by
  intro S x d S' e m H vx r q
  replace e : (lenD S x).map (fun n => (D.int n, S)) = some (d, S') := e
  cases hl : lenD S x with
  | none => rw [hl] at e; cases e
  | some n =>
    rw [hl] at e; cases e
    refine WC.of call_len ⟨vx, n, rfl, ?_, .here r (.int _)⟩
    cases q with
    | str s =>
      simp only [lenD] at hl
      split at hl
      · cases hl; exact ⟨le_size (by assumption), rfl⟩
      · cases hl
    | @tup a vs ds hs hr => cases hl; exact .inr ⟨vs, hs, hr.length⟩
    | @ref n a e =>
      simp only [lenD] at hl
      cases hi : itemsAt S n with
      | none => rw [hi] at hl; cases hl
      | some xs =>
        rw [hi] at hl; cases hl
        obtain ⟨vs, h1, h2⟩ := r.items e hi
        exact .inl ⟨vs, h1, h2.length⟩
    | _ => cases hl
theorem sb_tuple : SB X (.type "tuple") (fun S x => b1D S .tuple x) := by
  intro S x d S' e m H vx r q
  cases q with
  | @tup a vs ds hs hr =>
    cases (show some (D.tup ds, S) = some (d, S') from e)
    exact WC.of call_tuple_of ⟨a, vs, rfl, .inr ⟨hs, .here r (.tup hs hr)⟩⟩
  | @ref n a ea =>
    replace e : (itemsAt S n).map (fun xs => (D.tup xs, S)) = some (d, S') := e
    cases hi : itemsAt S n with
    | none => rw [hi] at e; cases e
    | some xs =>
      rw [hi] at e; cases e
      obtain ⟨vs, h1, h2⟩ := r.items ea hi
      exact WC.of call_tuple_of ⟨a, vs, rfl, .inl ⟨h1, fun l hl => pv_newT r h2 hl⟩⟩
  | _ => cases e
theorem sb_list : SB X (.type "list") (fun S x => b1D S .list x) := by
  intro S x d S' e m H vx r q
  replace e : (seqD S x).bind (fun xs => newL S xs) = some (d, S') := by cases x <;> exact e
  cases hi : seqD S x with
  | none => rw [hi] at e; cases e
  | some xs =>
    rw [hi] at e
    replace e : newL S xs = some (d, S') := e
    unfold newL at e
    split at e
    · cases e
      obtain ⟨a, vs, rfl, h1, h2⟩ := seq_sq r q hi
      exact WC.of call_list_of ⟨a, vs, rfl, h1, fun l hl => pv_newL r h2 hl⟩
    · cases e
theorem bls_of {K : PySem.W.Frag} {H : Hp} {m : List Addr} : ∀ {xs : List D} {vs : List V} {bs : List Bool}, RVs K H m xs vs → boolsOf xs = some bs → vs = bs.map V.bl
  | [], _, _, h, e => by cases h; cases e; rfl
  | .bl b :: xs, _, _, .cons h1 h2, e => by
    cases h1
    simp only [boolsOf] at e
    cases hb : boolsOf xs with
    | none => rw [hb] at e; cases e
    | some cs => rw [hb] at e; cases e; rw [bls_of h2 hb]; rfl
  | .non :: xs, _, _, _, e => by cases e
  | .int _ :: xs, _, _, _, e => by cases e
  | .str _ :: xs, _, _, _, e => by cases e
  | .tup _ :: xs, _, _, _, e => by cases e
  | .ref _ :: xs, _, _, _, e => by cases e
theorem sb_all (hc : X.calm = true) : SB X (.builtin "all") (fun S x => b1D S .all x) := by
  intro S x d S' e m H vx r q
  cases q with
  | @ref n a ea =>
    replace e : ((itemsAt S n).bind fun xs => (boolsOf xs).map fun bs => (D.bl (bs.all id), S)) = some (d, S') := e
    cases hi : itemsAt S n with
    | none => rw [hi] at e; cases e
    | some xs =>
      rw [hi] at e
      replace e : ((boolsOf xs).map fun bs => (D.bl (bs.all id), S)) = some (d, S') := e
      cases hb : boolsOf xs with
      | none => rw [hb] at e; cases e
      | some bs =>
        rw [hb] at e; cases e
        obtain ⟨vs, h1, h2⟩ := r.items ea hi
        rw [bls_of h2 hb] at h1
        exact WC.of (cr_all hc) ⟨a, bs, rfl, h1, .here r (.bl _)⟩
  | _ => cases e
theorem sb_int : SB X (.type "int") (fun S x => b1D S .int x) := by
  intro S x d S' e m H vx r q
  cases q with
  | int i => cases (show some (D.int i, S) = some (d, S') from e); exact WC.of call_int1 (.inl ⟨i, rfl, .here r (.int i)⟩)
  | bl b => cases (show some (D.int (if b then 1 else 0), S) = some (d, S') from e); exact WC.of call_int1 (.inr ⟨b, rfl, .here r (.int _)⟩)
  | _ => cases e
theorem sb_max (hc : X.calm = true) : SB2 X (.builtin "max") (fun S x y => b2D S .max x y) := by
  intro S x y d S' e m H vx vy r qx qy
  cases qx with
  | int i =>
    cases qy with
    | int j => cases (show some (D.int (if j > i then j else i), S) = some (d, S') from e); exact WC.of (call_max2 hc) ⟨i, j, rfl, .here r (.int _)⟩
    | _ => cases e
  | _ => cases e
theorem sb_min (hc : X.calm = true) : SB2 X (.builtin "min") (fun S x y => b2D S .min x y) := by
  intro S x y d S' e m H vx vy r qx qy
  cases qx with
  | int i =>
    cases qy with
    | int j => cases (show some (D.int (if j < i then j else i), S) = some (d, S') from e); exact WC.of (call_min2 hc) ⟨i, j, rfl, .here r (.int _)⟩
    | _ => cases e
  | _ => cases e
end
end Ev
end
section
set_option Elab.async false
set_option linter.all false
set_option maxRecDepth 100000
set_option maxHeartbeats 4000000
/-! sorted, isinstance, methods. -/
namespace Ev
open PySem PySem.Spec PyProof.Rows L2

section
variable {X : Cx} {k : Nat}
theorem each_of {K : PySem.W.Frag} {H : Hp} {m : List Addr} : ∀ {xs : List D} {vs : List V} {its : List Value}, RVs K H m xs vs → Vals vs its → PySem.W.EachIs (fun u d => ∃ v, RelV v u ∧ RV K H m d v) its xs
  | _, _, _, .nil, .nil => .nil
  | _, _, _, .cons h1 h2, .cons r1 r2 => .cons ⟨_, r1, h1⟩ (each_of h2 r2)
theorem of_each {K : PySem.W.Frag} {H : Hp} {m : List Addr} : ∀ {xs : List D} {its : List Value}, PySem.W.EachIs (fun u d => ∃ v, RelV v u ∧ RV K H m d v) its xs → ∃ vs, Vals vs its ∧ RVs K H m xs vs
  | _, _, .nil => ⟨[], .nil, .nil⟩
  | _, _, .cons ⟨v, r, q⟩ t => by
    obtain ⟨vs, h1, h2⟩ := of_each t
    exact ⟨v :: vs, .cons r h1, .cons q h2⟩
theorem reads_of {pins : List (Addr × Obj)} {σ : L2.St} {H : Hp} {s : Shared} {m : List Addr} {S : Sto} (I : Inv X pins σ H s) (r : RS X.K H m S) : ∀ {xs : List D} {vs : List V} {its : List Value}, RVs X.K H m xs vs → Vals vs its → (∀ d ∈ xs, (pyD 60 S d).isSome = true) →
    PySem.W.EachIs (fun u d => ∃ as, Reads s.heap u (pyT S d) as) its xs
  | _, _, _, .nil, .nil, _ => .nil
  | _, _, _, .cons (d := d) h1 h2, .cons r1 r2, h => by
    refine .cons ?_ (reads_of I r h2 r2 fun d hd => h d (by simp [hd]))
    have hs := h d (by simp)
    obtain ⟨p, hp⟩ := Option.isSome_iff_exists.mp hs
    have e : pyT S d = p := by unfold pyT; rw [hp]; rfl
    rw [e]
    exact Dp.reads I p _ _ (dp_of r 60 d p _ hp h1).1 r1
theorem sortable_ok {ds : List PyData} (h : sortable ds = true) : PySem.W.Sortable ds := by
  unfold sortable at h
  rcases Bool.or_eq_true_iff.mp h with h | h
  · left
    intro d hd
    have := List.all_eq_true.mp h d hd
    split at this
    · exact ⟨_, _, rfl⟩
    · cases this
  · right
    intro d hd
    have := List.all_eq_true.mp h d hd
    split at this
    · cases this
    · cases this
    · rename_i h1 h2
      exact ⟨h1, h2⟩
theorem sb_sorted (hr : Room k X.A) : SB X (.builtin "sorted") (fun S x => b1D S .sorted x) := by
  intro S x d S' e m H vx r q
  cases q with
  | @ref n a ea =>
    replace e : ((itemsAt S n).bind fun xs => sortD S xs) = some (d, S') := e
    cases hi : itemsAt S n with
    | none => rw [hi] at e; cases e
    | some xs =>
      rw [hi] at e
      replace e : sortD S xs = some (d, S') := e
      unfold sortD at e
      split at e
      · rename_i hc
        obtain ⟨hlen, hall, hal, hso⟩ := hc
        have hall' : ∀ d ∈ xs, (pyD 60 S d).isSome = true := List.all_eq_true.mp hall
        unfold newL at e
        split at e
        · cases e
          obtain ⟨vs, h1, h2⟩ := r.items ea hi
          intro pins s σ us I rv
          obtain ⟨its, r1, pl, hz⟩ := I.list h1
          rw [Vals.ref1 rv]
          refine PySem.W.sorted_data (enc := pyT S) (bs := xs) pl.isList (each_of h2 r1) (reads_of I r h2 r1 hall') ?_ (sortable_ok hso) (le_size hlen) ?_ fun out ho hE => ?_
          · intro p hp q hq
            have z := List.all_eq_true.mp hal p hp
            exact List.all_eq_true.mp z q hq
          · intro b hb
            obtain ⟨p, hp⟩ := Option.isSome_iff_exists.mp (hall' b hb)
            have eb : pyT S b = p := by unfold pyT; rw [hp]; rfl
            obtain ⟨v, hv, hv2⟩ : ∃ v, v ∈ vs ∧ RV X.K H m b v := by
              obtain ⟨i, hi', e1⟩ := List.mem_iff_getElem.mp hb
              obtain ⟨v, e2, q2⟩ := h2.get (i := i) (d := b) (by rw [List.getElem?_eq_getElem hi', e1])
              exact ⟨v, List.mem_iff_getElem?.mpr ⟨i, e2⟩, q2⟩
            have z := (dp_of r 60 b p v hp hv2).2.2
            rw [eb]
            have := units64 hr
            have := hr.un
            omega
          · obtain ⟨ws, w1, w2⟩ := of_each hE
            obtain ⟨ep, he'⟩ := PyProof.Rows.sortedAll_at s.heap its out.toArray
            have hl2 : ws.length ≤ sizeLine := by
              rw [← w2.length, List.length_mergeSort]; exact le_size hlen
            refine ⟨.ref _, upd H (s.heap.objs.size + 1) (.lst ws), I.laid (t' := s.toks) (fun _ _ => PyProof.Rows.sortedAll_old) (Nat.le_succ _) ⟨hl2, out, ep, w1, he'⟩, rfl, ?_⟩
            exact pv_newL r w2 (I.hok.fresh (Nat.le_succ _))
        · cases e
      · cases e
  | _ => cases e
/-! ### isinstance -/
def Ty.nm : Ty → String
  | .int => "int" | .bool => "bool" | .str => "str" | .tuple => "tuple" | .list => "list" | .dict => "dict"
theorem ty_tup {K : PySem.W.Frag} {H : Hp} {a : Addr} {vs : List V} (h : SqT K H a vs) : TyX K H (.ref a) (.type "tuple") := by
  rcases h with (h | ⟨o, h⟩) | ⟨o, its, n, h, c, _⟩
  · exact .base (.tup h)
  · exact .fTuple h
  · exact .kTuple h c
theorem isi_ok {K : PySem.W.Frag} {H : Hp} {m : List Addr} {S : Sto} (r : RS K H m S) {x : D} {vx : V} {t : Ty} {b : Bool} (q : RV K H m x vx) (e : isiD S x t = some b) : ∃ c : String, TyX K H vx (.type c) ∧ kitB c t.nm = some b := by
  cases q with
  | non => cases e; exact ⟨_, .base .non, by cases t <;> decide +kernel⟩
  | bl z => cases e; exact ⟨_, .base (.bl z), by cases t <;> decide +kernel⟩
  | int i => cases e; exact ⟨_, .base (.int i), by cases t <;> decide +kernel⟩
  | str s => cases e; exact ⟨_, .base (.str s), by cases t <;> decide +kernel⟩
  | tup hs hr => cases e; exact ⟨_, ty_tup hs, by cases t <;> decide +kernel⟩
  | @ref n a ea =>
    simp only [isiD] at e
    split at e
    · rename_i ds h
      obtain ⟨vs, q, _⟩ := r.obj n a _ ea h
      cases e; exact ⟨_, .base (.lst q), by cases t <;> decide +kernel⟩
    · rename_i ds h
      obtain ⟨o, vs, q, _⟩ := r.obj n a _ ea h
      cases e; exact ⟨_, .base (.frz q), by cases t <;> decide +kernel⟩
    · cases e
/-! ### repr -/
theorem sb_repr (hr : Room k X.A) (hgd : X.A.guards = some []) : SB X (.builtin "repr") (fun S x => b1D S .repr x) := by
  intro S x d S' e m H vx r q
  cases q with
  | @tup a vs xs hs hrv =>
    simp only [b1D] at e
    split at e
    · rename_i p hp
      split at e
      · rename_i hz
        cases e
        obtain ⟨a1, a2, a3⟩ := dp_of r 60 (.tup xs) p (.ref a) hp (.tup hs hrv)
        intro pins s σ us I rv
        rw [Vals.ref1 rv]
        obtain ⟨as, rd⟩ := Dp.reads I p (.ref a) (.ref a) a1 rfl
        cases a1 with
        | lst h1 h2 =>
          have : ∃ ps, pyD 60 S (.tup xs) = some (.tuple ps) := by
            simp only [pyD] at hp
            cases ho : optAll (xs.map (pyD 59 S)) with
            | none => rw [ho] at hp; cases hp
            | some ps => rw [ho] at hp; cases hp
          obtain ⟨ps, e⟩ := this
          rw [e] at hp; cases hp
        | @tup _ vs' ps h1 h2 =>
          cases rd with
          | tuple g1 g2 g3 g4 =>
            have hd : (PyData.tuple ps).hasDict = false := PyData.hasDict_of_canLay _ a2
            have hz' : (tupleText (PyData.shownAll ps)).length ≤ sizeLine := by
              have := hz.2
              simp only [PyData.shown] at this
              exact Nat.le_trans this (by decide)
            have hall : PyData.showableAll ps = true := by simpa [PyData.showable] using hz.1
            have hdA : PyData.hasDictAll ps = false := by simpa [PyData.hasDict] using hd
            obtain ⟨bs, hb, hk⟩ := ReprAllK.of_readsAll (prog := X.prog) (w := X.w) g4 hall (fun z => by rw [hdA] at z; cases z) (fun t ht => Nat.le_trans (tupleText_mem_le ht) hz')
            have rd' : Reads s.heap (.ref a) (.tuple ps) _ := .tuple g1 g2 g3 g4
            have hna : a ∉ bs := not_mem_of_deeper rd' (by simp only [PyData.depth]; omega) hb
            have hu := units64 hr
            simp only [PyData.depth] at a3
            refine call_repr_slot (by omega) ⟨_, g1, g2⟩ F.slot_tuple_repr (call_tuple_reprK g1 g2 g3 hna hk (g := []) hgd (fun b _ => Clear.nil b) (by show X.A.units + 1 + _ < cLine; omega) (fun _ _ e => e) (fun h' u tk hkeep => ?_) hz')
            refine ⟨_, u, rfl, .str (PyData.shown (.tuple ps)), H, I.un (Un.kept hkeep) (I.hok.kept hkeep), ⟨u, ?_⟩, .here r (.str _)⟩
            simp only [PyData.shown]
      · cases e
    · cases e
  | _ => cases e
end
end Ev
end
section
set_option Elab.async false
set_option linter.all false
set_option maxRecDepth 100000
set_option maxHeartbeats 4000000
/-! Expressions, one construct after another. -/
namespace Ev
open PySem PySem.Spec PyProof.Rows L2

def isStar : Expr → Bool
  | .Starred _ _ => true
  | _ => false
theorem ns_of {e : Expr} (h : isStar e = false) (es : List Expr) (env : PySem.Env) : starEach (e :: es) env = (false, eval e env) :: starEach es env := by
  cases e <;> first | rfl | cases h
theorem ns_all : ∀ {es : List Expr} (pos : Pos) (env : PySem.Env), es.any isStar = false → (backTo pos (starEach es env)).any (·.1) = false
  | [], _, _, _ => rfl
  | e :: es, pos, env, h => by
    rw [List.any_cons, Bool.or_eq_false_iff] at h
    rw [ns_of h.1]
    have ih := ns_all (es := es) pos env h.2
    simp only [backTo, List.map_cons, List.any_cons, Bool.false_or]
    simpa only [backTo] using ih

section
variable {X : Cx} {k : Nat} {a b c : Expr} {pos : Pos} {fa fb fc : Env → Sto → R D}
theorem se_var {i : Nat} {x : Str} (hN : X.N[i]? = some x) (hv : Vis X.env.scope x) (hd : (x == ("__debug__" : Str)) = false) (hcd : (x == ("__classdict__" : Str)) = false) : SE X (.Name x pos) (fun ρ S => match ρ[i]? with
    | some (some d) => some (d, S)
    | _ => none) := by
  intro ρ S d S' e m σ H he hs
  refine WE.of (pe_var hN hv hd hcd) ?_
  cases hi : ρ[i]? with
  | none => simp only [hi] at e; cases e
  | some o =>
    cases o with
    | none => simp only [hi] at e; cases e
    | some d' =>
      simp only [hi] at e; cases e
      obtain ⟨v, e1, q⟩ := he.get i d hi
      exact ⟨v, e1, .here hs q⟩
theorem se_c {e : Expr} {d : D} {v : V} (h : PE X e (tC v)) (q : ∀ H m, RV X.K H m d v) : SE X e (fun _ S => some (d, S)) := by
  intro ρ S d' S' e m σ H he hs
  cases (show some (d, S) = some (d', S') from e)
  exact WE.of h (.here hs (q _ _))
theorem sa_nil : SA X [] (fun _ S => some ([], S)) := by
  intro ρ S d S' e m σ H he hs
  cases (show some (([] : List D), S) = some (d, S') from e)
  exact WA.of pa_nil ⟨m, List.prefix_refl m, TK.refl H, hs, .nil⟩
theorem sa_cons {es : List Expr} {fr : Env → Sto → R (List D)} (hst : isStar a = false) (ha : SE X a fa) (hr : SA X es fr) : SA X (a :: es) (fun ρ S => bnd (fa ρ S) fun d S1 => bnd (fr ρ S1) fun ds S2 => some (d :: ds, S2)) := by
  intro ρ S d S' e m σ H he hs
  obtain ⟨x, S1, e1, e⟩ := bnd_eq e
  obtain ⟨xs, S2, e2, e⟩ := bnd_eq e
  cases e
  refine WA.of (pa_cons (pe_W a) (pa_W es) (ns_of hst _ _)) ((ha ρ S x S1 e1 m σ H he hs).mono fun v H1 ⟨m1, p1, t1, r1, q1⟩ => ?_)
  refine (hr ρ S1 xs _ e2 m1 σ H1 (he.mono t1 p1) r1).mono fun vs H2 ⟨m2, p2, t2, r2, q2⟩ => ?_
  exact ⟨m2, p1.trans p2, t1.trans t2, r2, .cons (q1.mono t2 p2) q2⟩
theorem se_tup {es : List Expr} {n : Nat} {fs : Env → Sto → R (List D)} (ha : SA X es fs) : SE X (.Tuple es n pos) (fun ρ S => bnd (fs ρ S) fun ds S1 => newT S1 ds) := by
  intro ρ S d S' e m σ H he hs
  obtain ⟨xs, S1, e1, e⟩ := bnd_eq e
  unfold newT at e
  split at e
  · rename_i hz
    cases e
    refine WE.of (pe_tup (pa_W es)) ((ha ρ S xs _ e1 m σ H he hs).mono fun vs H1 ⟨m1, p1, t1, r1, q1⟩ => ⟨by rw [← q1.length]; exact le_size hz, fun p hp => (pv_newT r1 q1 hp).up p1 t1⟩)
  · cases e
theorem se_lst {es : List Expr} {fs : Env → Sto → R (List D)} (ha : SA X es fs) : SE X (.List es pos) (fun ρ S => bnd (fs ρ S) fun ds S1 => newL S1 ds) := by
  intro ρ S d S' e m σ H he hs
  obtain ⟨xs, S1, e1, e⟩ := bnd_eq e
  unfold newL at e
  split at e
  · rename_i hz
    cases e
    refine WE.of (pe_lst (pa_W es)) ((ha ρ S xs _ e1 m σ H he hs).mono fun vs H1 ⟨m1, p1, t1, r1, q1⟩ => ⟨by rw [← q1.length]; exact le_size hz, fun p hp => (pv_newL r1 q1 hp).up p1 t1⟩)
  · cases e
theorem se_neg (ha : SE X a fa) : SE X (.UnaryOp .USub a pos) (fun ρ S => bnd (fa ρ S) fun x S1 => match x with
    | .int i => some (.int (-i), S1)
    | _ => none) := by
  intro ρ S d S' e m σ H he hs
  obtain ⟨x, S1, e1, e⟩ := bnd_eq e
  refine WE.of (pe_un un_neg (pe_W a)) ((ha ρ S x S1 e1 m σ H he hs).mono fun v H1 ⟨m1, p1, t1, r1, q1⟩ => ?_)
  cases q1 with
  | int i => cases (show some (D.int (-i), S1) = some (d, S') from e); exact ⟨i, rfl, m1, p1, t1, r1, .int _⟩
  | _ => cases e
/-- two, then an operation -/
theorem se_two {e : Expr} {f : Value → Value → Sem Value} {g : Sto → D → D → R D} (hp : PE X e (tOp (WO X f) (WE X a) (WE X b))) (ha : SE X a fa) (hb : SE X b fb) (ho : SO X f g) : SE X e (fun ρ S => bnd (fa ρ S) fun x S1 => bnd (fb ρ S1) fun y S2 => g S2 x y) := fun ρ S d S' e m σ H he hs => by
  obtain ⟨x, S1, e1, e⟩ := bnd_eq e
  obtain ⟨y, S2, e2, e⟩ := bnd_eq e
  refine WE.of hp ((ha ρ S x S1 e1 m σ H he hs).mono fun v H1 ⟨m1, p1, t1, r1, q1⟩ => ?_)
  refine (hb ρ S1 y S2 e2 m1 σ H1 (he.mono t1 p1) r1).mono fun u H2 ⟨m2, p2, t2, r2, q2⟩ => ?_
  exact (ho S2 x y d S' e m2 H2 v u r2 (q1.mono t2 p2) q2).mono fun w H3 h => h.up (p1.trans p2) (t1.trans t2)
theorem se_cmp (hr : Room k X.A) {op : CmpOp} (hm : behindInMarks op b = false) (ha : SE X a fa) (hb : SE X b fb) : SE X (.Compare a [op] [b] pos) (fun ρ S => bnd (fa ρ S) fun x S1 => bnd (fb ρ S1) fun y S2 => (cmpD S2 op x y).map fun k => (.bl k, S2)) :=
  se_two (pe_cmpR (or_W _) (pe_W a) (pe_W b) hm) ha hb (so_cmp hr op)
theorem st_cmp (hr : Room k X.A) {op : CmpOp} (hm : behindInMarks op b = false) (ha : SE X a fa) (hb : SE X b fb) : ST X (.Compare a [op] [b] pos) (fun ρ S => bnd (fa ρ S) fun x S1 => bnd (fb ρ S1) fun y S2 => (cmpD S2 op x y).map fun k => (.bl k, S2)) := by
  intro ρ S d S' e z hz m σ H he hs
  obtain ⟨x, S1, e1, e⟩ := bnd_eq e
  obtain ⟨y, S2, e2, e⟩ := bnd_eq e
  refine WT.of (pt_cmpR (or_W _) (pe_W a) (pe_W b) hm) ((ha ρ S x S1 e1 m σ H he hs).mono fun v H1 ⟨m1, p1, t1, r1, q1⟩ => ?_)
  refine (hb ρ S1 y S2 e2 m1 σ H1 (he.mono t1 p1) r1).mono fun u H2 ⟨m2, p2, t2, r2, q2⟩ => ?_
  refine (so_cmp hr op S2 x y d S' e m2 H2 v u r2 (q1.mono t2 p2) q2).mono fun w H3 h => ?_
  obtain ⟨m3, p3, t3, r3, q3⟩ := h
  cases hc : cmpD S2 op x y with
  | none => rw [hc] at e; cases e
  | some b' =>
    rw [hc] at e; cases e
    cases q3
    cases hz
    exact ⟨z, rfl, rfl, m3, (p1.trans p2).trans p3, (t1.trans t2).trans t3, r3, trivial⟩
theorem chain_core (hr : Room k X.A) {op op' : CmpOp} (ha : SE X a fa) (hb : SE X b fb) (hc : SE X c fc) {ρ : Env} {S S' : Sto} {d : D} (e : (bnd (fa ρ S) fun x S1 => bnd (fb ρ S1) fun y S2 => match cmpD S2 op x y with
    | some true => bnd (fc ρ S2) fun z S3 => (cmpD S3 op' y z).map fun k => (D.bl k, S3)
    | some false => some (.bl false, S2)
    | none => none) = some (d, S')) {m : List Addr} {σ : L2.St} {H : Hp} (he : RE X.K H m ρ σ) (hs : RS X.K H m S) {Q : VK} (hQ : ∀ v H', (∃ q, d = .bl q) → PV X.K m H S' d v H' → Q v H') :
    tChain (WO X (compareOp op)) (WO X (compareOp op')) (WE X a) (WE X b) (WE X c) σ H Q := by
  obtain ⟨x, S1, e1, e⟩ := bnd_eq e
  obtain ⟨y, S2, e2, e⟩ := bnd_eq e
  refine (ha ρ S x S1 e1 m σ H he hs).mono fun v H1 ⟨m1, p1, t1, r1, q1⟩ => ?_
  refine (hb ρ S1 y S2 e2 m1 σ H1 (he.mono t1 p1) r1).mono fun u H2 ⟨m2, p2, t2, r2, q2⟩ => ?_
  cases h1 : cmpD S2 op x y with
  | none => rw [h1] at e; cases e
  | some b1 =>
    refine sc_cmp hr op S2 x y b1 h1 m2 H2 v u r2 (q1.mono t2 p2) q2 _ ⟨b1, rfl, ?_⟩
    rw [h1] at e
    cases b1 with
    | false => cases e; exact hQ _ _ ⟨false, rfl⟩ ⟨m2, p1.trans p2, t1.trans t2, r2, .bl _⟩
    | true =>
      obtain ⟨z, S3, e3, e⟩ := bnd_eq e
      show WE X c σ H2 _
      refine (hc ρ S2 z S3 e3 m2 σ H2 (he.mono (t1.trans t2) (p1.trans p2)) r2).mono fun w H3 ⟨m3, p3, t3, r3, q3⟩ => ?_
      refine (so_cmp hr op' S3 y z d S' e m3 H3 u w r3 (q2.mono t3 p3) q3).mono fun w' H4 h => hQ _ _ ?_ (h.up ((p1.trans p2).trans p3) ((t1.trans t2).trans t3))
      cases h2 : cmpD S3 op' y z with
      | none => rw [h2] at e; cases e
      | some b2 => rw [h2] at e; cases e; exact ⟨b2, rfl⟩
theorem se_chain (hr : Room k X.A) {op op' : CmpOp} (hm : lastMarks [op, op'] [b, c] = false) (ha : SE X a fa) (hb : SE X b fb) (hc : SE X c fc) : SE X (.Compare a [op, op'] [b, c] pos) (fun ρ S => bnd (fa ρ S) fun x S1 => bnd (fb ρ S1) fun y S2 => match cmpD S2 op x y with
    | some true => bnd (fc ρ S2) fun z S3 => (cmpD S3 op' y z).map fun k => (D.bl k, S3)
    | some false => some (.bl false, S2)
    | none => none) := fun ρ S d S' e m σ H he hs =>
  WE.of (pe_chain (or_W _) (or_W _) (pe_W a) (pe_W b) (pe_W c) hm) (chain_core hr ha hb hc e he hs fun v H' _ h => h)
theorem st_chain (hr : Room k X.A) {op op' : CmpOp} (hm : lastMarks [op, op'] [b, c] = false) (ha : SE X a fa) (hb : SE X b fb) (hc : SE X c fc) : ST X (.Compare a [op, op'] [b, c] pos) (fun ρ S => bnd (fa ρ S) fun x S1 => bnd (fb ρ S1) fun y S2 => match cmpD S2 op x y with
    | some true => bnd (fc ρ S2) fun z S3 => (cmpD S3 op' y z).map fun k => (D.bl k, S3)
    | some false => some (.bl false, S2)
    | none => none) := fun ρ S d S' e z hz m σ H he hs => by
  refine WT.of (pt_chain (or_W _) (or_W _) (pe_W a) (pe_W b) (pe_W c) hm) (chain_core hr ha hb hc e he hs fun v H' ⟨q, hq⟩ h => ?_)
  subst hq
  obtain ⟨m3, p3, t3, r3, q3⟩ := h
  cases q3
  cases hz
  exact ⟨z, rfl, rfl, m3, p3, t3, r3, trivial⟩
/-! ### and, or, not, if -/
def SW (X : Cx) (e : Expr) (f : Env → Sto → R D) : Prop := ∀ (whole : Sem Value) ρ S d S', f ρ S = some (d, S') → ∀ k, truthD S' d = some k → ∀ m σ H, RE X.K H m ρ σ → RS X.K H m S →
  ∀ (pins : List (Addr × Obj)) (s : Shared), Inv X pins σ H s → wpAny (model X.prog X.w) X.A (isTrue e X.env whole) (TP X pins σ (fun b H' => b = k ∧ PH X.K m H S' (fun _ _ => True) H')) X.xe s
theorem SW.st (h : SW X a fa) : ST X a fa := fun ρ S d S' e k hk m σ H he hs pins s I => h _ ρ S d S' e k hk m σ H he hs pins s I
theorem sw_one {op : BoolOp} (h : ST X a fa) : SW X (.BoolOp op [a] pos) fa := fun wh ρ S d S' e k hk m σ H he hs pins s I => by
  cases op with
  | And => exact (pw_and1 (pt_W a)).run wh pins s σ H _ I (h ρ S d S' e k hk m σ H he hs)
  | Or => exact (pw_or1 (pt_W a)).run wh pins s σ H _ I (h ρ S d S' e k hk m σ H he hs)
theorem se_one {op : BoolOp} (h : SE X a fa) : SE X (.BoolOp op [a] pos) fa := fun ρ S d S' e m σ H he hs => WE.of (pe_one (pe_W a)) (h ρ S d S' e m σ H he hs)
def fAnd (fa fb : Env → Sto → R D) : Env → Sto → R D := fun ρ S => bnd (fa ρ S) fun x S1 => match truthD S1 x with
  | some true => fb ρ S1
  | some false => some (x, S1)
  | none => none
def fOr (fa fb : Env → Sto → R D) : Env → Sto → R D := fun ρ S => bnd (fa ρ S) fun x S1 => match truthD S1 x with
  | some true => some (x, S1)
  | some false => fb ρ S1
  | none => none
variable {rest : List Expr}
theorem se_and (ha : SE X a fa) (hb : SE X (.BoolOp .And (b :: rest) pos) fb) : SE X (.BoolOp .And (a :: b :: rest) pos) (fAnd fa fb) := by
  intro ρ S d S' e m σ H he hs
  obtain ⟨x, S1, e1, e⟩ := bnd_eq e
  refine WE.of (pe_andT (pe_W a) (pe_W _)) ((ha ρ S x S1 e1 m σ H he hs).mono fun v H1 ⟨m1, p1, t1, r1, q1⟩ => ?_)
  cases hk : truthD S1 x with
  | none => simp only [hk] at e; cases e
  | some k =>
    simp only [hk] at e
    refine ⟨k, tru_RV r1 q1 hk, ?_⟩
    cases k with
    | true => exact (hb ρ S1 d S' e m1 σ H1 (he.mono t1 p1) r1).mono fun w H3 h => h.up p1 t1
    | false => cases e; exact ⟨m1, p1, t1, r1, q1⟩
theorem se_or (ha : SE X a fa) (hb : SE X (.BoolOp .Or (b :: rest) pos) fb) : SE X (.BoolOp .Or (a :: b :: rest) pos) (fOr fa fb) := by
  intro ρ S d S' e m σ H he hs
  obtain ⟨x, S1, e1, e⟩ := bnd_eq e
  refine WE.of (pe_orT (pe_W a) (pe_W _)) ((ha ρ S x S1 e1 m σ H he hs).mono fun v H1 ⟨m1, p1, t1, r1, q1⟩ => ?_)
  cases hk : truthD S1 x with
  | none => simp only [hk] at e; cases e
  | some k =>
    simp only [hk] at e
    refine ⟨k, tru_RV r1 q1 hk, ?_⟩
    cases k with
    | false => exact (hb ρ S1 d S' e m1 σ H1 (he.mono t1 p1) r1).mono fun w H3 h => h.up p1 t1
    | true => cases e; exact ⟨m1, p1, t1, r1, q1⟩
/-- a test, its answer, then another -/
theorem PH.up {K : PySem.W.Frag} {m m1 : List Addr} {H H1 H' : Hp} {S' : Sto} (h : PH K m1 H1 S' (fun _ _ => True) H') (p : m <+: m1) (t : TK H H1) : PH K m H S' (fun _ _ => True) H' := PH.imp h p t fun _ _ _ z => z
def pw_W (wb : TT) (e : Expr) (h : ∀ (whole : Sem Value) (pins : List (Addr × Obj)) (s : Shared) (σ : L2.St) (H : Hp) (Q : Bool → Hp → Prop), Inv X pins σ H s → wb σ H Q → wpAny (model X.prog X.w) X.A (isTrue e X.env whole) (TP X pins σ Q) X.xe s) : PW X e wb := ⟨h⟩
def WW (X : Cx) (e : Expr) (σ : L2.St) (H : Hp) (Q : Bool → Hp → Prop) : Prop := ∀ (whole : Sem Value) (pins : List (Addr × Obj)) (s : Shared), Inv X pins σ H s → wpAny (model X.prog X.w) X.A (isTrue e X.env whole) (TP X pins σ Q) X.xe s
theorem ww_W (e : Expr) : PW X e (WW X e) := ⟨fun wh pins s _ _ _ I h => h wh pins s I⟩
theorem WW.mono {Q Q' : Bool → Hp → Prop} {σ : L2.St} {H : Hp} (h : WW X a σ H Q) (z : ∀ v H', Q v H' → Q' v H') : WW X a σ H Q' := fun wh pins s I =>
  thn (h wh pins s I) fun u s' ⟨H', I', q⟩ => ⟨H', I', z u H' q⟩
theorem SW.ww (h : SW X a fa) {ρ : Env} {S S' : Sto} {d : D} (e : fa ρ S = some (d, S')) {k : Bool} (hk : truthD S' d = some k) {m : List Addr} {σ : L2.St} {H : Hp} (he : RE X.K H m ρ σ) (hs : RS X.K H m S) : WW X a σ H (fun b H' => b = k ∧ PH X.K m H S' (fun _ _ => True) H') :=
  fun wh pins s I => h wh ρ S d S' e k hk m σ H he hs pins s I
theorem sw_and (ha : ST X a fa) (hb : SW X (.BoolOp .And (b :: rest) pos) fb) : SW X (.BoolOp .And (a :: b :: rest) pos) (fAnd fa fb) := by
  intro wh ρ S d S' e k hk m σ H he hs pins s I
  obtain ⟨x, S1, e1, e⟩ := bnd_eq e
  refine (pw_and (pt_W a) (ww_W _)).run wh pins s σ H _ I ?_
  cases hk1 : truthD S1 x with
  | none => simp only [hk1] at e; cases e
  | some k1 =>
    simp only [hk1] at e
    refine (ha ρ S x S1 e1 k1 hk1 m σ H he hs).mono fun b1 H1 ⟨eb, m1, p1, t1, r1, _⟩ => ?_
    subst eb
    cases b1 with
    | true => exact (hb.ww e hk (he.mono t1 p1) r1).mono fun b2 H2 h => ⟨h.1, h.2.up p1 t1⟩
    | false =>
      cases e
      rw [hk1] at hk
      cases hk
      exact ⟨rfl, m1, p1, t1, r1, trivial⟩
theorem sw_or (ha : ST X a fa) (hb : SW X (.BoolOp .Or (b :: rest) pos) fb) : SW X (.BoolOp .Or (a :: b :: rest) pos) (fOr fa fb) := by
  intro wh ρ S d S' e k hk m σ H he hs pins s I
  obtain ⟨x, S1, e1, e⟩ := bnd_eq e
  refine (pw_or (pt_W a) (ww_W _)).run wh pins s σ H _ I ?_
  cases hk1 : truthD S1 x with
  | none => simp only [hk1] at e; cases e
  | some k1 =>
    simp only [hk1] at e
    refine (ha ρ S x S1 e1 k1 hk1 m σ H he hs).mono fun b1 H1 ⟨eb, m1, p1, t1, r1, _⟩ => ?_
    subst eb
    cases b1 with
    | false => exact (hb.ww e hk (he.mono t1 p1) r1).mono fun b2 H2 h => ⟨h.1, h.2.up p1 t1⟩
    | true =>
      cases e
      rw [hk1] at hk
      cases hk
      exact ⟨rfl, m1, p1, t1, r1, trivial⟩
def fNot (fa : Env → Sto → R D) : Env → Sto → R D := fun ρ S => bnd (fa ρ S) fun x S1 => (truthD S1 x).map fun k => (.bl (!k), S1)
theorem se_not (ha : SE X a fa) : SE X (.UnaryOp .Not a pos) (fNot fa) := by
  intro ρ S d S' e m σ H he hs
  obtain ⟨x, S1, e1, e⟩ := bnd_eq e
  refine WE.of (pe_notT (pe_W a)) ((ha ρ S x S1 e1 m σ H he hs).mono fun v H1 ⟨m1, p1, t1, r1, q1⟩ => ?_)
  cases hk : truthD S1 x with
  | none => simp only [hk] at e; cases e
  | some k =>
    simp only [hk] at e
    cases e
    exact ⟨k, tru_RV r1 q1 hk, m1, p1, t1, r1, .bl _⟩
theorem st_not (ha : ST X a fa) : ST X (.UnaryOp .Not a pos) (fNot fa) := by
  intro ρ S d S' e k hk m σ H he hs
  obtain ⟨x, S1, e1, e⟩ := bnd_eq e
  cases hk1 : truthD S1 x with
  | none => simp only [hk1] at e; cases e
  | some k1 =>
    simp only [hk1] at e
    cases e
    cases hk
    refine WT.of (pt_not (pt_W a)) ((ha ρ S x _ e1 k1 hk1 m σ H he hs).mono fun b1 H1 h => ?_)
    exact ⟨by rw [h.1], h.2⟩
theorem se_ite (hc : ST X c fc) (ha : SE X a fa) (hb : SE X b fb) : SE X (.IfExp c a b pos) (fun ρ S => bnd (fc ρ S) fun x S1 => match truthD S1 x with
    | some true => fa ρ S1
    | some false => fb ρ S1
    | none => none) := by
  intro ρ S d S' e m σ H he hs
  obtain ⟨x, S1, e1, e⟩ := bnd_eq e
  cases hk1 : truthD S1 x with
  | none => simp only [hk1] at e; cases e
  | some k1 =>
    simp only [hk1] at e
    refine WE.of (pe_ifExp (pt_W c) (pe_W a) (pe_W b)) ((hc ρ S x S1 e1 k1 hk1 m σ H he hs).mono fun b1 H1 ⟨eb, m1, p1, t1, r1, _⟩ => ?_)
    subst eb
    cases b1 with
    | true => exact (ha ρ S1 d S' e m1 σ H1 (he.mono t1 p1) r1).mono fun w H3 h => h.up p1 t1
    | false => exact (hb ρ S1 d S' e m1 σ H1 (he.mono t1 p1) r1).mono fun w H3 h => h.up p1 t1
end
end Ev
end
section
set_option Elab.async false
set_option linter.all false
set_option maxRecDepth 100000
set_option maxHeartbeats 4000000
/-! Calls, subscripts, slices. -/
namespace Ev
open PySem PySem.Spec PyProof.Rows L2

/-- a def's promise: it does as g does -/
def SpG (K : PySem.W.Frag) (np : Nat) (g : List D → Sto → R D) : List V → Hp → VK → Prop := fun vs H Q => vs.length = np ∧ ∃ m S ds d S', RS K H m S ∧ RVs K H m ds vs ∧ g ds S = some (d, S') ∧ ∀ v H', PV K m H S' d v H' → Q v H'

section
variable {X : Cx} {k : Nat} {a b c : Expr} {pos p : Pos} {fa fb fc : Env → Sto → R D}
theorem se_call {x : Str} {f : Addr} {fd : FuncData} {ps : List Str} {np : Nat} {g : List D → Sto → R D} {es : List Expr} {fs : Env → Sto → R (List D)} (F : FnG X.prog X.w X.K X.mg X.base k f fd ps (SpG X.K np g)) (hr : Room k X.A) (hgd : X.A.guards = some []) (hg : Gl X x) (hm : X.mg x = some (.ref f))
    (hk : PySem.W.keepIn X.K (.ref f) = true) (hb : Binds X.K fd ps []) (hgl : ∀ ds S r, g ds S = some r → ds.length = np) (hdb : (x == ("__debug__" : Str)) = false) (hst : es.any isStar = false) (hne : es ≠ []) (ha : SA X es fs) :
    SE X (.Call (.Name x p) es [] pos) (fun ρ S => bnd (fs ρ S) fun ds S1 => g ds S1) := by
  intro ρ S d S' e m σ H he hs
  obtain ⟨ds, S1, e1, e⟩ := bnd_eq e
  have hA := ha ρ S ds S1 e1 m σ H he hs
  cases es with
  | nil => exact absurd rfl hne
  | cons e0 es =>
    rw [List.any_cons, Bool.or_eq_false_iff] at hst
    intro pins s I
    refine wpAny_Call_Name_kw (ld_glob I hg hm (PySem.W.callWith_K (h₀ := X.base) I.ok.mod.kin hk (thn (hA pos pins s I) fun us s1 h => ?_) (ns_of hst.1 _ _) (ns_all _ _ hst.2)) hdb)
    obtain ⟨vs, H1, I1, rv, m1, p1, t1, r1, q1⟩ := h
    exact ⟨I1.kIn, runG F hr hgd hb I1 rv ⟨by rw [← q1.length]; exact hgl ds S1 _ e, m1, S1, ds, d, S', r1, q1, e, fun v H' h => h.up p1 t1⟩⟩
theorem se_b1 {x : Str} {id : String} {g : Sto → D → R D} (h : SB X (.builtin id) g) (hg : Gl X x) (hm : X.mg x = none) (hv : bootBuiltins x = some (.builtin id)) (hn : x ≠ "__name__") (hdb : (x == ("__debug__" : Str)) = false) (hst : isStar a = false) (ha : SE X a fa) :
    SE X (.Call (.Name x p) [a] [] pos) (fun ρ S => bnd (fa ρ S) fun y S1 => g S1 y) := by
  intro ρ S d S' e m σ H he hs
  obtain ⟨y, S1, e1, e⟩ := bnd_eq e
  refine WE.of (pe_callB (cr_W _) hg hm hv (pa_cons (pe_W a) pa_nil (ns_of hst _ _)) hn hdb (ns_of hst _ _) rfl) ((ha ρ S y S1 e1 m σ H he hs).mono fun v H1 ⟨m1, p1, t1, r1, q1⟩ => ?_)
  exact (h S1 y d S' e m1 H1 v r1 q1).mono fun w H3 z => z.up p1 t1
theorem se_t1 {x : Str} {id : String} {g : Sto → D → R D} (h : SB X (.type id) g) (hg : Gl X x) (hm : X.mg x = none) (hv : bootBuiltins x = some (.type id)) (hn : x ≠ "__name__") (hdb : (x == ("__debug__" : Str)) = false) (hst : isStar a = false) (ha : SE X a fa) :
    SE X (.Call (.Name x p) [a] [] pos) (fun ρ S => bnd (fa ρ S) fun y S1 => g S1 y) := by
  intro ρ S d S' e m σ H he hs
  obtain ⟨y, S1, e1, e⟩ := bnd_eq e
  refine WE.of (pe_callTy (cr_W _) hg hm hv (pa_cons (pe_W a) pa_nil (ns_of hst _ _)) hn hdb (ns_of hst _ _) rfl) ((ha ρ S y S1 e1 m σ H he hs).mono fun v H1 ⟨m1, p1, t1, r1, q1⟩ => ?_)
  exact (h S1 y d S' e m1 H1 v r1 q1).mono fun w H3 z => z.up p1 t1
theorem se_b2 {x : Str} {id : String} {g : Sto → D → D → R D} (h : SB2 X (.builtin id) g) (hg : Gl X x) (hm : X.mg x = none) (hv : bootBuiltins x = some (.builtin id)) (hn : x ≠ "__name__") (hdb : (x == ("__debug__" : Str)) = false) (hst : isStar a = false) (hst' : isStar b = false) (ha : SE X a fa) (hb : SE X b fb) :
    SE X (.Call (.Name x p) [a, b] [] pos) (fun ρ S => bnd (fa ρ S) fun y S1 => bnd (fb ρ S1) fun z S2 => g S2 y z) := by
  intro ρ S d S' e m σ H he hs
  obtain ⟨y, S1, e1, e⟩ := bnd_eq e
  obtain ⟨z, S2, e2, e⟩ := bnd_eq e
  refine WE.of (pe_callB (cr_W _) hg hm hv (pa_cons (pe_W a) (pa_cons (pe_W b) pa_nil (ns_of hst' _ _)) (ns_of hst _ _)) hn hdb (ns_of hst _ _) (ns_all (es := [b]) _ _ (by simp [hst']))) ((ha ρ S y S1 e1 m σ H he hs).mono fun v H1 ⟨m1, p1, t1, r1, q1⟩ => ?_)
  refine (hb ρ S1 z S2 e2 m1 σ H1 (he.mono t1 p1) r1).mono fun u H2 ⟨m2, p2, t2, r2, q2⟩ => ?_
  exact (h S2 y z d S' e m2 H2 v u r2 (q1.mono t2 p2) q2).mono fun w H3 h => h.up (p1.trans p2) (t1.trans t2)
theorem se_isi {x y : Str} {p' : Pos} {t : Ty} (hg : Gl X x) (hm : X.mg x = none) (hx : x = "isinstance") (hgy : Gl X y) (hmy : X.mg y = none) (hy : bootBuiltins y = some (.type t.nm)) (hny : y ≠ "__name__") (hdy : (y == ("__debug__" : Str)) = false) (hst : isStar a = false) (ha : SE X a fa) :
    SE X (.Call (.Name x p) [a, .Name y p'] [] pos) (fun ρ S => bnd (fa ρ S) fun y S1 => (isiD S1 y t).map fun k => (.bl k, S1)) := by
  intro ρ S d S' e m σ H he hs
  obtain ⟨z, S1, e1, e⟩ := bnd_eq e
  cases hk : isiD S1 z t with
  | none => rw [hk] at e; cases e
  | some k =>
    rw [hk] at e; cases e
    subst hx
    refine WE.of (pe_callB call_isi hg hm (by decide +kernel) (pa_cons (pe_W a) (pa_cons (pe_bltn (v := .ty t.nm) hgy hmy hy rfl hny hdy) pa_nil rfl) (ns_of hst _ _)) (by decide) (by decide) (ns_of hst _ _) rfl) ((ha ρ S z _ e1 m σ H he hs).mono fun v H1 ⟨m1, p1, t1, r1, q1⟩ => ?_)
    obtain ⟨c, h1, h2⟩ := isi_ok r1 q1 hk
    exact ⟨v, .ty t.nm, .type c, .type t.nm, k, rfl, .ty _, h1, kit_ty h2, m1, p1, t1, r1, .bl _⟩
/-! ### subscripts, slices -/
def WX (X : Cx) (x y : V) (H : Hp) (Q : VK) : Prop := rIx X.K x y H Q
theorem atI_map {K : PySem.W.Frag} {H : Hp} {m : List Addr} {xs : List D} {vs : List V} {i : Int} {d : D} (h : RVs K H m xs vs) (e : atI xs i = some d) : ∃ v, atI vs i = some v ∧ RV K H m d v := by
  unfold atI at e ⊢
  rw [← h.length]
  cases hj : ixN xs.length i with
  | none => rw [hj] at e; cases e
  | some j =>
    rw [hj] at e
    exact h.get e
theorem ix_rIx {S S' : Sto} {x y d : D} (e : ixD S x y = some (d, S')) {m : List Addr} {H : Hp} {vx vy : V} (r : RS X.K H m S) (qx : RV X.K H m x vx) (qy : RV X.K H m y vy) : rIx X.K vx vy H (PV X.K m H S' d) := by
  unfold ixD at e
  split at e
  · rename_i xs i
    cases h : atI xs i with
    | none => rw [h] at e; cases e
    | some d' =>
      rw [h] at e; cases e
      cases qx with
      | @tup a vs _ hs hr =>
        cases qy
        obtain ⟨v, h1, h2⟩ := atI_map hr h
        exact .inr (.inl ⟨a, vs, i, v, rfl, rfl, hs, h1, .here r h2⟩)
  · rename_i n i
    cases hi : itemsAt S n with
    | none => rw [hi] at e; cases e
    | some xs =>
      rw [hi] at e
      simp only [Option.bind_some] at e
      cases h : atI xs i with
      | none => rw [h] at e; cases e
      | some d' =>
        rw [h] at e; cases e
        cases qx with
        | @ref _ a ea =>
          cases qy
          obtain ⟨vs, h1, h2⟩ := r.items ea hi
          obtain ⟨v, h3, h4⟩ := atI_map h2 h
          exact .inl ⟨a, vs, i, v, rfl, rfl, h1, h3, .here r h4⟩
  · cases e
theorem se_ix (hs : PlainIx b) (ha : SE X a fa) (hb : SE X b fb) : SE X (.Subscript a b pos) (fun ρ S => bnd (fa ρ S) fun x S1 => bnd (fb ρ S1) fun y S2 => ixD S2 x y) := by
  intro ρ S d S' e m σ H he hss
  obtain ⟨x, S1, e1, e⟩ := bnd_eq e
  obtain ⟨y, S2, e2, e⟩ := bnd_eq e
  refine WE.of (pe_ix ix_seq (pe_W a) (pe_W b) hs) ((ha ρ S x S1 e1 m σ H he hss).mono fun v H1 ⟨m1, p1, t1, r1, q1⟩ => ?_)
  refine (hb ρ S1 y S2 e2 m1 σ H1 (he.mono t1 p1) r1).mono fun u H2 ⟨m2, p2, t2, r2, q2⟩ => ?_
  have z := ix_rIx e r2 (q1.mono t2 p2) q2
  have up : ∀ w H3, PV X.K m2 H2 S' d w H3 → PV X.K m H S' d w H3 := fun w H3 h => h.up (p1.trans p2) (t1.trans t2)
  rcases z with ⟨pp, xs, i, v', h1, h2, h3, h4, h5⟩ | ⟨pp, xs, i, v', h1, h2, h3, h4, h5⟩ | ⟨z', i, c', h1, h2, h3, h4, h5⟩
  · exact .inl ⟨pp, xs, i, v', h1, h2, h3, h4, up _ _ h5⟩
  · exact .inr (.inl ⟨pp, xs, i, v', h1, h2, h3, h4, up _ _ h5⟩)
  · exact .inr (.inr ⟨z', i, c', h1, h2, h3, h4, up _ _ h5⟩)
def SOo (X : Cx) (e : Option Expr) (f : Env → Sto → R (Option D)) : Prop := ∀ ρ S o S', f ρ S = some (o, S') → ∀ i, oInt o = some i → ∀ m σ H, RE X.K H m ρ σ → RS X.K H m S → ∃ t, PO X e t ∧ ∀ Q : Option Int → Hp → Prop, (∀ H', PH X.K m H S' (fun _ _ => True) H' → Q i H') → t σ H Q
theorem soo_none : SOo X none (fun _ S => some (none, S)) := by
  intro ρ S o S' e i hi m σ H he hs
  cases (show some ((none : Option D), S) = some (o, S') from e)
  cases hi
  exact ⟨_, po_none, fun Q h => h H ⟨m, List.prefix_refl m, TK.refl H, hs, trivial⟩⟩
theorem soo_some (ha : SE X a fa) : SOo X (some a) (fun ρ S => bnd (fa ρ S) fun d S1 => some (some d, S1)) := by
  intro ρ S o S' e i hi m σ H he hs
  obtain ⟨x, S1, e1, e⟩ := bnd_eq e
  cases e
  refine ⟨_, po_some (pe_W a), fun Q h => (ha ρ S x _ e1 m σ H he hs).mono fun v H1 ⟨m1, p1, t1, r1, q1⟩ => ?_⟩
  cases q1 with
  | int j => cases hi; exact ⟨j, rfl, h H1 ⟨m1, p1, t1, r1, trivial⟩⟩
  | _ => cases hi
theorem cut_RVs {K : PySem.W.Frag} {H : Hp} {m : List Addr} {xs : List D} {vs : List V} (h : RVs K H m xs vs) (lo hi : Option Int) : RVs K H m (cutD xs lo hi) (cutV vs lo hi) := by
  unfold cutD cutV
  rw [← h.length]
  exact (h.drop _).take _
end
end Ev
end
section
set_option Elab.async false
set_option linter.all false
set_option maxRecDepth 100000
set_option maxHeartbeats 4000000
/-! Slices, methods, what is walked, targets. -/
namespace Ev
open PySem PySem.Spec PyProof.Rows L2

section
variable {X : Cx} {k : Nat} {a b c : Expr} {pos p : Pos} {fa fb fc : Env → Sto → R D}
theorem cut_whole {xs : List D} {lo hi : Option Int} (h : HT.sIx xs.length 0 lo = 0 ∧ HT.sIx xs.length xs.length hi = xs.length) : cutD xs lo hi = xs := by
  unfold cutD
  rw [h.1, h.2, List.drop_zero, Nat.sub_zero]
  exact List.take_length
theorem se_sl {lo hi : Option Expr} {flo fhi : Env → Sto → R (Option D)} {p2 : Pos} (ha : SE X a fa) (hl : SOo X lo flo) (hh : SOo X hi fhi) : SE X (.Subscript a (.Slice lo hi none p2) pos) (fun ρ S => bnd (fa ρ S) fun x S1 => bnd (flo ρ S1) fun l S2 => bnd (fhi ρ S2) fun h S3 => sl3 S3 x l h) := by
  intro ρ S d S' e m σ H he hs
  obtain ⟨x, S1, e1, e⟩ := bnd_eq e
  obtain ⟨l, S2, e2, e⟩ := bnd_eq e
  obtain ⟨h, S3, e3, e⟩ := bnd_eq e
  unfold sl3 at e
  cases ol : oInt l with
  | none => rw [ol] at e; cases e
  | some il =>
    cases oh : oInt h with
    | none => rw [ol, oh] at e; cases e
    | some ih =>
      rw [ol, oh] at e
      replace e : slD S3 x il ih = some (d, S') := e
      -- the parts, whatever is done then
      have parts : ∀ (r : V → Option Int → Option Int → Hp → VK → Prop), SlR X r → (∀ v m3 H3, m <+: m3 → TK H H3 → RS X.K H3 m3 S3 → RV X.K H3 m3 x v → r v il ih H3 (PV X.K m H S' d)) → WE X (.Subscript a (.Slice lo hi none p2) pos) σ H (PV X.K m H S' d) := by
        intro r hr hk pins s I
        -- the readings of the parts depend on where they start: take them by meaning
        have hlo : PO X lo (fun σ1 H1 Q => ∀ (pins : List (Addr × Obj)) (s : Shared), Inv X pins σ1 H1 s → wpAny (model X.prog X.w) X.A (evalPart lo X.env) (fun u s' => ∃ o H', Inv X pins σ1 H' s' ∧ IsPart u o ∧ Q o H') X.xe s) := ⟨fun pins s _ _ _ I h => h pins s I⟩
        have hhi : PO X hi (fun σ1 H1 Q => ∀ (pins : List (Addr × Obj)) (s : Shared), Inv X pins σ1 H1 s → wpAny (model X.prog X.w) X.A (evalPart hi X.env) (fun u s' => ∃ o H', Inv X pins σ1 H' s' ∧ IsPart u o ∧ Q o H') X.xe s) := ⟨fun pins s _ _ _ I h => h pins s I⟩
        refine (pe_slice hr (pe_W a) hlo hhi).run pins s σ H _ I ?_
        refine (ha ρ S x S1 e1 m σ H he hs).mono fun v H1 ⟨m1, p1, t1, r1, q1⟩ => ?_
        intro pins1 s1 I1
        obtain ⟨t, ht, hq⟩ := hl ρ S1 l S2 e2 il ol m1 σ H1 (he.mono t1 p1) r1
        refine ht.run pins1 s1 σ H1 _ I1 (hq _ fun H2 ⟨m2, p2, t2, r2, _⟩ => ?_)
        intro pins2 s2 I2
        obtain ⟨t', ht', hq'⟩ := hh ρ S2 h S3 e3 ih oh m2 σ H2 (he.mono (t1.trans t2) (p1.trans p2)) r2
        refine ht'.run pins2 s2 σ H2 _ I2 (hq' _ fun H3 ⟨m3, p3, t3, r3, _⟩ => ?_)
        exact hk v m3 H3 ((p1.trans p2).trans p3) ((t1.trans t2).trans t3) r3 (q1.mono (t2.trans t3) (p2.trans p3))
      unfold slD at e
      split at e
      · rename_i xs
        cases e
        refine parts _ sl_tupA fun v m3 H3 p3 t3 r3 q3 => ?_
        cases q3 with
        | @tup a vs _ hs hr =>
          refine ⟨a, vs, rfl, hs, fun z => ?_, fun _ q hq => (pv_newT r3 (cut_RVs hr il ih) hq).up p3 t3⟩
          rw [← hr.length] at z
          rw [cut_whole z]
          exact ⟨m3, p3, t3, r3, .tup hs hr⟩
      · rename_i n _ _
        cases hi : itemsAt S3 n with
        | none => rw [hi] at e; cases e
        | some xs =>
          rw [hi] at e
          simp only [Option.bind_some] at e
          unfold newL at e
          split at e
          · cases e
            refine parts _ sl_list fun v m3 H3 p3 t3 r3 q3 => ?_
            cases q3 with
            | @ref _ a ea =>
              obtain ⟨vs, h1, h2⟩ := r3.items ea hi
              exact ⟨a, vs, rfl, h1, fun q hq => (pv_newL r3 (cut_RVs h2 il ih) hq).up p3 t3⟩
          · cases e
      · cases e
/-! ### methods of a list, the list a name -/
theorem se_meth {x name : Str} {id : String} {px apos cpos : Pos} {g : Sto → D → D → R D} {r : V → List V → Hp → VK → Prop} (slot : Slot "list" name id) (hty : typeOf (.builtin id) = pure (.type "method_descriptor")) (hm : MtR X id r) (hline : (apos.endLine == cpos.line) = true) (hst : isStar b = false)
    (ho : SE X (.Name x px) fa) (hb : SE X b fb)
    (hr : ∀ S n y d S', g S (.ref n) y = some (d, S') → ∀ m H a vy, RS X.K H m S → m[n]? = some a → RV X.K H m y vy → ∀ Q : VK, (∀ v H', PV X.K m H S' d v H' → Q v H') → r (.ref a) [vy] H Q) :
    SE X (.Call (.Attribute (.Name x px) name apos) [b] [] cpos) (fun ρ S => bnd (fa ρ S) fun o S1 => if isL S1 o = true then bnd (fb ρ S1) fun y S2 => g S2 o y else none) := by
  intro ρ S d S' e m σ H he hs
  obtain ⟨o, S1, e1, e⟩ := bnd_eq e
  split at e
  · rename_i hL
    obtain ⟨y, S2, e2, e⟩ := bnd_eq e
    refine WE.of (pe_bm PySem.F.plainAttrs_list slot hty hm (pe_W _) (pa_cons (pe_W b) pa_nil (ns_of hst _ _)) rfl (by
      rw [ns_of hst]; rfl) hline (ns_of hst _ _) rfl) ((ho ρ S _ S1 e1 m σ H he hs).mono fun v H1 ⟨m1, p1, t1, r1, q1⟩ => ?_)
    cases q1 with
    | @ref n a ea =>
      refine ⟨?_, ?_⟩
      · obtain ⟨xs, hx⟩ := Option.isSome_iff_exists.mp hL
        obtain ⟨vs, h1, h2⟩ := r1.items ea hx
        exact .inl ⟨rfl, vs, h1⟩
      · refine (hb ρ S1 y S2 e2 m1 σ H1 (he.mono t1 p1) r1).mono fun u H2 ⟨m2, p2, t2, r2, q2⟩ => ?_
        exact hr S2 n y d S' e m2 H2 a u r2 (pre_get p2 ea) q2 _ fun v H' h => h.up (p1.trans p2) (t1.trans t2)
    | _ => cases hL
  · cases e
theorem pv_set {K : PySem.W.Frag} {H : Hp} {m : List Addr} {S : Sto} (r : RS K H m S) {n : Nat} {a : Addr} {ys : List V} {ds : List D} {vs : List V} {d : D} {v : V} (e : m[n]? = some a) (h : H a = some (.lst ys)) (q : RVs K H m ds vs) (qd : RV K H m d v) : PV K m H (S.set n (.lst ds)) d v (upd H a (.lst vs)) :=
  ⟨m, List.prefix_refl m, TK.lst h, r.write e h q, qd.mono (TK.lst h) (List.prefix_refl m)⟩
theorem mr_append : ∀ S n y d S', m2D S .append (.ref n) y = some (d, S') → ∀ m H a vy, RS X.K H m S → m[n]? = some a → RV X.K H m y vy → ∀ Q : VK, (∀ v H', PV X.K m H S' d v H' → Q v H') → rAppend (.ref a) [vy] H Q := by
  intro S n y d S' e m H a vy r ea qy Q hQ
  simp only [m2D] at e
  split at e
  · rename_i xs hx
    split at e
    · rename_i hz
      cases e
      obtain ⟨vs, h1, h2⟩ := r.obj n a _ ea hx
      exact ⟨a, vs, vy, rfl, rfl, h1, by rw [← h2.length]; exact lt_size hz, hQ _ _ (pv_set r ea h1 (h2.append (.cons qy .nil)) .non)⟩
    · cases e
  · cases e
theorem mr_extend : ∀ S n y d S', m2D S .extend (.ref n) y = some (d, S') → ∀ m H a vy, RS X.K H m S → m[n]? = some a → RV X.K H m y vy → ∀ Q : VK, (∀ v H', PV X.K m H S' d v H' → Q v H') → rExtend (.ref a) [vy] H Q := by
  intro S n y d S' e m H a vy r ea qy Q hQ
  cases qy with
  | @ref k' b eb =>
    simp only [m2D] at e
    split at e
    · rename_i xs ys hx hy
      split at e
      · rename_i hz
        cases e
        obtain ⟨vs, h1, h2⟩ := r.obj n a _ ea hx
        obtain ⟨us, h3, h4⟩ := r.obj k' b _ eb hy
        exact ⟨a, b, vs, us, rfl, rfl, h1, h3, by rw [← h2.length, ← h4.length]; exact le_size hz, hQ _ _ (pv_set r ea h1 (h2.append h4) .non)⟩
      · cases e
    · cases e
  | _ => cases e
theorem mr_pop : ∀ S n y d S', m2D S .pop (.ref n) y = some (d, S') → ∀ m H a vy, RS X.K H m S → m[n]? = some a → RV X.K H m y vy → ∀ Q : VK, (∀ v H', PV X.K m H S' d v H' → Q v H') → rPopAt (.ref a) [vy] H Q := by
  intro S n y d S' e m H a vy r ea qy Q hQ
  cases qy with
  | int i =>
    simp only [m2D] at e
    split at e
    · rename_i xs hx
      split at e
      · rename_i d' hd
        split at e
        · rename_i hz
          cases e
          obtain ⟨vs, h1, h2⟩ := r.obj n a _ ea hx
          obtain ⟨v, h3, h4⟩ := h2.get hd
          have hlt : i.toNat < vs.length := by
            rcases Nat.lt_or_ge i.toNat vs.length with z | z
            · exact z
            · rw [List.getElem?_eq_none z] at h3; cases h3
          exact ⟨a, vs, i, i.toNat, v, rfl, rfl, h1, by omega, by omega, seqIndex_of hz.1 (by omega), h3, hQ _ _ (pv_set r ea h1 (h2.eraseIdx _) h4)⟩
        · cases e
      · cases e
    · cases e
  | _ => cases e
end
end Ev
end
section
set_option Elab.async false
set_option linter.all false
set_option maxRecDepth 100000
set_option maxHeartbeats 4000000
/-! What is walked, targets, comprehensions. -/
namespace Ev
open PySem PySem.Spec PyProof.Rows L2

/-- an iterator yields the items of src, as long as its lists stand -/
structure Wk (K : PySem.W.Frag) (J : It) (m1 : List Addr) (H1 : Hp) (src : Src) : Prop where
  go : ∀ i d, src.items[i]? = some d → ∀ m2 H2 S2, m1 <+: m2 → TK H1 H2 → RS K H2 m2 S2 → src.ok S2 → J.go i H2 ∧ ∀ x H3, J.yld i H2 x H3 → TK H2 H3 ∧ RS K H3 m2 S2 ∧ RV K H3 m2 d x
  stop : ∀ m2 H2 S2, m1 <+: m2 → TK H1 H2 → RS K H2 m2 S2 → src.ok S2 → J.stop src.items.length H2
def SI (X : Cx) (tg iter : Expr) (f : Env → Sto → R Src) : Prop := ∀ ρ S src S', f ρ S = some (src, S') → ∀ m σ H, RE X.K H m ρ σ → RS X.K H m S → WI X tg iter σ H (fun J H1 => ∃ m1, m <+: m1 ∧ TK H H1 ∧ RS X.K H1 m1 S' ∧ Wk X.K J m1 H1 src)
section
variable {X : Cx} {k : Nat} {tg a b c : Expr} {pos p : Pos} {fa fb fc : Env → Sto → R D}
theorem RVs.get2 {K : PySem.W.Frag} {H : Hp} {m : List Addr} {ds : List D} {vs : List V} (h : RVs K H m ds vs) {i : Nat} {d : D} {v : V} (e : ds[i]? = some d) (e' : vs[i]? = some v) : RV K H m d v := by
  obtain ⟨w, h1, h2⟩ := h.get e
  rw [e'] at h1
  cases h1
  exact h2
theorem si_seq (ha : SE X a fa) : SI X tg a (fun ρ S => bnd (fa ρ S) fun d S1 => srcD S1 d) := by
  intro ρ S src S' e m σ H he hs
  obtain ⟨x, S1, e1, e⟩ := bnd_eq e
  unfold srcD at e
  split at e
  · rename_i s
    cases e
    refine WI.of (pi_str (pe_W a)) ((ha ρ S _ _ e1 m σ H he hs).mono fun v H1 ⟨m1, p1, t1, r1, q1⟩ => ?_)
    cases q1
    refine ⟨s, rfl, m1, p1, t1, r1, ⟨fun i d hd m2 H2 S2 p2 t2 r2 _ => ?_, fun m2 H2 S2 p2 t2 r2 _ => ?_⟩⟩
    · have hd' : (s.cps.toList.map fun c => D.str ⟨#[c]⟩)[i]? = some d := hd
      rw [List.getElem?_map] at hd'
      cases hc : s.cps.toList[i]? with
      | none => rw [hc] at hd'; cases hd'
      | some c =>
        rw [hc] at hd'
        cases hd'
        have hi : i < s.cps.size := by
          rcases Nat.lt_or_ge i s.cps.size with z | z
          · exact z
          · rw [List.getElem?_eq_none (by simpa using z)] at hc; cases hc
        refine ⟨hi, fun x H3 hx => ?_⟩
        obtain ⟨rfl, c', h1, rfl⟩ := hx
        have : c' = c := by
          rw [Array.getElem?_toList] at hc
          rw [hc] at h1
          exact (Option.some.inj h1).symm
        subst this
        exact ⟨TK.refl _, r2, .str _⟩
    · show s.cps.size ≤ (signs s).length
      simp [signs]
  · split at e
    · rename_i xs hx
      cases e
      cases x with
      | tup ys =>
        cases hx
        refine WI.of (pi_tup (pe_W a)) ((ha ρ S _ _ e1 m σ H he hs).mono fun v H1 ⟨m1, p1, t1, r1, q1⟩ => ?_)
        cases q1 with
        | @tup a vs _ hq hr =>
          refine ⟨a, rfl, ⟨vs, hq⟩, m1, p1, t1, r1, ⟨fun i d hd m2 H2 S2 p2 t2 r2 _ => ?_, fun m2 H2 S2 p2 t2 r2 _ => ⟨vs, t2.sq hq, by rw [← hr.length]; exact Nat.le_refl _⟩⟩⟩
          obtain ⟨v, h1, h2⟩ := hr.get hd
          refine ⟨⟨vs, v, t2.sq hq, h1⟩, fun y H3 hy => ?_⟩
          obtain ⟨rfl, hy⟩ := hy
          have := hy vs (t2.sq hq)
          rw [h1] at this
          cases this
          exact ⟨TK.refl _, r2, h2.mono t2 p2⟩
      | ref n =>
        refine WI.of (pi_list (pe_W a)) ((ha ρ S _ _ e1 m σ H he hs).mono fun v H1 ⟨m1, p1, t1, r1, q1⟩ => ?_)
        cases q1 with
        | @ref _ a ea =>
          obtain ⟨vs, h1, h2⟩ := r1.items ea hx
          refine ⟨a, rfl, ⟨vs, h1⟩, m1, p1, t1, r1, ⟨fun i d hd m2 H2 S2 p2 t2 r2 ok => ?_, fun m2 H2 S2 p2 t2 r2 ok => ?_⟩⟩
          · obtain ⟨vs2, h3, h4⟩ := r2.items (pre_get p2 ea) (ok (n, xs) (by simp [heldD]))
            obtain ⟨v, h5, h6⟩ := h4.get hd
            refine ⟨⟨vs2, v, h3, h5⟩, fun y H3 hy => ?_⟩
            obtain ⟨rfl, hy⟩ := hy
            have := hy vs2 h3
            rw [h5] at this
            cases this
            exact ⟨TK.refl _, r2, h6⟩
          · obtain ⟨vs2, h3, h4⟩ := r2.items (pre_get p2 ea) (ok (n, xs) (by simp [heldD]))
            exact ⟨vs2, h3, by rw [← h4.length]; exact Nat.le_refl _⟩
      | _ => cases hx
    · cases e
theorem wk_range {K : PySem.W.Frag} {m1 : List Addr} {H1 : Hp} (lo : Int) (n : Nat) : Wk K (Itr lo n) m1 H1 ⟨rangeD lo n, []⟩ := by
  refine ⟨fun i d hd m2 H2 S2 p2 t2 r2 _ => ?_, fun m2 H2 S2 p2 t2 r2 _ => ?_⟩
  · have hi : i < n := by
      rcases Nat.lt_or_ge i n with z | z
      · exact z
      · rw [List.getElem?_eq_none (by simpa [rangeD] using z)] at hd; cases hd
    refine ⟨hi, fun x H3 hy => ?_⟩
    obtain ⟨rfl, rfl⟩ := hy
    have : d = .int (lo + (i : Int)) := by
      simp [rangeD, hi] at hd
      exact hd.symm
    subst this
    exact ⟨TK.refl _, r2, .int _⟩
  · show n ≤ (rangeD lo n).length
    simp [rangeD]
theorem si_r1 {x : Str} (hx : x = "range") (hg : Gl X x) (hm : X.mg x = none) (hst : isStar a = false) (ha : SE X a fa) : SI X tg (.Call (.Name x p) [a] [] pos) (fun ρ S => bnd (fa ρ S) fun d S1 => rng1 S1 d) := by
  subst hx
  intro ρ S src S' e m σ H he hs
  obtain ⟨x, S1, e1, e⟩ := bnd_eq e
  unfold rng1 at e
  split at e
  · rename_i j
    split at e
    · rename_i hj
      cases e
      refine WI.of (pi_range1 hg hm (pa_cons (pe_W a) pa_nil (ns_of hst _ _)) (ns_of hst _ _)) ((ha ρ S _ _ e1 m σ H he hs).mono fun v H1 ⟨m1, p1, t1, r1, q1⟩ => ?_)
      cases q1
      exact ⟨j, rfl, hj.1, hj.2, m1, p1, t1, r1, wk_range 0 _⟩
    · cases e
  · cases e
theorem si_r2 {x : Str} (hx : x = "range") (hg : Gl X x) (hm : X.mg x = none) (hst : isStar a = false) (hst' : isStar b = false) (ha : SE X a fa) (hb : SE X b fb) : SI X tg (.Call (.Name x p) [a, b] [] pos) (fun ρ S => bnd (fa ρ S) fun d S1 => bnd (fb ρ S1) fun e S2 => rng2 S2 d e) := by
  subst hx
  intro ρ S src S' e m σ H he hs
  obtain ⟨x, S1, e1, e⟩ := bnd_eq e
  obtain ⟨y, S2, e2, e⟩ := bnd_eq e
  unfold rng2 at e
  split at e
  · split at e
    · rename_i hj
      cases e
      refine WI.of (pi_range2 hg hm (pa_cons (pe_W a) (pa_cons (pe_W b) pa_nil (ns_of hst' _ _)) (ns_of hst _ _)) (by rw [ns_of hst, ns_of hst']; rfl) (ns_of hst' _ _)) ((ha ρ S _ _ e1 m σ H he hs).mono fun v H1 ⟨m1, p1, t1, r1, q1⟩ => ?_)
      refine (hb ρ S1 _ _ e2 m1 σ H1 (he.mono t1 p1) r1).mono fun u H2 ⟨m2, p2, t2, r2, q2⟩ => ?_
      cases q1
      cases q2
      exact ⟨_, _, rfl, ⟨hj.1.1, hj.1.2, hj.2.1, hj.2.2⟩, m2, p1.trans p2, t1.trans t2, r2, wk_range _ _⟩
    · cases e
  · cases e
theorem zip_get {xs ys : List D} {i : Nat} {d : D} (h : (zip2 xs ys)[i]? = some d) : ∃ x y, xs[i]? = some x ∧ ys[i]? = some y ∧ d = .tup [x, y] := by
  unfold zip2 at h
  rw [List.getElem?_zipWith] at h
  cases hx : xs[i]? with
  | none => rw [hx] at h; cases h
  | some x =>
    cases hy : ys[i]? with
    | none => rw [hx, hy] at h; cases h
    | some y => rw [hx, hy] at h; cases h; exact ⟨x, y, rfl, rfl, rfl⟩
theorem pair_new {K : PySem.W.Frag} {H : Hp} {m : List Addr} {S : Sto} (r : RS K H m S) {x y : D} {vx vy : V} (qx : RV K H m x vx) (qy : RV K H m y vy) {T : Addr} (h : H T = none) : TK H (upd H T (.tup [vx, vy])) ∧ RS K (upd H T (.tup [vx, vy])) m S ∧ RV K (upd H T (.tup [vx, vy])) m (.tup [x, y]) (.ref T) :=
  ⟨TK.new h, r.tup h, .tup (SqT.of upd_same) (.cons (qx.mono (TK.new h) (List.prefix_refl m)) (.cons (qy.mono (TK.new h) (List.prefix_refl m)) .nil))⟩
theorem si_zip {x : Str} {es : List Expr} {kk : Nat} {tpos : Pos} (hx : x = "zip") (hg : Gl X x) (hm : X.mg x = none) (hst : isStar a = false) (hst' : isStar b = false) (ha : SE X a fa) (hb : SE X b fb) :
    SI X (.Tuple es kk tpos) (.Call (.Name x p) [a, b] [] pos) (fun ρ S => bnd (fa ρ S) fun d S1 => bnd (fb ρ S1) fun e S2 => zipD S2 d e) := by
  subst hx
  intro ρ S src S' e m σ H he hs
  obtain ⟨x, S1, e1, e⟩ := bnd_eq e
  obtain ⟨y, S2, e2, e⟩ := bnd_eq e
  refine WI.of (RZ.pi_zipA hg hm (pa_cons (pe_W a) (pa_cons (pe_W b) pa_nil (ns_of hst' _ _)) (ns_of hst _ _)) (ns_of hst _ _) (ns_all (es := [b]) _ _ (by simp [hst']))) ((ha ρ S _ _ e1 m σ H he hs).mono fun v H1 ⟨m1, p1, t1, r1, q1⟩ => ?_)
  refine (hb ρ S1 _ _ e2 m1 σ H1 (he.mono t1 p1) r1).mono fun u H2 ⟨m2, p2, t2, r2, q2⟩ => ?_
  have q1 := q1.mono t2 p2
  unfold zipD at e
  split at e
  · rename_i xs ys
    cases e
    cases q1 with
    | @tup a vs _ ha' hra =>
      cases q2 with
      | @tup b us _ hb' hrb =>
        refine ⟨a, b, vs, us, rfl, .inr ⟨ha', hb', m2, p1.trans p2, t1.trans t2, r2, ⟨fun i d hd m3 H3 S3 p3 t3 r3 _ => ?_, fun m3 H3 S3 p3 t3 r3 _ => ⟨vs, us, t3.sq ha', t3.sq hb', ?_⟩⟩⟩⟩
        · obtain ⟨x, y, hx, hy, rfl⟩ := zip_get hd
          obtain ⟨vx, h1, h2⟩ := hra.get hx
          obtain ⟨vy, h3, h4⟩ := hrb.get hy
          refine ⟨⟨vs, us, vx, vy, t3.sq ha', t3.sq hb', h1, h3⟩, fun z H4 hz => ?_⟩
          obtain ⟨T, x', y', rfl, hT, rfl, f1, f2⟩ := hz
          have e1 := f1 vs (t3.sq ha'); rw [h1] at e1; cases e1
          have e2 := f2 us (t3.sq hb'); rw [h3] at e2; cases e2
          exact pair_new r3 (h2.mono t3 p3) (h4.mono t3 p3) hT
        · rw [← hra.length, ← hrb.length]
          simp only [zip2, List.length_zipWith]
          omega
  · split at e
    · rename_i xs ys hxs hys
      cases e
      cases q1 with
      | @ref _ a ea =>
        cases q2 with
        | @ref _ b eb =>
          obtain ⟨vs, h1, h2⟩ := r2.items ea hxs
          obtain ⟨us, h3, h4⟩ := r2.items eb hys
          refine ⟨a, b, vs, us, rfl, .inl ⟨h1, h3, m2, p1.trans p2, t1.trans t2, r2, ⟨fun i d hd m3 H3 S3 p3 t3 r3 ok => ?_, fun m3 H3 S3 p3 t3 r3 ok => ?_⟩⟩⟩
          · obtain ⟨x, y, hx, hy, rfl⟩ := zip_get hd
            obtain ⟨vs', g1, g2⟩ := r3.items (pre_get p3 ea) (ok (_, xs) (List.mem_cons_self ..))
            obtain ⟨us', g3, g4⟩ := r3.items (pre_get p3 eb) (ok (_, ys) (List.mem_cons_of_mem _ (List.mem_cons_self ..)))
            obtain ⟨vx, k1, k2⟩ := g2.get hx
            obtain ⟨vy, k3, k4⟩ := g4.get hy
            refine ⟨⟨vs', us', vx, vy, g1, g3, k1, k3⟩, fun z H4 hz => ?_⟩
            obtain ⟨T, x', y', rfl, hT, rfl, f1, f2⟩ := hz
            have e1 := f1 vs' g1; rw [k1] at e1; cases e1
            have e2 := f2 us' g3; rw [k3] at e2; cases e2
            exact pair_new r3 k2 k4 hT
          · obtain ⟨vs', g1, g2⟩ := r3.items (pre_get p3 ea) (ok (_, xs) (List.mem_cons_self ..))
            obtain ⟨us', g3, g4⟩ := r3.items (pre_get p3 eb) (ok (_, ys) (List.mem_cons_of_mem _ (List.mem_cons_self ..)))
            refine ⟨vs', us', g1, g3, ?_⟩
            rw [← g2.length, ← g4.length]
            simp only [zip2, List.length_zipWith]
            omega
    · cases e
  · cases e
/-! ### targets -/
def Tg.slots : Tg → List Nat
  | .one i => [i]
  | .many is => is
def WG (X : Cx) (tg : Expr) (v : V) (σ : L2.St) (H : Hp) (Q : L2.St → Hp → Prop) : Prop := ∀ (pins : List (Addr × Obj)) (s : Shared) (u : Value), Inv X pins σ H s → RelV v u → wpAny (model X.prog X.w) X.A (assign tg X.env u) (fun _ s' => ∃ σ' H', Inv X pins σ' H' s' ∧ Q σ' H') X.xe s
theorem pg_W (tg : Expr) : PG X tg (WG X tg) := ⟨fun pins s _ _ _ u _ I r h => h pins s u I r⟩
theorem WG.of {t : TG} {v : V} {σ : L2.St} {H : Hp} {Q : L2.St → Hp → Prop} (h : PG X tg t) (q : t v σ H Q) : WG X tg v σ H Q := fun pins s u I r => h.run pins s σ H v u Q I r q
theorem WG.mono {v : V} {σ : L2.St} {H : Hp} {Q Q' : L2.St → Hp → Prop} (h : WG X tg v σ H Q) (z : ∀ σ' H', Q σ' H' → Q' σ' H') : WG X tg v σ H Q' := fun pins s u I r =>
  thn (h pins s u I r) fun _ s' ⟨σ', H', I', q⟩ => ⟨σ', H', I', z σ' H' q⟩
/-- σ' is σ but at the slots is -/
def But (is : List Nat) (σ σ' : L2.St) : Prop := σ'.length = σ.length ∧ ∀ j, j ∉ is → σ'[j]? = σ[j]?
def SG (X : Cx) (tg : Expr) (t : Tg) : Prop := ∀ d ρ ρ', setT t d ρ = some ρ' → ∀ m σ H v, RE X.K H m ρ σ → RV X.K H m d v → WG X tg v σ H (fun σ' H' => H' = H ∧ RE X.K H m ρ' σ' ∧ But t.slots σ σ')
theorem But.set {i : Nat} {σ : L2.St} {o : Option V} : But [i] σ (σ.set i o) := ⟨by simp, fun j hj => by
  rw [List.getElem?_set_ne]
  intro z
  exact hj (by simp [z])⟩
theorem But.trans {is js : List Nat} {σ σ' σ'' : L2.St} (h : But is σ σ') (h' : But js σ' σ'') : But (is ++ js) σ σ'' := ⟨h'.1.trans h.1, fun j hj => by
  rw [List.mem_append, not_or] at hj
  exact (h'.2 j hj.2).trans (h.2 j hj.1)⟩
theorem sg_one {i : Nat} {x : Str} (hN : X.N.Nodup) (hi : X.N[i]? = some x) (hx : Loc X.env.scope x) (hf : X.fn x = true ∨ X.env.scope.names.lookup x = some .local) : SG X (.Name x p) (.one i) := by
  intro d ρ ρ' e m σ H v he hv
  cases e
  exact WG.of (pg_name hN hi hx hf) ⟨rfl, he.set i hv, .set⟩
/-- several names, one behind another -/
inductive Names (X : Cx) : List Expr → List Nat → Prop
  | nil : Names X [] []
  | cons {x : Str} {p : Pos} {es : List Expr} {i : Nat} {is : List Nat} : X.N[i]? = some x → Loc X.env.scope x → (X.fn x = true ∨ X.env.scope.names.lookup x = some .local) → Names X es is → Names X (.Name x p :: es) (i :: is)
theorem Names.each {es : List Expr} {is : List Nat} (h : Names X es is) : assignEach es X.env = es.map fun e => (false, assign e X.env) := by
  induction h with
  | nil => rfl
  | cons _ _ _ _ ih => rw [List.map_cons, ← ih]; rfl
theorem names_set (hN : X.N.Nodup) {es : List Expr} {is : List Nat} (h : Names X es is) : ∃ t, PGs X es t ∧ ∀ ds ρ ρ', setAll is ds ρ = some ρ' → ∀ m σ H vs, RE X.K H m ρ σ → RVs X.K H m ds vs → ∀ Q : L2.St → Hp → Prop, (∀ σ', RE X.K H m ρ' σ' → But is σ σ' → Q σ' H) → t vs σ H Q := by
  induction h with
  | nil =>
    refine ⟨_, pgs_nil, fun ds ρ ρ' e m σ H vs he hv Q hQ => ?_⟩
    cases ds with
    | nil => cases hv; cases e; exact ⟨rfl, hQ σ he ⟨rfl, fun _ _ => rfl⟩⟩
    | cons _ _ => cases e
  | @cons x p es i is hi hx hf hn ih =>
    obtain ⟨t, ht, hq⟩ := ih
    refine ⟨_, pgs_cons (pg_name hN hi hx hf) ht rfl, fun ds ρ ρ' e m σ H vs he hv Q hQ => ?_⟩
    cases ds with
    | nil => cases e
    | cons d ds =>
      cases hv with
      | @cons _ _ v vs h1 h2 =>
        refine ⟨v, vs, rfl, hq ds _ ρ' e m _ H vs (he.set i h1) h2 Q fun σ' r1 r2 => hQ σ' r1 ?_⟩
        exact But.trans (But.set (i := i)) r2
theorem setAll_len : ∀ {is : List Nat} {ds : List D} {ρ ρ' : Env}, setAll is ds ρ = some ρ' → ds.length = is.length
  | [], [], _, _, _ => rfl
  | [], _ :: _, _, _, h => by cases h
  | _ :: _, [], _, _, h => by cases h
  | _ :: is, _ :: ds, _, _, h => by simp [setAll_len (is := is) (ds := ds) h]
theorem sg_many {es : List Expr} {is : List Nat} {n : Nat} (hc : X.calm = true) (hN : X.N.Nodup) (h : Names X es is) : SG X (.Tuple es n p) (.many is) := by
  intro d ρ ρ' e m σ H v he hv
  cases hv with
  | @tup a vs ds hs hr =>
    obtain ⟨t, ht, hq⟩ := names_set hN h
    have hl : is.length = es.length := by
      clear hq ht e
      induction h with
      | nil => rfl
      | cons _ _ _ _ ih => simp [ih]
    refine WG.of (pg_tup (n := es.length) hc ht (by rw [h.each]; simp) ?_) ⟨a, vs, rfl, hs, ?_, hq ds ρ ρ' e m σ H vs he hr _ fun σ' r1 r2 => ⟨rfl, r1, r2⟩⟩
    · rw [h.each, List.findIdx?_eq_none_iff]
      intro q hq
      obtain ⟨e', _, rfl⟩ := List.mem_map.mp hq
      rfl
    · rw [← hr.length, setAll_len e, hl]
  | _ => cases e
end
end Ev
end
section
set_option Elab.async false
set_option linter.all false
set_option maxRecDepth 100000
set_option maxHeartbeats 4000000
/-! Comprehensions. -/
namespace Ev
open PySem PySem.Spec PyProof.Rows L2

theorem wipe_get {σ : L2.St} {j : Nat} : ∀ {vs : List Nat}, (wipe σ vs)[j]? = if j ∈ vs ∧ j < σ.length then some none else σ[j]?
  | [] => by simp [wipe]
  | v :: vs => by
    unfold wipe
    have ih := wipe_get (σ := σ) (j := j) (vs := vs)
    by_cases hv : v = j
    · subst hv
      by_cases hl : v < σ.length
      · rw [List.getElem?_set_self (by rw [wipe_length]; exact hl), if_pos ⟨by simp, hl⟩]
      · rw [List.getElem?_eq_none (by rw [List.length_set, wipe_length]; omega), if_neg (fun z => hl z.2), List.getElem?_eq_none (by omega)]
    · rw [List.getElem?_set_ne hv, ih]
      have : (j ∈ v :: vs) ↔ j ∈ vs := by simp [Ne.symm hv]
      simp only [this]
theorem wipeE_get {ρ : Env} {j : Nat} : ∀ {vs : List Nat}, (wipeE ρ vs)[j]? = if j ∈ vs ∧ j < ρ.length then some none else ρ[j]?
  | [] => by simp [wipeE]
  | v :: vs => by
    unfold wipeE
    have ih := wipeE_get (ρ := ρ) (j := j) (vs := vs)
    have hlen : (wipeE ρ vs).length = ρ.length := by
      clear ih
      induction vs with
      | nil => rfl
      | cons w ws ih => unfold wipeE; rw [List.length_set, ih]
    by_cases hv : v = j
    · subst hv
      by_cases hl : v < ρ.length
      · rw [List.getElem?_set_self (by rw [hlen]; exact hl), if_pos ⟨by simp, hl⟩]
      · rw [List.getElem?_eq_none (by rw [List.length_set, hlen]; omega), if_neg (fun z => hl z.2), List.getElem?_eq_none (by omega)]
    · rw [List.getElem?_set_ne hv, ih]
      have : (j ∈ v :: vs) ↔ j ∈ vs := by simp [Ne.symm hv]
      simp only [this]
theorem wipeE_length (ρ : Env) : ∀ vs : List Nat, (wipeE ρ vs).length = ρ.length
  | [] => rfl
  | v :: vs => by unfold wipeE; rw [List.length_set, wipeE_length ρ vs]
theorem RE.wipe {K : PySem.W.Frag} {H : Hp} {m : List Addr} {ρ : Env} {σ : L2.St} (h : RE K H m ρ σ) (vs : List Nat) : RE K H m (wipeE ρ vs) (L2.wipe σ vs) := by
  refine ⟨by rw [wipeE_length, wipe_length, h.len], fun i d e => ?_⟩
  rw [wipeE_get] at e
  split at e
  · cases e
  · rename_i hn
    obtain ⟨v, h1, h2⟩ := h.get i d e
    refine ⟨v, ?_, h2⟩
    rw [wipe_get, if_neg (by rw [← h.len]; exact hn)]
    exact h1
theorem wipe_but {is vs : List Nat} {σ σ2 : L2.St} (h : But is (L2.wipe σ vs) σ2) (hs : ∀ i ∈ is, i ∈ vs) : L2.wipe σ2 vs = L2.wipe σ vs := by
  apply List.ext_getElem?
  intro j
  rw [wipe_get, wipe_get]
  have hl : σ2.length = σ.length := by rw [h.1, wipe_length]
  rw [hl]
  split
  · rfl
  · rename_i hn
    by_cases hj : j ∈ vs
    · have : ¬ j < σ.length := fun z => hn ⟨hj, z⟩
      rw [List.getElem?_eq_none (by omega), List.getElem?_eq_none (by omega)]
    · rw [h.2 j (fun z => hj (hs j z)), wipe_get, if_neg hn]

section
variable {X : Cx} {elt tg iter : Expr} {ifs : List Expr} {scope : Scope} {own : List (Str × Nat)} {pos : Pos}
/-- the block's context -/
abbrev Blk (X : Cx) (scope : Scope) (s : Shared) (H : Hp) (C : Addr) (cl : List (Str × Addr)) (fp : List Addr) : Cx := X.blk s H scope (compEnvC scope cl C X.env) fp
/-- the tests of a comprehension: none, or one -/
def SCo (X : Cx) (ifs : List Expr) (f : Env → Sto → R (Option D)) : Prop := (ifs = [] ∧ f = fun _ S => some (none, S)) ∨ ∃ c fc, ifs = [c] ∧ ST X c fc ∧ f = fun ρ S => bnd (fc ρ S) fun d S1 => some (some d, S1)
def WTs (X : Cx) (ifs : List Expr) (σ : L2.St) (H : Hp) (Q : Bool → Hp → Prop) : Prop := ∃ t, PTs X ifs t ∧ t σ H Q
theorem pts_W (ifs : List Expr) : PTs X ifs (WTs X ifs) := ⟨fun pins s σ H Q I ⟨t, ht, q⟩ => ht.run pins s σ H Q I q⟩
theorem tLc_core {f : Env → Sto → R Src} {fe : Env → Sto → R D} {fc : Env → Sto → R (Option D)} {t : Tg} (hi : SI X tg iter f) (hsl : ∀ i ∈ t.slots, i ∈ own.map (·.2))
    (hg : ∀ s H C cl fp, SG (Blk X scope s H C cl fp) tg t) (ht : ∀ s H C cl fp, SCo (Blk X scope s H C cl fp) ifs fc) (he : ∀ s H C cl fp, SE (Blk X scope s H C cl fp) elt fe)
    {ρ : Env} {S S' : Sto} {d : D} (e : (bnd (f ρ S) fun s S1 => bnd (compL s S1.length (stepC fe fc t (wipeE ρ (own.map (·.2)))) s.items (S1 ++ [.lst []])) fun _ S9 => some (.ref S1.length, S9)) = some (d, S'))
    {m : List Addr} {σ : L2.St} {H : Hp} (hE : RE X.K H m ρ σ) (hS : RS X.K H m S) {Q : VK} (hQ : ∀ v H', PV X.K m H S' d v H' → Q v H') :
    tLc (WI X tg iter) (fun v σ H Q => ∀ s0 H0 C cl fp, WG (Blk X scope s0 H0 C cl fp) tg v σ H Q) (fun σ H Q => ∀ s0 H0 C cl fp, WTs (Blk X scope s0 H0 C cl fp) ifs σ H Q) (fun σ H Q => ∀ s0 H0 C cl fp, WE (Blk X scope s0 H0 C cl fp) elt σ H Q) (own.map (·.2)) σ H Q := by
  obtain ⟨src, S1, e1, e⟩ := bnd_eq e
  obtain ⟨_, S9, e2, e⟩ := bnd_eq e
  cases e
  refine (hi ρ S src S1 e1 m σ H hE hS).mono fun J H1 ⟨m1, p1, t1, r1, wk⟩ => ?_
  intro Dd hD
  have hlen : m1.length = S1.length := r1.len
  have r1' : RS X.K (upd H1 Dd (.lst [])) (m1 ++ [Dd]) (S1 ++ [.lst []]) := r1.new hD ⟨[], upd_same, .nil⟩
  have hDm : (m1 ++ [Dd])[S1.length]? = some Dd := by rw [← hlen, List.getElem?_append_right (Nat.le_refl _)]; simp
  refine ⟨fun i cnt H2 => ∃ S2 m2, cnt = src.items.length - i ∧ i ≤ src.items.length ∧ (m1 ++ [Dd]) <+: m2 ∧ TK (upd H1 Dd (.lst [])) H2 ∧ RS X.K H2 m2 S2 ∧ compL src S1.length (stepC fe fc t (wipeE ρ (own.map (·.2)))) (src.items.drop i) S2 = some ((), S'),
    ⟨_, _, m1 ++ [Dd], rfl, Nat.zero_le _, List.prefix_refl _, TK.refl _, r1', e2⟩, ?_⟩
  rintro i cnt H2 ⟨S2, m2, rfl, hi', p2, t2, r2, e3⟩
  have tk : TK H1 H2 := (TK.new hD).trans t2
  have pp : m1 <+: m2 := (List.prefix_append _ _).trans p2
  rcases Nat.lt_or_ge i src.items.length with hlt | hge
  · -- a turn
    have hd : src.items[i]? = some src.items[i] := List.getElem?_eq_getElem hlt
    rw [List.drop_eq_getElem_cons hlt] at e3
    unfold compL at e3
    split at e3
    · rename_i ok
      obtain ⟨o, S3, e4, e3⟩ := bnd_eq e3
      obtain ⟨g1, g2⟩ := wk.go i _ hd m2 H2 S2 pp tk r2 ok
      refine .inr ⟨g1, fun H' => ∃ S2 m2, i + 1 ≤ src.items.length ∧ (m1 ++ [Dd]) <+: m2 ∧ TK (upd H1 Dd (.lst [])) H' ∧ RS X.K H' m2 S2 ∧ compL src S1.length (stepC fe fc t (wipeE ρ (own.map (·.2)))) (src.items.drop (i + 1)) S2 = some ((), S'),
        fun H' ⟨S2, m2, a1, a2, a3, a4, a5⟩ => ⟨src.items.length - (i + 1), by omega, S2, m2, rfl, a1, a2, a3, a4, a5⟩, fun x H3 hx => ?_⟩
      obtain ⟨t3, r3, q3⟩ := g2 x H3 hx
      unfold stepC at e4
      cases hst : setT t src.items[i] (wipeE ρ (own.map (·.2))) with
      | none => rw [hst] at e4; cases e4
      | some ρ2 =>
        rw [hst] at e4
        intro s0 H0 C cl fp
        have hE2 : RE X.K H3 m2 (wipeE ρ (own.map (·.2))) (L2.wipe σ (own.map (·.2))) := ((hE.mono (t1.trans (tk.trans t3)) (p1.trans pp))).wipe _
        refine (hg s0 H0 C cl fp _ _ ρ2 hst m2 _ H3 x hE2 q3).mono fun σ2 H4 ⟨eH, hE3, hbut⟩ => ?_
        subst eH
        refine ⟨wipe_but hbut hsl, ?_⟩
        intro s1 H10 C1 cl1 fp1
        -- what follows the test, if the item is kept
        have keep : ∀ (S4 : Sto) (y : D) (m4 : List Addr) (H5 : Hp), m2 <+: m4 → TK H4 H5 → RS X.K H5 m4 S4 → fe ρ2 S4 = some (y, S3) → o = some y → ∀ s2 H20 C2 cl2 fp2, WE (Blk X scope s2 H20 C2 cl2 fp2) elt σ2 H5 (fun v H6 => ∃ acc, H6 Dd = some (.lst acc) ∧ acc.length < sizeLine ∧
            ∃ S2 m2, i + 1 ≤ src.items.length ∧ (m1 ++ [Dd]) <+: m2 ∧ TK (upd H1 Dd (.lst [])) (upd H6 Dd (.lst (acc ++ [v]))) ∧ RS X.K (upd H6 Dd (.lst (acc ++ [v]))) m2 S2 ∧ compL src S1.length (stepC fe fc t (wipeE ρ (own.map (·.2)))) (src.items.drop (i + 1)) S2 = some ((), S')) := by
          intro S4 y m4 H5 p4 t4 r4 ey eo s2 H20 C2 cl2 fp2
          subst eo
          refine (he s2 H20 C2 cl2 fp2 ρ2 S4 y S3 ey m4 σ2 H5 (hE3.mono t4 p4) r4).mono fun v H6 ⟨m5, p5, t5, r5, q5⟩ => ?_
          have p25 : m2 <+: m5 := p4.trans p5
          have hDm5 : m5[S1.length]? = some Dd := pre_get (p2.trans p25) hDm
          simp only at e3
          split at e3
          · rename_i acc hacc
            split at e3
            · rename_i hz
              obtain ⟨vs, h1, h2⟩ := r5.obj _ Dd _ hDm5 hacc
              refine ⟨vs, h1, by rw [← h2.length]; exact lt_size hz, S3.set S1.length (.lst (acc ++ [y])), m5, hlt, p2.trans p25, ?_, r5.write hDm5 h1 (h2.append (.cons q5 .nil)), e3⟩
              exact ((t2.trans t3).trans (t4.trans t5)).trans (TK.lst h1)
            · cases e3
          · cases e3
        obtain ⟨c0, S4, e5, e4⟩ := bnd_eq e4
        rcases ht s1 H10 C1 cl1 fp1 with ⟨rfl, rfl⟩ | ⟨c, fcc, rfl, hst', rfl⟩
        · cases e5
          obtain ⟨y, S5, e6, e4⟩ := bnd_eq e4
          cases e4
          exact ⟨_, pts_nil, keep _ y m2 H4 (List.prefix_refl _) (TK.refl _) r3 e6 rfl⟩
        · obtain ⟨dv, S5, e6, e5⟩ := bnd_eq e5
          cases e5
          cases hk : truthD S4 dv with
          | none => simp only [hk] at e4; cases e4
          | some kk =>
            simp only [hk] at e4
            refine ⟨_, pts_one (pt_W c), (hst' ρ2 S2 dv S4 e6 kk hk m2 σ2 H4 hE3 r3).mono fun b H5 ⟨eb, m4, p4, t4, r4, _⟩ => ?_⟩
            subst eb
            cases b with
            | true =>
              simp only at e4
              obtain ⟨y, S6, e7, e4⟩ := bnd_eq e4
              cases e4
              show ∀ s0 H0 C cl fp, _
              exact keep S4 y m4 H5 p4 t4 r4 e7 rfl
            | false =>
              cases e4
              exact ⟨S3, m4, hlt, p2.trans p4, (t2.trans t3).trans t4, r4, e3⟩
    · cases e3
  · -- the end
    have hz : i = src.items.length := by omega
    subst hz
    rw [List.drop_length] at e3
    unfold compL at e3
    split at e3
    · rename_i ok
      cases e3
      refine .inl ⟨wk.stop m2 H2 _ pp tk r2 ok, hQ _ _ ⟨m2, p1.trans pp, t1.trans tk, r2, .ref (pre_get p2 hDm)⟩⟩
    · cases e3
end
end Ev
end
section
set_option Elab.async false
set_option linter.all false
set_option maxRecDepth 100000
set_option maxHeartbeats 4000000
/-! Statements. -/
namespace Ev
open PySem PySem.Spec PyProof.Rows L2

def PN (K : PySem.W.Frag) (m : List Addr) (H : Hp) (S' : Sto) (ρ' : Env) (σ' : L2.St) (H' : Hp) : Prop := PH K m H S' (fun m' H' => RE K H' m' ρ' σ') H'
/-- what is wanted behind a statement that ends by fl -/
structure Wants (K : PySem.W.Frag) (m : List Addr) (H : Hp) (S' : Sto) (fl : Fl) (Dn : Ends) : Prop where
  nx : ∀ ρ' σ' H', fl = .nx ρ' → PN K m H S' ρ' σ' H' → Dn.nx σ' H'
  rt : ∀ d v H', fl = .ret d → PV K m H S' d v H' → Dn.rt v H'
def SS (X : Cx) (st : Stmt) (f : Env → Sto → R Fl) : Prop := ∀ ρ S fl S', f ρ S = some (fl, S') → ∀ m σ H, RE X.K H m ρ σ → RS X.K H m S → ∀ Dn : Ends, Wants X.K m H S' fl Dn → WS X st Dn σ H
def SSs (X : Cx) (sts : List Stmt) (f : Env → Sto → R Fl) : Prop := ∀ ρ S fl S', f ρ S = some (fl, S') → ∀ m σ H, RE X.K H m ρ σ → RS X.K H m S → ∀ Dn : Ends, Wants X.K m H S' fl Dn → WSs X sts Dn σ H
theorem Wants.up {K : PySem.W.Frag} {m m1 : List Addr} {H H1 : Hp} {S' : Sto} {fl : Fl} {Dn : Ends} (w : Wants K m H S' fl Dn) (p : m <+: m1) (t : TK H H1) : Wants K m1 H1 S' fl Dn :=
  ⟨fun ρ' σ' H' e h => w.nx ρ' σ' H' e (PH.imp h p t fun _ _ _ z => z), fun d v H' e h => w.rt d v H' e (h.up p t)⟩

section
variable {X : Cx} {k : Nat} {tg e a b c : Expr} {pos p : Pos} {fa fb fc fe : Env → Sto → R D} {st : Stmt} {body rest : List Stmt}
theorem sss_nil : SSs X [] (fun ρ S => some (.nx ρ, S)) := by
  intro ρ S fl S' e m σ H he hs Dn w
  cases (show some (Fl.nx ρ, S) = some (fl, S') from e)
  exact WSs.of pss_nil (w.nx ρ σ H rfl ⟨m, List.prefix_refl m, TK.refl H, hs, he⟩)
def fSeq (f g : Env → Sto → R Fl) : Env → Sto → R Fl := fun ρ S => bnd (f ρ S) fun fl S1 => match fl with
  | .nx ρ' => g ρ' S1
  | .ret d => some (.ret d, S1)
theorem sss_cons {f g : Env → Sto → R Fl} (h1 : SS X st f) (h2 : SSs X rest g) : SSs X (st :: rest) (fSeq f g) := by
  intro ρ S fl S' e m σ H he hs Dn w
  obtain ⟨f1, S1, e1, e⟩ := bnd_eq e
  refine WSs.of (pss_cons (ps_W st) (pss_W rest)) (h1 ρ S f1 S1 e1 m σ H he hs _ ⟨fun ρ' σ' H' ef h => ?_, fun d v H' ef h => ?_⟩)
  · subst ef
    obtain ⟨m1, p1, t1, r1, q1⟩ := h
    exact h2 ρ' S1 fl S' e m1 σ' H' q1 r1 Dn (w.up p1 t1)
  · subst ef
    cases e
    exact w.rt d v H' rfl h
theorem ss_pass : SS X (.Pass pos) (fun ρ S => some (.nx ρ, S)) := by
  intro ρ S fl S' e m σ H he hs Dn w
  cases (show some (Fl.nx ρ, S) = some (fl, S') from e)
  exact WS.of ps_pass (w.nx ρ σ H rfl ⟨m, List.prefix_refl m, TK.refl H, hs, he⟩)
theorem ss_doc {x : Str} {j : Nat} {p' : Pos} : SS X (.Expr (.Constant (.str x) j p) p') (fun ρ S => some (.nx ρ, S)) := by
  intro ρ S fl S' e m σ H he hs Dn w
  cases (show some (Fl.nx ρ, S) = some (fl, S') from e)
  exact WS.of ps_doc (w.nx ρ σ H rfl ⟨m, List.prefix_refl m, TK.refl H, hs, he⟩)
theorem ss_expr (hs : swapsWith a none pos.line X.env = pure false) (ha : SE X a fa) : SS X (.Expr a pos) (fun ρ S => bnd (fa ρ S) fun _ S1 => some (.nx ρ, S1)) := by
  intro ρ S fl S' e m σ H he hss Dn w
  obtain ⟨x, S1, e1, e⟩ := bnd_eq e
  cases e
  exact WS.of (ps_expr (pe_W a) hs) ((ha ρ S x _ e1 m σ H he hss).mono fun v H1 ⟨m1, p1, t1, r1, q1⟩ => w.nx ρ σ H1 rfl ⟨m1, p1, t1, r1, he.mono t1 p1⟩)
theorem ss_ret (ha : SE X a fa) : SS X (.Return (some a) pos) (fun ρ S => bnd (fa ρ S) fun d S1 => some (.ret d, S1)) := by
  intro ρ S fl S' e m σ H he hs Dn w
  obtain ⟨x, S1, e1, e⟩ := bnd_eq e
  cases e
  exact WS.of (ps_ret (pe_W a)) ((ha ρ S x _ e1 m σ H he hs).mono fun v H1 h => w.rt x v H1 rfl h)
theorem ss_if {f g : Env → Sto → R Fl} (hc : ST X c fc) (ha : SSs X body f) (hb : SSs X rest g) : SS X (.If c body rest pos) (fun ρ S => bnd (bnd (fc ρ S) fun x S1 => (truthD S1 x).map fun k => (k, S1)) fun t S1 => if t = true then f ρ S1 else g ρ S1) := by
  intro ρ S fl S' e m σ H he hs Dn w
  obtain ⟨t, S1, e1, e⟩ := bnd_eq e
  obtain ⟨x, S2, e2, e1⟩ := bnd_eq e1
  cases hk : truthD S2 x with
  | none => rw [hk] at e1; cases e1
  | some kk =>
    rw [hk] at e1; cases e1
    refine WS.of (ps_if (pt_W c) (pss_W body) (pss_W rest)) ((hc ρ S x _ e2 t hk m σ H he hs).mono fun b1 H1 ⟨eb, m1, p1, t1, r1, _⟩ => ?_)
    subst eb
    cases b1 with
    | true => exact ha ρ _ fl S' e m1 σ H1 (he.mono t1 p1) r1 Dn (w.up p1 t1)
    | false => exact hb ρ _ fl S' e m1 σ H1 (he.mono t1 p1) r1 Dn (w.up p1 t1)
theorem ss_asg {t : Tg} (hs : swapsWithSole [tg] a pos.line X.env = pure false) (hw : swappedStores [tg] a X.env = pure none) (h1 : (assignEach [tg] X.env).map (·.2) = [assign tg X.env]) (ha : SE X a fa) (hg : SG X tg t) :
    SS X (.Assign [tg] a pos) (fun ρ S => bnd (fa ρ S) fun d S1 => (setT t d ρ).map fun ρ' => (.nx ρ', S1)) := by
  intro ρ S fl S' e m σ H he hss Dn w
  obtain ⟨x, S1, e1, e⟩ := bnd_eq e
  cases hst : setT t x ρ with
  | none => rw [hst] at e; cases e
  | some ρ' =>
    rw [hst] at e; cases e
    refine WS.of (ps_asg (pe_W a) (pg_W tg) hs hw h1) ((ha ρ S x _ e1 m σ H he hss).mono fun v H1 ⟨m1, p1, t1, r1, q1⟩ => ?_)
    refine (hg x ρ ρ' hst m1 σ H1 v (he.mono t1 p1) q1).mono fun σ' H' ⟨eH, hE, _⟩ => ?_
    subst eH
    exact w.nx ρ' σ' H' rfl ⟨m1, p1, t1, r1, hE⟩
theorem ss_par {i j : Nat} {x y : Str} {px py pt pt2 : Pos} {kt k2 : Nat} (hc : X.calm = true) (hN : X.N.Nodup) (hi : X.N[i]? = some x) (hj : X.N[j]? = some y) (hij : i ≠ j) (hx : X.env.scope.names.lookup x = some .local) (hy : X.env.scope.names.lookup y = some .local)
    (hw : swappedStores [.Tuple [.Name x px, .Name y py] kt pt] (.Tuple [a, b] k2 pt2) X.env = pure (some [x, y])) (hst : isStar a = false) (hst' : isStar b = false) (ha : SE X a fa) (hb : SE X b fb) :
    SS X (.Assign [.Tuple [.Name x px, .Name y py] kt pt] (.Tuple [a, b] k2 pt2) pos) (fun ρ S => bnd (fa ρ S) fun u S1 => bnd (fb ρ S1) fun v S2 => some (.nx ((ρ.set i (some u)).set j (some v)), S2)) := by
  intro ρ S fl S' e m σ H he hss Dn w
  obtain ⟨u, S1, e1, e⟩ := bnd_eq e
  obtain ⟨v, S2, e2, e⟩ := bnd_eq e
  cases e
  refine WS.of (ps_par hc hN hi hj hij hx hy (pa_cons (pe_W a) (pa_cons (pe_W b) pa_nil (ns_of hst' _ _)) (ns_of hst _ _)) hw rfl) ((ha ρ S u _ e1 m σ H he hss).mono fun vu H1 ⟨m1, p1, t1, r1, q1⟩ => ?_)
  refine (hb ρ S1 v _ e2 m1 σ H1 (he.mono t1 p1) r1).mono fun vv H2 ⟨m2, p2, t2, r2, q2⟩ => ?_
  exact ⟨vu, vv, rfl, w.nx _ _ H2 rfl ⟨m2, p1.trans p2, t1.trans t2, r2, ((he.mono (t1.trans t2) (p1.trans p2)).set i (q1.mono t2 p2)).set j q2⟩⟩
theorem ss_setIx {p' : Pos} (ha' : ∀ v, assign (.Subscript b c p) X.env v = (do
      let ov ← holding [v] (eval b X.env)
      let iv ← holding [v, ov] (eval c X.env)
      standAt p
      holding [v, ov, iv] (setItem ov iv v)
      release [v, ov, iv] [])) (hs : swapsWithSole [.Subscript b c p] a p'.line X.env = pure false) (hw : swappedStores [.Subscript b c p] a X.env = pure none) (ha : SE X a fa) (hb : SE X b fb) (hc : SE X c fc) :
    SS X (.Assign [.Subscript b c p] a p') (fun ρ S => bnd (fa ρ S) fun d S1 => bnd (fb ρ S1) fun x S2 => bnd (fc ρ S2) fun y S3 => setIxD S3 ρ x y d) := by
  intro ρ S fl S' e m σ H he hss Dn w
  obtain ⟨d, S1, e1, e⟩ := bnd_eq e
  obtain ⟨x, S2, e2, e⟩ := bnd_eq e
  obtain ⟨y, S3, e3, e⟩ := bnd_eq e
  refine WS.of (ps_asg (pe_W a) (pg_sub (pe_W b) (pe_W c) set_list ha') hs hw rfl) ((ha ρ S d _ e1 m σ H he hss).mono fun vd H1 ⟨m1, p1, t1, r1, q1⟩ => ?_)
  refine (hb ρ S1 x _ e2 m1 σ H1 (he.mono t1 p1) r1).mono fun vx H2 ⟨m2, p2, t2, r2, q2⟩ => ?_
  refine (hc ρ S2 y _ e3 m2 σ H2 (he.mono (t1.trans t2) (p1.trans p2)) r2).mono fun vy H3 ⟨m3, p3, t3, r3, q3⟩ => ?_
  have q1 := q1.mono (t2.trans t3) (p2.trans p3)
  have q2 := q2.mono t3 p3
  unfold setIxD at e
  cases q2 with
  | @ref n ad ea =>
    cases q3 with
    | int kk =>
      simp only at e
      cases hS : S3[n]? with
      | none => simp only [hS] at e; cases e
      | some o =>
        cases o with
        | fz xs => simp only [hS] at e; cases e
        | lst xs =>
          simp only [hS] at e
          cases hj : ixN xs.length kk with
          | none => simp only [hj] at e; cases e
          | some j =>
            simp only [hj] at e
            cases e
            obtain ⟨vs, h1, h2⟩ := r3.obj n ad _ ea hS
            refine ⟨ad, vs, kk, j, rfl, rfl, h1, by rw [← h2.length]; exact hj, w.nx ρ σ _ rfl ?_⟩
            have tt := (t1.trans t2).trans t3
            have pp := (p1.trans p2).trans p3
            exact ⟨m3, pp, tt.trans (TK.lst h1), r3.write ea h1 (h2.set q1 j), he.mono (tt.trans (TK.lst h1)) pp⟩
    | _ => cases e
  | _ => cases e
theorem ss_for {fi : Env → Sto → R Src} {f : Env → Sto → R Fl} {t : Tg} (hp : X.xe = fun _ _ => False) (hc : X.calm = true) (hi : SI X tg a fi) (hg : SG X tg t) (hb : SSs X body f) (hf : ∀ x, foldedSetIterable a X.env x = pure x) :
    SS X (.For tg a body [] pos) (fun ρ S => bnd (fi ρ S) fun s S1 => forL s (stepF t f) s.items ρ S1) := by
  intro ρ S fl S' e m σ H he hs Dn w
  obtain ⟨src, S1, e1, e⟩ := bnd_eq e
  refine WS.of (ps_for (by rw [hp]; exact PassesOwn.never) hc (pi_W tg a) (pg_W tg) (pss_W body) hf) ((hi ρ S src S1 e1 m σ H he hs).mono fun J H1 ⟨m1, p1, t1, r1, wk⟩ => ?_)
  refine ⟨fun i cnt σ2 H2 => ∃ ρ2 S2 m2, cnt = src.items.length - i ∧ i ≤ src.items.length ∧ m1 <+: m2 ∧ TK H1 H2 ∧ RE X.K H2 m2 ρ2 σ2 ∧ RS X.K H2 m2 S2 ∧ forL src (stepF t f) (src.items.drop i) ρ2 S2 = some (fl, S'),
    ⟨_, ρ, S1, m1, rfl, Nat.zero_le _, List.prefix_refl _, TK.refl _, he.mono t1 p1, r1, e⟩, ?_⟩
  rintro i cnt σ2 H2 ⟨ρ2, S2, m2, rfl, hi', p2, t2, hE, r2, e3⟩
  rcases Nat.lt_or_ge i src.items.length with hlt | hge
  · have hd : src.items[i]? = some src.items[i] := List.getElem?_eq_getElem hlt
    rw [List.drop_eq_getElem_cons hlt] at e3
    unfold forL at e3
    split at e3
    · rename_i ok
      obtain ⟨f1, S3, e4, e3⟩ := bnd_eq e3
      obtain ⟨g1, g2⟩ := wk.go i _ hd m2 H2 S2 p2 t2 r2 ok
      refine .inr ⟨g1, fun σ' H' => ∃ ρ2 S2 m2, i + 1 ≤ src.items.length ∧ m1 <+: m2 ∧ TK H1 H' ∧ RE X.K H' m2 ρ2 σ' ∧ RS X.K H' m2 S2 ∧ forL src (stepF t f) (src.items.drop (i + 1)) ρ2 S2 = some (fl, S'),
        fun σ' H' ⟨ρ2, S2, m2, a1, a2, a3, a4, a5, a6⟩ => ⟨src.items.length - (i + 1), by omega, ρ2, S2, m2, rfl, a1, a2, a3, a4, a5, a6⟩, fun x H3 hx => ?_⟩
      obtain ⟨t3, r3, q3⟩ := g2 x H3 hx
      unfold stepF at e4
      cases hst : setT t src.items[i] ρ2 with
      | none => rw [hst] at e4; cases e4
      | some ρ3 =>
        rw [hst] at e4
        refine (hg _ ρ2 ρ3 hst m2 σ2 H3 x (hE.mono t3 (List.prefix_refl _)) q3).mono fun σ3 H4 ⟨eH, hE3, _⟩ => ?_
        subst eH
        refine hb ρ3 S2 f1 S3 e4 m2 σ3 H4 hE3 r3 _ ⟨fun ρ' σ' H' ef h => ?_, fun d v H' ef h => ?_⟩
        · subst ef
          obtain ⟨m5, p5, t5, r5, q5⟩ := h
          exact ⟨ρ', S3, m5, hlt, p2.trans p5, (t2.trans t3).trans t5, q5, r5, e3⟩
        · subst ef
          cases e3
          exact w.rt d v H' rfl ((h.up (p2) (t2.trans t3)).up p1 t1)
    · cases e3
  · have hz : i = src.items.length := by omega
    subst hz
    rw [List.drop_length] at e3
    unfold forL at e3
    split at e3
    · rename_i ok
      cases e3
      exact .inl ⟨wk.stop m2 H2 _ p2 t2 r2 ok, w.nx ρ2 σ2 H2 rfl ⟨m2, p1.trans p2, t1.trans t2, r2, hE⟩⟩
    · cases e3
theorem ss_while {f : Env → Sto → R Fl} (wf : Nat) (hp : X.xe = fun _ _ => False) (hc : ST X c fc) (hb : SSs X body f) :
    SS X (.While c body [] pos) (fun ρ S => whileL (fun ρ S => bnd (fc ρ S) fun x S1 => (truthD S1 x).map fun k => (k, S1)) f wf ρ S) := by
  intro ρ S fl S' e m σ H he hs Dn w
  refine WS.of (ps_while (by rw [hp]; exact PassesOwn.never) (pt_W c) (pss_W body)) ?_
  refine ⟨fun cnt σ2 H2 => ∃ ρ2 S2 m2, m <+: m2 ∧ TK H H2 ∧ RE X.K H2 m2 ρ2 σ2 ∧ RS X.K H2 m2 S2 ∧ whileL (fun ρ S => bnd (fc ρ S) fun x S1 => (truthD S1 x).map fun k => (k, S1)) f cnt ρ2 S2 = some (fl, S'), ⟨wf, ρ, S, m, List.prefix_refl _, TK.refl _, he, hs, e⟩, ?_⟩
  rintro cnt σ2 H2 ⟨ρ2, S2, m2, p2, t2, hE, r2, e2⟩
  cases cnt with
  | zero => cases e2
  | succ cnt =>
    unfold whileL at e2
    obtain ⟨t, S3, e3, e2⟩ := bnd_eq e2
    obtain ⟨x, S4, e4, e3⟩ := bnd_eq e3
    cases hk : truthD S4 x with
    | none => rw [hk] at e3; cases e3
    | some kk =>
      rw [hk] at e3; cases e3
      refine (hc ρ2 S2 x _ e4 t hk m2 σ2 H2 hE r2).mono fun b1 H3 ⟨eb, m3, p3, t3, r3, _⟩ => ?_
      subst eb
      cases b1 with
      | true =>
        simp only [if_true] at e2
        obtain ⟨f1, S5, e5, e2⟩ := bnd_eq e2
        refine ⟨fun σ' H' => ∃ ρ2 S2 m2, m <+: m2 ∧ TK H H' ∧ RE X.K H' m2 ρ2 σ' ∧ RS X.K H' m2 S2 ∧ whileL (fun ρ S => bnd (fc ρ S) fun x S1 => (truthD S1 x).map fun k => (k, S1)) f cnt ρ2 S2 = some (fl, S'), fun σ' H' h => ⟨cnt, Nat.lt_succ_self _, h⟩, ?_⟩
        refine hb ρ2 _ f1 S5 e5 m3 σ2 H3 (hE.mono t3 p3) r3 _ ⟨fun ρ' σ' H' ef h => ?_, fun d v H' ef h => ?_⟩
        · subst ef
          obtain ⟨m5, p5, t5, r5, q5⟩ := h
          exact ⟨ρ', S5, m5, (p2.trans p3).trans p5, (t2.trans t3).trans t5, q5, r5, e2⟩
        · subst ef
          cases e2
          exact w.rt d v H' rfl (h.up (p2.trans p3) (t2.trans t3))
      | false =>
        simp only [Bool.false_eq_true, if_false] at e2
        cases e2
        exact w.nx ρ2 σ2 H3 rfl ⟨m3, p2.trans p3, t2.trans t3, r3, hE.mono t3 p3⟩
end
end Ev
end
section
set_option Elab.async false
set_option linter.all false
set_option maxRecDepth 100000
set_option maxHeartbeats 4000000
/-! From the text to the small language. -/
namespace Ev
open PySem PySem.Spec PyProof.Rows L2

structure Tab where
  fns : List Str
  blts : List Str
  consts : List (Str × D)
def slotOf : List Str → Str → Option Nat
  | [], _ => none
  | y :: r, x => if x = y then some 0 else (slotOf r x).map (· + 1)
theorem slotOf_get : ∀ {N : List Str} {x : Str} {i : Nat}, slotOf N x = some i → N[i]? = some x
  | [], _, _, h => by cases h
  | y :: r, x, i, h => by
    unfold slotOf at h
    split at h
    · rename_i e; cases h; simp [e]
    · cases hs : slotOf r x with
      | none => rw [hs] at h; cases h
      | some j => rw [hs] at h; cases h; simpa using slotOf_get hs
def okName (x : Str) : Bool := !(x == ("__debug__" : Str)) && !(x == ("__classdict__" : Str)) && !(x == ("__name__" : Str))
def erName (T : Tab) (N : List Str) (sc : Scope) (x : Str) : E := if okName x = true then match sc.names.lookup x with
  | some .globalImplicit => (match T.consts.lookup x with
    | some d => .lit d
    | none => .bad)
  | some .globalExplicit => .bad
  | some _ => (match slotOf N x with
    | some i => .var i
    | none => .bad)
  | none => .bad else .bad
def erConst : Const → E
  | .int i => .lit (.int i)
  | .bool b => .lit (.bl b)
  | .none => .lit .non
  | .str s => .lit (.str s)
  | _ => .bad
def mkEs : List E → Es
  | [] => .nil
  | e :: r => .cons e (mkEs r)
def mkB (op : BoolOp) (f : Expr → E) : List Expr → E
  | [] => .bad
  | [a] => f a
  | a :: b :: r => match op with
    | .And => .and (f a) (mkB op f (b :: r))
    | .Or => .or (f a) (mkB op f (b :: r))
def erCmp (f : Expr → E) (a : Expr) : List CmpOp → List Expr → E
  | [op], [b] => if behindInMarks op b = false then .cmp op (f a) (f b) else .bad
  | [op, op'], [b, c] => if lastMarks [op, op'] [b, c] = false then .chain op op' (f a) (f b) (f c) else .bad
  | _, _ => .bad
def glob (T : Tab) (sc : Scope) (x : Str) : Bool := okName x && decide (sc.names.lookup x = some .globalImplicit) && T.blts.contains x
def tyOf (x : Str) : Option Ty := if x = "int" then some .int else if x = "bool" then some .bool else if x = "str" then some .str else if x = "tuple" then some .tuple else if x = "list" then some .list else if x = "dict" then some .dict else none
def b1Of (x : Str) : Option B1 := if x = "len" then some .len else if x = "tuple" then some .tuple else if x = "list" then some .list else if x = "sorted" then some .sorted else if x = "all" then some .all else if x = "int" then some .int else if x = "repr" then some .repr else none
def b2Of (x : Str) : Option B2 := if x = "max" then some .max else if x = "min" then some .min else none
def m2Of (x : Str) : Option M2 := if x = "append" then some .append else if x = "extend" then some .extend else if x = "pop" then some .pop else none
def erBlt (T : Tab) (sc : Scope) (f : Expr → E) (x : Str) : List Expr → E
  | [a] => (match b1Of x with
    | some b => .b1 b (f a)
    | none => .bad)
  | [a, b] => if x = "isinstance" then (match b with
      | .Name y _ => if glob T sc y = true then (match tyOf y with
        | some t => .isi (f a) t
        | none => .bad) else .bad
      | _ => .bad) else (match b2Of x with
    | some o => .b2 o (f a) (f b)
    | none => .bad)
  | _ => .bad
def erCall (T : Tab) (sc : Scope) (f : Expr → E) (fn : Expr) (es : List Expr) (kws : List Keyword) (pos : Pos) : E := match kws with
  | [] => if es.any isStar = false then (match fn with
    | .Name x _ => (match slotOf T.fns x with
      | some i => if okName x = true ∧ sc.names.lookup x = some .globalImplicit ∧ es ≠ [] then .call i (mkEs (es.map f)) else .bad
      | none => if glob T sc x = true then erBlt T sc f x es else .bad)
    | .Attribute (.Name x px) nm apos => (match es with
      | [b] => if (apos.endLine == pos.line) = true then (match m2Of nm with
        | some o => .meth o (f (.Name x px)) (f b)
        | none => .bad) else .bad
      | _ => .bad)
    | _ => .bad) else .bad
  | _ :: _ => .bad
def erO (f : Expr → E) : Option Expr → Eo
  | none => .none
  | some e => .some (f e)
def plainIx : Expr → Bool
  | .Slice _ _ _ _ => false
  | _ => true
def erSub (f : Expr → E) (a : Expr) : Expr → E
  | .Slice lo hi none _ => .sl (f a) (erO f lo) (erO f hi)
  | .Slice _ _ (some _) _ => .bad
  | b => .ix (f a) (f b)
def erI (T : Tab) (sc : Scope) (f : Expr → E) (tup : Bool) (it : Expr) : I := match it with
  | .Call (.Name x p) es kws pos => if x = "range" then (if glob T sc x = true ∧ es.any isStar = false ∧ kws.isEmpty = true then (match es with
      | [a] => .r1 (f a)
      | [a, b] => .r2 (f a) (f b)
      | _ => .bad) else .bad)
    else if x = "zip" then (if glob T sc x = true ∧ es.any isStar = false ∧ kws.isEmpty = true ∧ tup = true then (match es with
      | [a, b] => .zip (f a) (f b)
      | _ => .bad) else .bad)
    else .seq (f (.Call (.Name x p) es kws pos))
  | .Set _ _ _ => .bad
  | e => .seq (f e)
def relab (scope sc : Scope) : Scope := { scope with names := scope.names.map fun (n, k) => if (k == .free && sc.kind == .function && sc.names.lookup n == some .cell) then (n, .cell) else (n, k) }
def tgNames : Expr → Option (List Str)
  | .Name x _ => some [x]
  | .Tuple es _ _ => optAll (es.map fun e => match e with
    | .Name x _ => some x
    | _ => none)
  | _ => none
def isTup : Expr → Bool
  | .Tuple _ _ _ => true
  | _ => false
def mkTg (tg : Expr) (is : List Nat) : Tg := match tg, is with
  | .Name _ _, [i] => .one i
  | _, is => .many is
/-- the slots of a target's names, all told local (or cells) by the scope -/
def tgSlots (N : List Str) (sc : Scope) (tg : Expr) : Option (List (Str × Nat)) := match tgNames tg with
  | none => none
  | some xs => if xs.all (fun x => decide (sc.names.lookup x = some .local ∨ sc.names.lookup x = some .cell)) = true then optAll (xs.map fun x => (slotOf N x).map fun i => (x, i)) else none
structure Good (T : Tab) (P : List Fn) (wf k : Nat) (N : List Str) (sc : Scope) (X : Cx) : Prop where
  sc : X.env.scope = sc
  hN : X.N = N
  nd : N.Nodup
  calm : X.calm = true
  xe : X.xe = fun _ _ => False
  room : Room k X.A
  gd : X.A.guards = some []
  blt : ∀ x, T.blts.contains x = true → X.mg x = none
  con : ∀ x d, T.consts.lookup x = some d → ∃ u v, X.mg x = some u ∧ RelV v u ∧ ∀ H m, RV X.K H m d v
  fn : ∀ i x, T.fns[i]? = some x → ∃ f fd ps np, X.mg x = some (.ref f) ∧ PySem.W.keepIn X.K (.ref f) = true ∧ Binds X.K fd ps [] ∧ FnG X.prog X.w X.K X.mg X.base k f fd ps (SpG X.K np (callF P wf k i)) ∧ ∀ ds S r, callF P wf k i ds S = some r → ds.length = np

section
variable {T : Tab} {P : List Fn} {wf k : Nat} {N : List Str} {sc : Scope} {X : Cx}
def SET (X : Cx) (e : Expr) (f : Env → Sto → R D) : Prop := SE X e f ∧ ST X e f
theorem set_bad {e : Expr} {cl : Nat → List D → Sto → R D} : SET X e (evE cl .bad) := ⟨fun _ _ _ _ h => (by simp only [evE] at h; cases h), fun _ _ _ _ h => (by simp only [evE] at h; cases h)⟩
theorem ok3 {x : Str} (h : okName x = true) : (x == ("__debug__" : Str)) = false ∧ (x == ("__classdict__" : Str)) = false ∧ x ≠ "__name__" := by
  unfold okName at h
  simp only [Bool.and_eq_true, Bool.not_eq_true', beq_eq_false_iff_ne] at h
  exact ⟨beq_eq_false_iff_ne.mpr h.1.1, beq_eq_false_iff_ne.mpr h.1.2, h.2⟩
theorem good_name (g : Good T P wf k N sc X) {x : Str} {p : Pos} : SET X (.Name x p) (evE (callF P wf k) (erName T N sc x)) := by
  unfold erName
  split
  · rename_i hok
    obtain ⟨h1, h2, h3⟩ := ok3 hok
    split
    · rename_i hl
      split
      · rename_i d hd
        obtain ⟨u, v, e1, e2, e3⟩ := g.con x d hd
        have : SE X (.Name x p) (fun _ S => some (d, S)) := se_c (pe_glob (by show X.env.scope.names.lookup x = _; rw [g.sc]; exact hl) e1 e2 h1) e3
        have e : evE (callF P wf k) (.lit d) = fun _ S => some (d, S) := by funext ρ S; simp only [evE]
        rw [e]
        exact ⟨this, ST.plain this fun _ => rfl⟩
      · exact set_bad
    · exact set_bad
    · rename_i kd hl1 hl2 hl
      split
      · rename_i i hi
        have hv : Vis X.env.scope x := by
          show X.env.scope.names.lookup x = _ ∨ _
          rw [g.sc]
          cases kd with
          | «local» => exact .inl hl
          | cell => exact .inr (.inl hl)
          | free => exact .inr (.inr hl)
          | globalExplicit => exact absurd hl (by simpa using hl2)
          | globalImplicit => exact absurd hl (by simpa using hl1)
        have : SE X (.Name x p) (evE (callF P wf k) (.var i)) := by
          have z := se_var (X := X) (pos := p) (i := i) (by rw [g.hN]; exact slotOf_get hi) hv h1 h2
          have e : evE (callF P wf k) (.var i) = (fun ρ S => match ρ[i]? with
            | some (some d) => some (d, S)
            | _ => none) := by funext ρ S; simp only [evE] <;> rfl
          rw [e]
          exact z
        exact ⟨this, ST.plain this fun _ => rfl⟩
      · exact set_bad
    · exact set_bad
  · exact set_bad
end
end Ev
end
section
set_option Elab.async false
set_option linter.all false
set_option maxRecDepth 100000
set_option maxHeartbeats 4000000
/-! The text's expressions do as the small language says. -/
namespace Ev
open PySem PySem.Spec PyProof.Rows L2

section
variable {T : Tab} {P : List Fn} {wf k : Nat} {N : List Str} {sc : Scope} {X : Cx} {cl : Nat → List D → Sto → R D}
theorem SET.of {e : Expr} {f : Env → Sto → R D} (h : SE X e f) (hp : Plain X e := by intro _; rfl) : SET X e f := ⟨h, ST.plain h hp⟩
theorem SET.eq {e : Expr} {f g : Env → Sto → R D} (h : SET X e f) (q : ∀ ρ S, g ρ S = f ρ S) : SET X e g := by
  have : g = f := by funext ρ S; exact q ρ S
  rw [this]; exact h
theorem good_const {c : Const} {j : Nat} {p : Pos} : SET X (.Constant c j p) (evE cl (erConst c)) := by
  cases c with
  | int i => exact (SET.of (se_c pe_int fun _ _ => .int i)).eq fun ρ S => by simp only [erConst, evE]
  | bool b => exact (SET.of (se_c pe_bl fun _ _ => .bl b)).eq fun ρ S => by simp only [erConst, evE]
  | none => exact (SET.of (se_c pe_non fun _ _ => .non)).eq fun ρ S => by simp only [erConst, evE]
  | str s => exact (SET.of (se_c pe_str fun _ _ => .str s)).eq fun ρ S => by simp only [erConst, evE]
  | float _ => exact set_bad
  | complex _ _ => exact set_bad
  | bytes _ => exact set_bad
  | ellipsis => exact set_bad
theorem good_es {f : Expr → E} (ih : ∀ e, SET X e (evE cl (f e))) : ∀ {es : List Expr}, es.any isStar = false → SA X es (evEs cl (mkEs (es.map f)))
  | [], _ => by
    have z := sa_nil (X := X)
    have e : evEs cl (mkEs ([].map f)) = fun _ S => some ([], S) := by funext ρ S; simp only [List.map_nil, mkEs, evEs]
    rw [e]; exact z
  | a :: es, h => by
    rw [List.any_cons, Bool.or_eq_false_iff] at h
    have z := sa_cons h.1 (ih a).1 (good_es ih h.2)
    have e : evEs cl (mkEs ((a :: es).map f)) = fun ρ S => bnd (evE cl (f a) ρ S) fun d S1 => bnd (evEs cl (mkEs (es.map f)) ρ S1) fun ds S2 => some (d :: ds, S2) := by funext ρ S; simp only [List.map_cons, mkEs, evEs]
    rw [e]; exact z
theorem good_cmp (hr : Room k X.A) {f : Expr → E} (ih : ∀ e, SET X e (evE cl (f e))) {a : Expr} {ops : List CmpOp} {bs : List Expr} {p : Pos} : SET X (.Compare a ops bs p) (evE cl (erCmp f a ops bs)) := by
  unfold erCmp
  split
  · split
    · rename_i hm
      exact SET.eq ⟨se_cmp hr hm (ih _).1 (ih _).1, st_cmp hr hm (ih _).1 (ih _).1⟩ fun ρ S => by simp only [evE]
    · exact set_bad
  · split
    · rename_i hm
      exact SET.eq ⟨se_chain hr hm (ih _).1 (ih _).1 (ih _).1, st_chain hr hm (ih _).1 (ih _).1 (ih _).1⟩ fun ρ S => by simp only [evE] <;> rfl
    · exact set_bad
  · exact set_bad
theorem good_bool {f : Expr → E} (ih : ∀ e, SET X e (evE cl (f e))) {op : BoolOp} {p : Pos} : ∀ {es : List Expr}, SE X (.BoolOp op es p) (evE cl (mkB op f es)) ∧ SW X (.BoolOp op es p) (evE cl (mkB op f es))
  | [] => ⟨fun _ _ _ _ h => (by simp only [mkB, evE] at h; cases h), fun _ _ _ _ _ h => (by simp only [mkB, evE] at h; cases h)⟩
  | [a] => ⟨se_one (ih a).1, sw_one (ih a).2⟩
  | a :: b :: r => by
    obtain ⟨h1, h2⟩ := good_bool (es := b :: r) ih (op := op) (p := p)
    cases op with
    | And =>
      have e : evE cl (mkB .And f (a :: b :: r)) = fAnd (evE cl (f a)) (evE cl (mkB .And f (b :: r))) := by funext ρ S; simp only [mkB, evE, fAnd] <;> rfl
      rw [e]
      exact ⟨se_and (ih a).1 h1, sw_and (ih a).2 h2⟩
    | Or =>
      have e : evE cl (mkB .Or f (a :: b :: r)) = fOr (evE cl (f a)) (evE cl (mkB .Or f (b :: r))) := by funext ρ S; simp only [mkB, evE, fOr] <;> rfl
      rw [e]
      exact ⟨se_or (ih a).1 h1, sw_or (ih a).2 h2⟩
theorem st_ite {a b c : Expr} {pos : Pos} {fa fb fc : Env → Sto → R D} (hc : ST X c fc) (ha : ST X a fa) (hb : ST X b fb) : ST X (.IfExp c a b pos) (fun ρ S => bnd (fc ρ S) fun x S1 => match truthD S1 x with
    | some true => fa ρ S1
    | some false => fb ρ S1
    | none => none) := by
  intro ρ S d S' e z hz m σ H he hs pins s I
  obtain ⟨x, S1, e1, e⟩ := bnd_eq e
  cases hk1 : truthD S1 x with
  | none => simp only [hk1] at e; cases e
  | some k1 =>
    simp only [hk1] at e
    refine PyProof.Rows.isTrue_IfExp (thn (hc ρ S x S1 e1 k1 hk1 m σ H he hs pins s I) fun b1 s1 ⟨H1, I1, eb, m1, p1, t1, r1, _⟩ => ?_)
    subst eb
    cases b1 with
    | true => exact thn (ha ρ S1 d S' e z hz m1 σ H1 (he.mono t1 p1) r1 pins s1 I1) fun b2 s2 ⟨H2, I2, q1, q2⟩ => ⟨H2, I2, q1, q2.up p1 t1⟩
    | false => exact thn (hb ρ S1 d S' e z hz m1 σ H1 (he.mono t1 p1) r1 pins s1 I1) fun b2 s2 ⟨H2, I2, q1, q2⟩ => ⟨H2, I2, q1, q2.up p1 t1⟩
theorem glob_ok (g : Good T P wf k N sc X) {x : Str} (h : glob T sc x = true) : Gl X x ∧ X.mg x = none ∧ x ≠ "__name__" ∧ (x == ("__debug__" : Str)) = false := by
  unfold glob at h
  simp only [Bool.and_eq_true, decide_eq_true_eq] at h
  obtain ⟨h1, h2, h3⟩ := ok3 h.1.1
  exact ⟨by show X.env.scope.names.lookup x = _; rw [g.sc]; exact h.1.2, g.blt x h.2, h3, h1⟩
theorem tyOf_ok {x : Str} {t : Ty} (h : tyOf x = some t) : bootBuiltins x = some (.type t.nm) := by
  unfold tyOf at h
  split at h
  · rename_i e; cases h; subst e; decide +kernel
  split at h
  · rename_i e; cases h; subst e; decide +kernel
  split at h
  · rename_i e; cases h; subst e; decide +kernel
  split at h
  · rename_i e; cases h; subst e; decide +kernel
  split at h
  · rename_i e; cases h; subst e; decide +kernel
  split at h
  · rename_i e; cases h; subst e; decide +kernel
  · cases h
theorem good_b1 (g : Good T P wf k N sc X) {x : Str} {a : Expr} {fa : Env → Sto → R D} {p pos : Pos} {b : B1} (hg : glob T sc x = true) (hb : b1Of x = some b) (hst : isStar a = false) (ha : SE X a fa) : SE X (.Call (.Name x p) [a] [] pos) (fun ρ S => bnd (fa ρ S) fun y S1 => b1D S1 b y) := by
  obtain ⟨h1, h2, h3, h4⟩ := glob_ok g hg
  unfold b1Of at hb
  split at hb
  · rename_i e; cases hb; subst e; exact se_b1 sb_len h1 h2 (by decide +kernel) h3 h4 hst ha
  split at hb
  · rename_i e; cases hb; subst e; exact se_t1 sb_tuple h1 h2 (by decide +kernel) h3 h4 hst ha
  split at hb
  · rename_i e; cases hb; subst e; exact se_t1 sb_list h1 h2 (by decide +kernel) h3 h4 hst ha
  split at hb
  · rename_i e; cases hb; subst e; exact se_b1 (sb_sorted g.room) h1 h2 (by decide +kernel) h3 h4 hst ha
  split at hb
  · rename_i e; cases hb; subst e; exact se_b1 (sb_all g.calm) h1 h2 (by decide +kernel) h3 h4 hst ha
  split at hb
  · rename_i e; cases hb; subst e; exact se_t1 sb_int h1 h2 (by decide +kernel) h3 h4 hst ha
  split at hb
  · rename_i e; cases hb; subst e; exact se_b1 (sb_repr g.room g.gd) h1 h2 (by decide +kernel) h3 h4 hst ha
  · cases hb
theorem good_b2 (g : Good T P wf k N sc X) {x : Str} {a c : Expr} {fa fc : Env → Sto → R D} {p pos : Pos} {b : B2} (hg : glob T sc x = true) (hb : b2Of x = some b) (hst : isStar a = false) (hst' : isStar c = false) (ha : SE X a fa) (hc : SE X c fc) : SE X (.Call (.Name x p) [a, c] [] pos) (fun ρ S => bnd (fa ρ S) fun y S1 => bnd (fc ρ S1) fun z S2 => b2D S2 b y z) := by
  obtain ⟨h1, h2, h3, h4⟩ := glob_ok g hg
  unfold b2Of at hb
  split at hb
  · rename_i e; cases hb; subst e; exact se_b2 (sb_max g.calm) h1 h2 (by decide +kernel) h3 h4 hst hst' ha hc
  split at hb
  · rename_i e; cases hb; subst e; exact se_b2 (sb_min g.calm) h1 h2 (by decide +kernel) h3 h4 hst hst' ha hc
  · cases hb
theorem good_meth {x nm : Str} {px apos pos : Pos} {b : Expr} {fa fb : Env → Sto → R D} {o : M2} (hl : (apos.endLine == pos.line) = true) (ho : m2Of nm = some o) (hst : isStar b = false) (ha : SE X (.Name x px) fa) (hb : SE X b fb) :
    SE X (.Call (.Attribute (.Name x px) nm apos) [b] [] pos) (fun ρ S => bnd (fa ρ S) fun y S1 => if isL S1 y = true then bnd (fb ρ S1) fun z S2 => m2D S2 o y z else none) := by
  unfold m2Of at ho
  split at ho
  · rename_i e; cases ho; subst e; exact se_meth PySem.F.slot_list_append PySem.F.type_list_append mt_append hl hst ha hb mr_append
  split at ho
  · rename_i e; cases ho; subst e; exact se_meth PySem.F.slot_list_extend PySem.F.type_list_extend mt_extend hl hst ha hb mr_extend
  split at ho
  · rename_i e; cases ho; subst e; exact se_meth PySem.F.slot_list_pop PySem.F.type_list_pop mt_popAt hl hst ha hb mr_pop
  · cases ho
theorem good_blt (g : Good T P wf k N sc X) {f : Expr → E} (ih : ∀ e, SET X e (evE cl (f e))) {x : Str} {es : List Expr} {p pos : Pos} (hg : glob T sc x = true) (hst : es.any isStar = false) : SE X (.Call (.Name x p) es [] pos) (evE cl (erBlt T sc f x es)) := by
  have bad : ∀ {e : Expr}, SE X e (evE cl .bad) := fun {e} => set_bad.1
  unfold erBlt
  split
  · rename_i a
    have ha : isStar a = false := by simpa using hst
    split
    · rename_i b hb
      have z := good_b1 g (p := p) (pos := pos) hg hb ha (ih a).1
      have e : evE cl (.b1 b (f a)) = fun ρ S => bnd (evE cl (f a) ρ S) fun y S1 => b1D S1 b y := by funext ρ S; simp only [evE]
      rw [e]; exact z
    · exact bad
  · rename_i a b
    have hh : isStar a = false ∧ isStar b = false := by simpa using hst
    split
    · rename_i hx
      split
      · rename_i y py
        split
        · rename_i hgy
          split
          · rename_i t ht
            obtain ⟨h1, h2, h3, h4⟩ := glob_ok g hg
            obtain ⟨g1, g2, g3, g4⟩ := glob_ok g hgy
            have z := se_isi (p := p) (pos := pos) (p' := py) h1 h2 hx g1 g2 (tyOf_ok ht) g3 g4 hh.1 (ih a).1
            have e : evE cl (.isi (f a) t) = fun ρ S => bnd (evE cl (f a) ρ S) fun y S1 => (isiD S1 y t).map fun k => (.bl k, S1) := by funext ρ S; simp only [evE]
            rw [e]; exact z
          · exact bad
        · exact bad
      · exact bad
    · split
      · rename_i o ho
        have z := good_b2 g (p := p) (pos := pos) hg ho hh.1 hh.2 (ih a).1 (ih b).1
        have e : evE cl (.b2 o (f a) (f b)) = fun ρ S => bnd (evE cl (f a) ρ S) fun y S1 => bnd (evE cl (f b) ρ S1) fun z S2 => b2D S2 o y z := by funext ρ S; simp only [evE]
        rw [e]; exact z
      · exact bad
  · exact bad
theorem good_call (g : Good T P wf k N sc X) {f : Expr → E} (ih : ∀ e, SET X e (evE (callF P wf k) (f e))) {fn : Expr} {es : List Expr} {kws : List Keyword} {pos : Pos} : SE X (.Call fn es kws pos) (evE (callF P wf k) (erCall T sc f fn es kws pos)) := by
  have bad : ∀ {e : Expr}, SE X e (evE (callF P wf k) .bad) := fun {e} => set_bad.1
  unfold erCall
  split
  · split
    · rename_i hst
      split
      · rename_i x p
        split
        · rename_i i hi
          split
          · rename_i hc
            obtain ⟨ho, hl, hne⟩ := hc
            obtain ⟨h1, h2, h3⟩ := ok3 ho
            obtain ⟨fa, fd, ps, np, q1, q2, q3, q4, q5⟩ := g.fn i x (slotOf_get hi)
            have z := se_call (p := p) (pos := pos) q4 g.room g.gd (by show X.env.scope.names.lookup x = _; rw [g.sc]; exact hl) q1 q2 q3 q5 h1 hst hne (good_es ih hst)
            have e : evE (callF P wf k) (.call i (mkEs (es.map f))) = fun ρ S => bnd (evEs (callF P wf k) (mkEs (es.map f)) ρ S) fun ds S1 => callF P wf k i ds S1 := by funext ρ S; simp only [evE]
            rw [e]; exact z
          · exact bad
        · split
          · rename_i hg
            exact good_blt g ih hg hst
          · exact bad
      · rename_i x px nm apos
        split
        · rename_i b
          split
          · rename_i hl
            split
            · rename_i o ho
              have z := good_meth hl ho (by simpa using hst) (ih (.Name x px)).1 (ih b).1
              have e : evE (callF P wf k) (.meth o (f (.Name x px)) (f b)) = fun ρ S => bnd (evE (callF P wf k) (f (.Name x px)) ρ S) fun y S1 => if isL S1 y = true then bnd (evE (callF P wf k) (f b) ρ S1) fun z S2 => m2D S2 o y z else none := by funext ρ S; simp only [evE]
              rw [e]; exact z
            · exact bad
          · exact bad
        · exact bad
      · exact bad
    · exact bad
  · exact bad
end
end Ev
end
section
set_option Elab.async false
set_option linter.all false
set_option maxRecDepth 100000
set_option maxHeartbeats 4000000
/-! Subscripts, walks, comprehensions of the text; all expressions. -/
namespace Ev
open PySem PySem.Spec PyProof.Rows L2

section
variable {T : Tab} {P : List Fn} {wf k : Nat} {N : List Str} {sc : Scope} {X : Cx} {cl : Nat → List D → Sto → R D}
theorem good_o {f : Expr → E} (ih : ∀ e, SET X e (evE cl (f e))) (o : Option Expr) : SOo X o (evO cl (erO f o)) := by
  cases o with
  | none =>
    have e : evO cl (erO f none) = fun _ S => some (none, S) := by funext ρ S; simp only [erO, evO]
    rw [e]; exact soo_none
  | some a =>
    have e : evO cl (erO f (some a)) = fun ρ S => bnd (evE cl (f a) ρ S) fun d S1 => some (some d, S1) := by funext ρ S; simp only [erO, evO]
    rw [e]; exact soo_some (ih a).1
theorem good_sub {f : Expr → E} (ih : ∀ e, SET X e (evE cl (f e))) {a b : Expr} {p : Pos} : SE X (.Subscript a b p) (evE cl (erSub f a b)) := by
  unfold erSub
  split
  · rename_i lo hi p2
    have z := se_sl (pos := p) (p2 := p2) (ih a).1 (good_o ih lo) (good_o ih hi)
    have e : evE cl (.sl (f a) (erO f lo) (erO f hi)) = fun ρ S => bnd (evE cl (f a) ρ S) fun x S1 => bnd (evO cl (erO f lo) ρ S1) fun l S2 => bnd (evO cl (erO f hi) ρ S2) fun h S3 => sl3 S3 x l h := by funext ρ S; simp only [evE]
    rw [e]; exact z
  · exact set_bad.1
  · rename_i h1 h2
    have hp : PlainIx b := by
      intro o i
      cases b with
      | Slice lo hi st p2 =>
        cases st with
        | none => exact absurd rfl (h1 lo hi p2)
        | some s => exact absurd rfl (h2 lo hi s p2)
      | _ => rfl
    have z := se_ix (pos := p) hp (ih a).1 (ih b).1
    have e : evE cl (.ix (f a) (f b)) = fun ρ S => bnd (evE cl (f a) ρ S) fun x S1 => bnd (evE cl (f b) ρ S1) fun y S2 => ixD S2 x y := by funext ρ S; simp only [evE]
    rw [e]; exact z
theorem si_bad {tg it : Expr} : SI X tg it (evI cl .bad) := fun _ _ _ _ h => (by simp only [evI] at h; cases h)
theorem good_seq {f : Expr → E} (ih : ∀ e, SET X e (evE cl (f e))) {tg it : Expr} : SI X tg it (evI cl (.seq (f it))) := by
  have e : evI cl (.seq (f it)) = fun ρ S => bnd (evE cl (f it) ρ S) fun d S1 => srcD S1 d := by funext ρ S; simp only [evI]
  rw [e]; exact si_seq (ih it).1
theorem good_I (g : Good T P wf k N sc X) {f : Expr → E} (ih : ∀ e, SET X e (evE cl (f e))) {tg it : Expr} : SI X tg it (evI cl (erI T sc f (isTup tg) it)) := by
  unfold erI
  split
  · rename_i x p es kws pos
    split
    · rename_i hx
      split
      · rename_i hc
        obtain ⟨hg, hst, hkw⟩ := hc
        obtain ⟨h1, h2, h3, h4⟩ := glob_ok g hg
        have hk : kws = [] := by simpa using hkw
        subst hk
        split
        · rename_i a
          have z := si_r1 (tg := tg) (p := p) (pos := pos) hx h1 h2 (by simpa using hst) (ih a).1
          have e : evI cl (.r1 (f a)) = fun ρ S => bnd (evE cl (f a) ρ S) fun d S1 => rng1 S1 d := by funext ρ S; simp only [evI]
          rw [e]; exact z
        · rename_i a b
          have hh : isStar a = false ∧ isStar b = false := by simpa using hst
          have z := si_r2 (tg := tg) (p := p) (pos := pos) hx h1 h2 hh.1 hh.2 (ih a).1 (ih b).1
          have e : evI cl (.r2 (f a) (f b)) = fun ρ S => bnd (evE cl (f a) ρ S) fun d S1 => bnd (evE cl (f b) ρ S1) fun e S2 => rng2 S2 d e := by funext ρ S; simp only [evI]
          rw [e]; exact z
        · exact si_bad
      · exact si_bad
    · split
      · rename_i hx
        split
        · rename_i hc
          obtain ⟨hg, hst, hkw, htup⟩ := hc
          obtain ⟨h1, h2, h3, h4⟩ := glob_ok g hg
          have hk : kws = [] := by simpa using hkw
          subst hk
          split
          · rename_i a b
            have hh : isStar a = false ∧ isStar b = false := by simpa using hst
            cases tg with
            | Tuple ts kk tp =>
              have z := si_zip (es := ts) (kk := kk) (tpos := tp) (p := p) (pos := pos) hx h1 h2 hh.1 hh.2 (ih a).1 (ih b).1
              have e : evI cl (.zip (f a) (f b)) = fun ρ S => bnd (evE cl (f a) ρ S) fun d S1 => bnd (evE cl (f b) ρ S1) fun e S2 => zipD S2 d e := by funext ρ S; simp only [evI]
              rw [e]; exact z
            | _ => cases htup
          · exact si_bad
        · exact si_bad
      · exact good_seq ih
  · exact si_bad
  · exact good_seq ih
theorem erI_fold {f : Expr → E} {b : Bool} {it : Expr} (h : ∀ a c d, it = .Set a c d → False) (env : PySem.Env) (x : Value) : foldedSetIterable it env x = pure x := by
  cases it <;> first | rfl | exact absurd rfl (h _ _ _)
def notSet : Expr → Bool
  | .Set _ _ _ => false
  | _ => true
theorem fold_ok {it : Expr} (h : notSet it = true) (env : PySem.Env) (x : Value) : foldedSetIterable it env x = pure x := by
  cases it <;> first | rfl | cases h
/-! ### a block -/
theorem relab_eq {scope : Scope} {env : PySem.Env} : relabel scope env = relab scope env.scope := rfl
theorem Good.blk (g : Good T P wf k N sc X) (scope : Scope) (s : Shared) (H : Hp) (C : Addr) (c : List (Str × Addr)) (fp : List Addr) : Good T P wf k N (relab scope sc) (Blk X scope s H C c fp) where
  sc := by show relabel scope X.env = _; rw [relab_eq, g.sc]
  hN := g.hN
  nd := g.nd
  calm := g.calm
  xe := rfl
  room := g.room
  gd := g.gd
  blt := g.blt
  con := g.con
  fn := g.fn
theorem lookup_relab {sc scope : Scope} {x : Str} {kd : NameKind} (h : scope.names.lookup x = some kd) (hk : kd ≠ .free) : (relab scope sc).names.lookup x = some kd := by
  show (scope.names.map _).lookup x = some kd
  generalize scope.names = l at h
  induction l with
  | nil => cases h
  | cons q r ih =>
    obtain ⟨n, kk⟩ := q
    rw [List.lookup_cons] at h
    rw [List.map_cons]
    by_cases hx : (x == n) = true
    · rw [hx] at h
      have h : kk = kd := Option.some.inj h
      subst h
      have hf : (kk == NameKind.free) = false := by cases kk <;> first | rfl | exact absurd rfl hk
      simp only [hf, Bool.false_and, Bool.false_eq_true, if_false, List.lookup_cons, hx]
    · have hx' : (x == n) = false := by simpa using hx
      rw [hx'] at h
      have ih := ih h
      show List.lookup x ((if (kk == NameKind.free && sc.kind == ScopeKind.function && List.lookup n sc.names == some NameKind.cell) = true then (n, NameKind.cell) else (n, kk)) :: _) = some kd
      by_cases hb : (kk == NameKind.free && sc.kind == ScopeKind.function && List.lookup n sc.names == some NameKind.cell) = true
      · rw [if_pos hb, List.lookup_cons, hx']; exact ih
      · rw [if_neg hb, List.lookup_cons, hx']; exact ih
theorem optAll_cons {α β : Type} {f : α → Option β} {a : α} {r : List α} {ys : List β} (h : optAll ((a :: r).map f) = some ys) : ∃ b bs, f a = some b ∧ optAll (r.map f) = some bs ∧ ys = b :: bs := by
  rw [List.map_cons] at h
  cases ha : f a with
  | none => rw [ha] at h; cases h
  | some b =>
    rw [ha, optAll] at h
    cases hr : optAll (r.map f) with
    | none => rw [hr] at h; cases h
    | some bs => rw [hr] at h; cases h; exact ⟨b, bs, rfl, rfl, rfl⟩
/-- a target in a context whose scope tells its names local, or cells that are its own -/
theorem names_of {N : List Str} (hN : X.N = N) (hx : ∀ x, (∃ xs : List Str, x ∈ xs) → True) {es : List Expr} {xs : List Str} {own : List (Str × Nat)} (h1 : optAll (es.map fun e => match e with
    | .Name x _ => some x
    | _ => none) = some xs) (h2 : optAll (xs.map fun x => (slotOf N x).map fun i => (x, i)) = some own) (hl : ∀ x ∈ xs, Loc X.env.scope x ∧ (X.fn x = true ∨ X.env.scope.names.lookup x = some .local)) : Names X es (own.map (·.2)) := by
  induction es generalizing xs own with
  | nil =>
    cases (show some ([] : List Str) = some xs from h1)
    cases (show some ([] : List (Str × Nat)) = some own from h2)
    exact .nil
  | cons e es ih =>
    obtain ⟨x, xr, e1, e2, rfl⟩ := optAll_cons h1
    obtain ⟨q, qr, e3, e4, rfl⟩ := optAll_cons h2
    cases e with
    | Name y p =>
      have e1 : y = x := Option.some.inj e1
      subst e1
      cases hs : slotOf N y with
      | none => rw [hs] at e3; cases e3
      | some i =>
        rw [hs] at e3; cases e3
        have hy := hl y (by simp)
        exact .cons (by rw [hN]; exact slotOf_get hs) hy.1 hy.2 (ih e2 e4 fun x hx => hl x (by simp [hx]))
    | _ => cases e1
theorem sg_of {N : List Str} (hc : X.calm = true) (hnd : X.N.Nodup) (hN : X.N = N) {sc' : Scope} {tg : Expr} {own : List (Str × Nat)} (h : tgSlots N sc' tg = some own) (hl : ∀ x, sc'.names.lookup x = some .local ∨ sc'.names.lookup x = some .cell → Loc X.env.scope x ∧ (X.fn x = true ∨ X.env.scope.names.lookup x = some .local)) : SG X tg (mkTg tg (own.map (·.2))) ∧ (mkTg tg (own.map (·.2))).slots = own.map (·.2) := by
  unfold tgSlots at h
  cases hn : tgNames tg with
  | none => rw [hn] at h; cases h
  | some xs =>
    rw [hn] at h
    simp only at h
    split at h
    · rename_i hall
      have hall : ∀ x ∈ xs, sc'.names.lookup x = some .local ∨ sc'.names.lookup x = some .cell := by simpa using hall
      cases tg with
      | Name x p =>
        cases hn
        obtain ⟨q, qr, e3, e4, rfl⟩ := optAll_cons (r := []) h
        cases e4
        cases hs : slotOf N x with
        | none => rw [hs] at e3; cases e3
        | some i =>
          rw [hs] at e3; cases e3
          have hy := hl x (hall x (by simp))
          exact ⟨sg_one hnd (by rw [hN]; exact slotOf_get hs) hy.1 hy.2, rfl⟩
      | Tuple es n p =>
        have z := names_of (X := X) hN (fun _ _ => trivial) hn h fun x hx => hl x (hall x hx)
        exact ⟨sg_many hc hnd z, rfl⟩
      | _ => cases hn
    · cases h
end
end Ev
end
section
set_option Elab.async false
set_option linter.all false
set_option maxRecDepth 100000
set_option maxHeartbeats 4000000
/-! All expressions; statements of the text. -/
namespace Ev
open PySem PySem.Spec PyProof.Rows L2

theorem mkTg_slots (tg : Expr) (is : List Nat) : (mkTg tg is).slots = is := by
  unfold mkTg
  split <;> rfl
section
variable {T : Tab} {P : List Fn} {wf k : Nat} {N : List Str} {sc : Scope} {X : Cx} {cl : Nat → List D → Sto → R D}
theorem blk_tg (g : Good T P wf k N sc X) {tg : Expr} {scope : Scope} {own : List (Str × Nat)} (ho : tgSlots N scope tg = some own) (s : Shared) (H : Hp) (C : Addr) (c : List (Str × Addr)) (fp : List Addr) :
    SG (Blk X scope s H C c fp) tg (mkTg tg (own.map (·.2))) := by
  have gb := g.blk scope s H C c fp
  refine (sg_of (N := N) gb.calm (by rw [gb.hN]; exact gb.nd) gb.hN ho fun x hx => ?_).1
  have hsc : (Blk X scope s H C c fp).env.scope = relab scope sc := gb.sc
  rcases hx with hx | hx
  · have z := lookup_relab (sc := sc) hx (by decide)
    exact ⟨.inl (by rw [hsc]; exact z), .inr (by rw [hsc]; exact z)⟩
  · have z := lookup_relab (sc := sc) hx (by decide)
    refine ⟨.inr (by rw [hsc]; exact z), .inl ?_⟩
    show (scope.names.lookup x == some .cell) = true
    rw [hx]; rfl
/-- what a comprehension of the text is erased to -/
def erLc (T : Tab) (N : List Str) (f : Scope → Expr → E) (sc : Scope) (elt tg iter : Expr) (ifs : List Expr) (scope : Scope) : E := match tgSlots N scope tg with
  | some own => if blkC N sc scope own = true ∧ notSet iter = true then (match ifs with
    | [] => .comp (f (relab scope sc) elt) (mkTg tg (own.map (·.2))) (own.map (·.2)) (erI T sc (f sc) (isTup tg) iter) .none
    | [c] => .comp (f (relab scope sc) elt) (mkTg tg (own.map (·.2))) (own.map (·.2)) (erI T sc (f sc) (isTup tg) iter) (.some (f (relab scope sc) c))
    | _ => .bad) else .bad
  | none => .bad
/-- its reading, by meaning -/
abbrev LcT (X : Cx) (scope : Scope) (tg iter elt : Expr) (ifs : List Expr) (own : List (Str × Nat)) : TE := tLc (WI X tg iter) (fun v σ H Q => ∀ s0 H0 C cl fp, WG (Blk X scope s0 H0 C cl fp) tg v σ H Q) (fun σ H Q => ∀ s0 H0 C cl fp, WTs (Blk X scope s0 H0 C cl fp) ifs σ H Q) (fun σ H Q => ∀ s0 H0 C cl fp, WE (Blk X scope s0 H0 C cl fp) elt σ H Q) (own.map (·.2))
theorem lc_read (g : Good T P wf k N sc X) {f : Scope → Expr → E} (ih : ∀ sc X, Good T P wf k N sc X → ∀ e, SET X e (evE (callF P wf k) (f sc e))) {elt tg iter : Expr} {ifs : List Expr} {scope : Scope} {ρ : Env} {S S' : Sto} {d : D}
    (e : evE (callF P wf k) (erLc T N f sc elt tg iter ifs scope) ρ S = some (d, S')) {m : List Addr} {σ : L2.St} {H : Hp} (hE : RE X.K H m ρ σ) (hS : RS X.K H m S) :
    ∃ own, BlkOk X.N X.env.scope scope own ∧ notSet iter = true ∧ ∀ Q : VK, (∀ v H', PV X.K m H S' d v H' → Q v H') → LcT X scope tg iter elt ifs own σ H Q := by
  unfold erLc at e
  split at e
  · rename_i own ho
    split at e
    · rename_i hb
      have ok : BlkOk X.N X.env.scope scope own := by rw [g.hN, g.sc]; exact blkOk_by hb.1
      have hI := good_I g (ih sc X g) (tg := tg) (it := iter)
      have hsl : ∀ i ∈ (mkTg tg (own.map (·.2))).slots, i ∈ own.map (·.2) := fun i hi => by rw [mkTg_slots] at hi; exact hi
      split at e
      · refine ⟨own, ok, hb.2, fun Q hQ => ?_⟩
        simp only [evE] at e
        exact tLc_core (fc := evO (callF P wf k) .none) hI hsl (blk_tg g ho) (fun s H C c fp => .inl ⟨rfl, by funext ρ S; simp only [evO]⟩) (fun s H C c fp => (ih _ _ (g.blk scope s H C c fp) elt).1) e hE hS hQ
      · rename_i c
        refine ⟨own, ok, hb.2, fun Q hQ => ?_⟩
        simp only [evE] at e
        refine tLc_core (fc := evO (callF P wf k) (.some (f (relab scope sc) c))) hI hsl (blk_tg g ho) (fun s H C cc fp => .inr ⟨c, _, rfl, (ih _ _ (g.blk scope s H C cc fp) c).2, ?_⟩) (fun s H C c fp => (ih _ _ (g.blk scope s H C c fp) elt).1) e hE hS hQ
        funext ρ S; simp only [evO]
      · simp only [evE] at e; cases e
    · simp only [evE] at e; cases e
  · simp only [evE] at e; cases e
theorem se_lc (g : Good T P wf k N sc X) {f : Scope → Expr → E} (ih : ∀ sc X, Good T P wf k N sc X → ∀ e, SET X e (evE (callF P wf k) (f sc e))) {elt tg iter : Expr} {ifs : List Expr} {scope : Scope} {pos : Pos} :
    SE X (.ListComp elt [⟨tg, iter, ifs, 0⟩] scope pos) (evE (callF P wf k) (erLc T N f sc elt tg iter ifs scope)) := by
  intro ρ S d S' e m σ H he hs
  obtain ⟨own, ok, hset, h⟩ := lc_read g ih e he hs
  refine WE.of (pe_lc (own := own) g.calm (by rw [g.hN]; exact g.nd) (pi_W tg iter) ok (fun s H C c fp => ⟨fun pins s1 σ1 H1 v u Q I r q => q s H C c fp pins s1 u I r⟩) (fun s H C c fp => ⟨fun pins s1 σ1 H1 Q I q => (pts_W ifs).run pins s1 σ1 H1 Q I (q s H C c fp)⟩) (fun s H C c fp => ⟨fun pins s1 σ1 H1 Q I q => q s H C c fp pins s1 I⟩) (fun x => fold_ok hset _ x)) (h _ fun v H' z => z)
end
/-- the text's expressions -/
def erX (T : Tab) (N : List Str) : Nat → Scope → Expr → E
  | 0, _, _ => .bad
  | k + 1, sc, e => match e with
    | .Name x _ => erName T N sc x
    | .Constant c _ _ => erConst c
    | .Tuple es _ _ => if es.any isStar = false then .tup (mkEs (es.map (erX T N k sc))) else .bad
    | .List es _ => if es.any isStar = false then .lst (mkEs (es.map (erX T N k sc))) else .bad
    | .BinOp a op b _ => .bin op (erX T N k sc a) (erX T N k sc b)
    | .UnaryOp op a _ => (match op with
      | .USub => .neg (erX T N k sc a)
      | .Not => .not (erX T N k sc a)
      | _ => .bad)
    | .Compare a ops bs _ => erCmp (erX T N k sc) a ops bs
    | .BoolOp op es _ => mkB op (erX T N k sc) es
    | .IfExp c a b _ => .ite (erX T N k sc c) (erX T N k sc a) (erX T N k sc b)
    | .Call fn es kws pos => erCall T sc (erX T N k sc) fn es kws pos
    | .Subscript a b _ => erSub (erX T N k sc) a b
    | .ListComp elt gens scope _ => (match gens with
      | [⟨tg, iter, ifs, as⟩] => if as = 0 then erLc T N (erX T N k) sc elt tg iter ifs scope else .bad
      | _ => .bad)
    | _ => .bad
section
variable {T : Tab} {P : List Fn} {wf k : Nat} {N : List Str}
theorem good_X : ∀ (n : Nat) (sc : Scope) (X : Cx), Good T P wf k N sc X → ∀ e, SET X e (evE (callF P wf k) (erX T N n sc e)) := by
  intro n
  induction n with
  | zero => intro sc X g e; exact set_bad
  | succ n ih =>
    intro sc X g e
    have ih1 := ih sc X g
    cases e with
    | Name x p => exact good_name g
    | Constant c j p => exact good_const
    | Tuple es j p =>
      show SET X _ (evE _ (if es.any isStar = false then _ else _))
      split
      · rename_i h
        exact (SET.of (se_tup (good_es ih1 h))).eq fun ρ S => by simp only [evE]
      · exact set_bad
    | List es p =>
      show SET X _ (evE _ (if es.any isStar = false then _ else _))
      split
      · rename_i h
        exact (SET.of (se_lst (good_es ih1 h))).eq fun ρ S => by simp only [evE]
      · exact set_bad
    | BinOp a op b p => exact (SET.of (se_bin (ih1 a).1 (ih1 b).1 (so_bin op))).eq fun ρ S => by simp only [erX, evE]
    | UnaryOp op a p =>
      cases op with
      | USub => exact (SET.of (se_neg (ih1 a).1)).eq fun ρ S => by simp only [erX, evE] <;> rfl
      | Not => exact SET.eq ⟨se_not (ih1 a).1, st_not (ih1 a).2⟩ fun ρ S => by simp only [erX, evE, fNot]
      | _ => exact set_bad
    | Compare a ops bs p => exact good_cmp g.room ih1
    | BoolOp op es p =>
      obtain ⟨h1, h2⟩ := good_bool (es := es) (op := op) (p := p) ih1
      exact ⟨h1, h2.st⟩
    | IfExp c a b p => exact SET.eq ⟨se_ite (ih1 c).2 (ih1 a).1 (ih1 b).1, st_ite (ih1 c).2 (ih1 a).2 (ih1 b).2⟩ fun ρ S => by simp only [erX, evE] <;> rfl
    | Call fn es kws p => exact SET.of (good_call g ih1)
    | Subscript a b p => exact SET.of (good_sub ih1)
    | ListComp elt gens scope p =>
      cases gens with
      | nil => exact set_bad
      | cons q r =>
        obtain ⟨tg, iter, ifs, as⟩ := q
        cases r with
        | cons _ _ => exact set_bad
        | nil =>
          show SET X _ (evE _ (if as = 0 then _ else _))
          split
          · rename_i h
            subst h
            exact SET.of (se_lc g ih)
          · exact set_bad
    | _ => exact set_bad
end
end Ev
end
section
set_option Elab.async false
set_option linter.all false
set_option maxRecDepth 100000
set_option maxHeartbeats 4000000
/-! Statements of the text. -/
namespace Ev
open PySem PySem.Spec PyProof.Rows L2

def isComp : Expr → Bool
  | .ListComp _ _ _ _ => true
  | .SetComp _ _ _ _ => true
  | .DictComp _ _ _ _ _ => true
  | _ => false
theorem swaps_no {e : Expr} (h : isComp e = false) (t : Option Expr) (l : Nat) (env : PySem.Env) : swapsWith e t l env = pure false := by
  cases e <;> first | rfl | cases h
/-- two names at once: both local, one line, not constants alone -/
def parOk (sc : Scope) (x y : Str) (px py : Pos) (a b : Expr) : Bool :=
  (match sc.kind with | .function => true | _ => false) && decide (sc.names.lookup x = some .local) && decide (sc.names.lookup y = some .local) && (py.line == px.line) && !(x == y) && !isStar a && !isStar b && !([a, b].all (foldedForSure 8)) && !([a, b].all (constantsAlone 8))
theorem par_sw {X : Cx} {x y : Str} {px py pt pt2 : Pos} {kt k2 : Nat} {a b : Expr} (h : parOk X.env.scope x y px py a b = true) : swappedStores [.Tuple [.Name x px, .Name y py] kt pt] (.Tuple [a, b] k2 pt2) X.env = pure (some [x, y]) := by
  unfold parOk at h
  simp only [Bool.and_eq_true, decide_eq_true_eq, Bool.not_eq_true'] at h
  obtain ⟨⟨⟨⟨⟨⟨⟨⟨h1, h2⟩, h3⟩, h4⟩, h5⟩, h6⟩, h7⟩, h8⟩, h9⟩ := h
  have hk : X.env.scope.kind = .function := by split at h1 <;> first | assumption | cases h1
  have hb : X.env.blockKind = .function := by unfold PySem.Env.blockKind; rw [hk]; rfl
  have k1 : X.env.kindOf x = some .local := h2
  have k2 : X.env.kindOf y = some .local := h3
  have hpos : (Expr.Name x px).pos.line = px.line := rfl
  have hxy : (y == x) = false := by
    rw [beq_eq_false_iff_ne] at h5 ⊢
    exact fun z => h5 z.symm
  unfold swappedStores
  simp only [List.length_cons, List.length_nil, hb, List.any_cons, List.any_nil, List.head?_cons, Option.map_some, Option.getD_some, hpos]
  rw [if_neg (by decide)]
  have hst : (isStar a || (isStar b || false)) = false := by rw [h6, h7]; rfl
  refine Eq.trans (if_neg (show ¬ ((isStar a || (isStar b || false)) = true) by rw [hst]; exact Bool.false_ne_true)) ?_
  refine Eq.trans (if_neg ?c) ?_
  case c =>
    simp only [List.filterMap_cons, List.filterMap_nil, k1, k2, h4, beq_self_eq_true, Bool.and_self, if_true]
    have hd : ([x, y] : List Str).eraseDups = [x, y] := by
      simp only [List.eraseDups_cons, List.filter_cons, List.filter_nil, hxy, Bool.not_false, if_true, List.eraseDups_nil]
    rw [hd]
    simp
  refine Eq.trans (if_neg (by rw [h8]; exact Bool.false_ne_true)) ?_
  refine Eq.trans (if_neg (by rw [h9]; exact Bool.false_ne_true)) ?_
  simp only [List.filterMap_cons, List.filterMap_nil, k1, k2, h4, beq_self_eq_true, Bool.and_self, if_true]

def mkTs : List T → Ts
  | [] => .nil
  | t :: r => .cons t (mkTs r)
def erPar (N : List Str) (sc : Scope) (f : Expr → E) (ts vs : List Expr) : T := match ts, vs with
  | [.Name x px, .Name y py], [a, b] => if parOk sc x y px py a b = true then (match slotOf N x, slotOf N y with
    | some i, some j => if i = j then .bad else .par i j (f a) (f b)
    | _, _ => .bad) else .bad
  | _, _ => .bad
def erAsg (N : List Str) (sc : Scope) (f : Expr → E) (tg e : Expr) : T := match tg with
  | .Name x p => (match tgSlots N sc (.Name x p) with
    | some own => (match e with
      | .SetComp _ _ _ _ => .bad
      | .DictComp _ _ _ _ _ => .bad
      | _ => .asg (mkTg (.Name x p) (own.map (·.2))) (f e))
    | none => .bad)
  | .Tuple ts k p => (match e with
    | .Tuple vs _ _ => erPar N sc f ts vs
    | _ => if isComp e = false then (match tgSlots N sc (.Tuple ts k p) with
      | some own => .asg (mkTg (.Tuple ts k p) (own.map (·.2))) (f e)
      | none => .bad) else .bad)
  | .Subscript o i _ => if isComp e = false ∧ plainIx i = true then .setIx (f o) (f i) (f e) else .bad
  | _ => .bad
def erT (T' : Tab) (N : List Str) (sc : Scope) : Nat → Stmt → T
  | 0, _ => .bad
  | n + 1, st => match st with
    | .Assign [tg] e _ => erAsg N sc (erX T' N n sc) tg e
    | .Expr e _ => (match e with
      | .Constant (.str _) _ _ => .pass
      | e => if isComp e = false then .expr (erX T' N n sc e) else .bad)
    | .Return (some e) _ => .ret (erX T' N n sc e)
    | .If c a b _ => .ife (erX T' N n sc c) (mkTs (a.map (erT T' N sc n))) (mkTs (b.map (erT T' N sc n)))
    | .For tg it body [] _ => if notSet it = true then (match tgSlots N sc tg with
      | some own => .for (mkTg tg (own.map (·.2))) (erI T' sc (erX T' N n sc) (isTup tg) it) (mkTs (body.map (erT T' N sc n)))
      | none => .bad) else .bad
    | .While c body [] _ => .while (erX T' N n sc c) (mkTs (body.map (erT T' N sc n)))
    | .Pass _ => .pass
    | _ => .bad
section
variable {T' : Tab} {P : List Fn} {wf k : Nat} {N : List Str} {sc : Scope} {X : Cx}
theorem ss_bad {st : Stmt} : SS X st (evT (callF P wf k) wf .bad) := fun _ _ _ _ h => (by simp only [evT] at h; cases h)
theorem SS.eq {st : Stmt} {f g : Env → Sto → R Fl} (h : SS X st f) (q : ∀ ρ S, g ρ S = f ρ S) : SS X st g := by
  have : g = f := by funext ρ S; exact q ρ S
  rw [this]; exact h
theorem good_ts {f : Stmt → T} (ih : ∀ st, SS X st (evT (callF P wf k) wf (f st))) : ∀ sts : List Stmt, SSs X sts (evTs (callF P wf k) wf (mkTs (sts.map f)))
  | [] => by
    have e : evTs (callF P wf k) wf (mkTs ([].map f)) = fun ρ S => some (.nx ρ, S) := by funext ρ S; simp only [List.map_nil, mkTs, evTs]
    rw [e]; exact sss_nil
  | st :: r => by
    have e : evTs (callF P wf k) wf (mkTs ((st :: r).map f)) = fSeq (evT (callF P wf k) wf (f st)) (evTs (callF P wf k) wf (mkTs (r.map f))) := by
      funext ρ S; simp only [List.map_cons, mkTs, evTs, fSeq] <;> rfl
    rw [e]; exact sss_cons (ih st) (good_ts ih r)
theorem sg_def (g : Good T' P wf k N sc X) (hf : ∀ x, X.fn x = true) {tg : Expr} {own : List (Str × Nat)} (h : tgSlots N sc tg = some own) : SG X tg (mkTg tg (own.map (·.2))) :=
  (sg_of (N := N) g.calm (by rw [g.hN]; exact g.nd) g.hN h fun x hx => ⟨by show X.env.scope.names.lookup x = _ ∨ _; rw [g.sc]; exact hx, .inl (hf x)⟩).1
/-- x = [..] -/
theorem ss_asgLc (g : Good T' P wf k N sc X) (hf : ∀ x, X.fn x = true) {n : Nat} {x : Str} {p pos spos : Pos} {own : List (Str × Nat)} (h : tgSlots N sc (.Name x p) = some own) {elt : Expr} {gens : List Comprehension} {scope : Scope} :
    SS X (.Assign [.Name x p] (.ListComp elt gens scope pos) spos) (fun ρ S => bnd (evE (callF P wf k) (erX T' N n sc (.ListComp elt gens scope pos)) ρ S) fun d S1 => (setT (mkTg (.Name x p) (own.map (·.2))) d ρ).map fun ρ' => (.nx ρ', S1)) := by
  have hE := (good_X n sc X g (.ListComp elt gens scope pos)).1
  have hG := sg_def g hf h
  have hsw : swapsWithSole [.Name x p] (.ListComp elt gens scope pos) spos.line X.env = pure (X.env.blockKind == .function && X.env.kindOf x == some .local && p.line == pos.line && !(scope.names.any fun (n, k) => n == x && (k == .local || k == .cell))) := rfl
  by_cases hb : (X.env.blockKind == .function && X.env.kindOf x == some .local && p.line == pos.line && !(scope.names.any fun (n, k) => n == x && (k == .local || k == .cell))) = true
  · -- the target is stored within
    rw [hb] at hsw
    intro ρ S fl S' e m σ H he hs Dn w
    obtain ⟨d, S1, e1, e2⟩ := bnd_eq e
    clear e
    cases n with
    | zero => simp only [erX, evE] at e1; cases e1
    | succ n =>
      cases gens with
      | nil => simp only [erX, evE] at e1; cases e1
      | cons q r =>
        obtain ⟨tg, iter, ifs, as⟩ := q
        cases r with
        | cons _ _ => simp only [erX, evE] at e1; cases e1
        | nil =>
          simp only [erX] at e1
          split at e1
          · rename_i has
            subst has
            obtain ⟨own', ok, hset, hr⟩ := lc_read g (good_X n) e1 he hs
            have hsl : slotOf N x = some (mkTg (.Name x p) (own.map (·.2))).slots.head! ∧ own.map (·.2) = [(mkTg (.Name x p) (own.map (·.2))).slots.head!] := by
              unfold tgSlots at h
              simp only [tgNames] at h
              split at h
              · obtain ⟨q, qr, e3, e4, rfl⟩ := optAll_cons (r := []) h
                cases e4
                cases hs : slotOf N x with
                | none => rw [hs] at e3; cases e3
                | some i => rw [hs] at e3; cases e3; exact ⟨rfl, rfl⟩
              · cases h
            generalize hi : (mkTg (.Name x p) (own.map (·.2))).slots.head! = i at hsl
            rw [hsl.2] at e2
            cases e2
            have hloc : X.env.scope.names.lookup x = some .local := by
              simp only [Bool.and_eq_true] at hb
              exact eq_of_beq hb.1.1.2
            refine WS.of (ps_setLc (own := own') (i := i) (wi := WI X tg iter) (g := fun v σ H Q => ∀ s0 H0 C cl fp, WG (Blk X scope s0 H0 C cl fp) tg v σ H Q) (tt := fun σ H Q => ∀ s0 H0 C cl fp, WTs (Blk X scope s0 H0 C cl fp) ifs σ H Q) (te := fun σ H Q => ∀ s0 H0 C cl fp, WE (Blk X scope s0 H0 C cl fp) elt σ H Q) g.calm (by rw [g.hN]; exact g.nd) (by rw [g.hN]; exact slotOf_get hsl.1) hloc hsw (pi_W tg iter) ok (fun s H C c fp => ⟨fun pins s1 σ1 H1 v u Q I r q => q s H C c fp pins s1 u I r⟩) (fun s H C c fp => ⟨fun pins s1 σ1 H1 Q I q => (pts_W ifs).run pins s1 σ1 H1 Q I (q s H C c fp)⟩) (fun s H C c fp => ⟨fun pins s1 σ1 H1 Q I q => q s H C c fp pins s1 I⟩) (fun x => fold_ok hset _ x)) ?_
            refine hr _ fun v H1 ⟨m1, p1, t1, r1, q1⟩ => ?_
            exact w.nx _ _ H1 rfl ⟨m1, p1, t1, r1, (he.mono t1 p1).set i q1⟩
          · simp only [evE] at e1; cases e1
  · rw [Bool.eq_false_iff.mpr hb] at hsw
    exact ss_asg hsw rfl rfl hE hG
theorem good_T (g : Good T' P wf k N sc X) (hf : ∀ x, X.fn x = true) : ∀ (n : Nat) (st : Stmt), SS X st (evT (callF P wf k) wf (erT T' N sc n st)) := by
  intro n
  induction n with
  | zero => intro st; exact ss_bad
  | succ n ih =>
    intro st
    have ihE := good_X (T := T') (P := P) (wf := wf) (k := k) (N := N) n sc X g
    cases st with
    | Assign tgs e p =>
      cases tgs with
      | nil => exact ss_bad
      | cons tg r =>
        cases r with
        | cons _ _ => exact ss_bad
        | nil =>
          show SS X _ (evT (callF P wf k) wf (erAsg N sc (erX T' N n sc) tg e))
          cases tg with
          | Name x px =>
            simp only [erAsg]
            split
            · rename_i own ho
              have key : isComp e = false → SS X (.Assign [.Name x px] e p) (evT (callF P wf k) wf (.asg (mkTg (.Name x px) (own.map (·.2))) (erX T' N n sc e))) := fun hc =>
                (ss_asg (swaps_no hc _ _ _) (by cases e <;> rfl) rfl (ihE e).1 (sg_def g hf ho)).eq fun ρ S => by simp only [evT]
              cases e with
              | ListComp elt gens scope pos => exact (ss_asgLc g hf (n := n) ho).eq fun ρ S => by simp only [evT]
              | SetComp _ _ _ _ => exact ss_bad
              | DictComp _ _ _ _ _ => exact ss_bad
              | _ => exact key rfl
            · exact ss_bad
          | Tuple ts kt pt =>
            simp only [erAsg]
            split
            · rename_i vs k2 p2
              unfold erPar
              split
              · rename_i x px y py a b
                split
                · rename_i hp
                  split
                  · rename_i i j hi hj
                    split
                    · exact ss_bad
                    · rename_i hij
                      have hp' : parOk X.env.scope x y px py a b = true := by rw [g.sc]; exact hp
                      have hp2 := hp
                      unfold parOk at hp2
                      simp only [Bool.and_eq_true, decide_eq_true_eq, Bool.not_eq_true'] at hp2
                      obtain ⟨⟨⟨⟨⟨⟨⟨⟨h1, h2⟩, h3⟩, h4⟩, h5⟩, h6⟩, h7⟩, h8⟩, h9⟩ := hp2
                      exact (ss_par g.calm (by rw [g.hN]; exact g.nd) (by rw [g.hN]; exact slotOf_get hi) (by rw [g.hN]; exact slotOf_get hj) hij (by rw [g.sc]; exact h2) (by rw [g.sc]; exact h3) (par_sw hp') h6 h7 (ihE a).1 (ihE b).1).eq fun ρ S => by simp only [evT]
                  · exact ss_bad
                · exact ss_bad
              · exact ss_bad
            · rename_i hnt
              split
              · rename_i hc
                split
                · rename_i own ho
                  refine (ss_asg (swaps_no hc _ _ _) ?_ rfl (ihE e).1 (sg_def g hf ho)).eq fun ρ S => by simp only [evT]
                  cases e <;> first | rfl | exact absurd rfl (hnt _ _ _)
                · exact ss_bad
              · exact ss_bad
          | Subscript o i px =>
            simp only [erAsg]
            split
            · rename_i hc
              exact (ss_setIx (X := X) (a := e) (b := o) (c := i) (p := px) (p' := p) (fun v => by cases i <;> first | rfl | cases hc.2) (swaps_no hc.1 (some (.Subscript o i px)) p.line X.env) (by cases e <;> rfl) (ihE e).1 (ihE o).1 (ihE i).1).eq fun ρ S => by simp only [evT]
            · exact ss_bad
          | _ => exact ss_bad
    | Expr e p =>
      show SS X _ (evT (callF P wf k) wf (match e with
        | .Constant (.str _) _ _ => .pass
        | e => if isComp e = false then .expr (erX T' N n sc e) else .bad))
      split
      · exact ss_doc.eq fun ρ S => by simp only [evT]
      · split
        · rename_i hc
          exact (ss_expr (swaps_no hc _ _ _) (ihE _).1).eq fun ρ S => by simp only [evT]
        · exact ss_bad
    | Return o p =>
      cases o with
      | none => exact ss_bad
      | some e => exact (ss_ret (ihE e).1).eq fun ρ S => by simp only [erT, evT]
    | If c a b p => exact (ss_if (ihE c).2 (good_ts ih a) (good_ts ih b)).eq fun ρ S => by simp only [erT, evT, evC]
    | For tg it body els p =>
      cases els with
      | cons _ _ => exact ss_bad
      | nil =>
        show SS X _ (evT (callF P wf k) wf (if notSet it = true then _ else _))
        split
        · rename_i hset
          split
          · rename_i own ho
            exact (ss_for g.xe g.calm (good_I g ihE) (sg_def g hf ho) (good_ts ih body) (fun x => fold_ok hset _ x)).eq fun ρ S => by simp only [evT]
          · exact ss_bad
        · exact ss_bad
    | While c body els p =>
      cases els with
      | cons _ _ => exact ss_bad
      | nil => exact (ss_while wf g.xe (ihE c).2 (good_ts ih body)).eq fun ρ S => by simp only [erT, evT]; rfl
    | Pass p => exact ss_pass.eq fun ρ S => by simp only [erT, evT]
    | _ => exact ss_bad
end
end Ev
end
section
set_option Elab.async false
set_option linter.all false
set_option maxRecDepth 100000
set_option maxHeartbeats 4000000
/-! Defs. -/
namespace Ev
open PySem PySem.Spec PyProof.Rows L2

section
variable {K : PySem.W.Frag} {H : Hp} {m : List Addr}
theorem RE.start {N : List Str} {ds : List D} {vs : List V} (h : RVs K H m ds vs) : RE K H m (ds.map some ++ List.replicate (N.length - ds.length) none) (L2.start N vs) := by
  unfold L2.start
  rw [← h.length]
  refine ⟨by simp [h.length], fun i d e => ?_⟩
  rcases Nat.lt_or_ge i ds.length with hi | hi
  · rw [List.getElem?_append_left (by simpa using hi)] at e
    rw [List.getElem?_map] at e
    cases hd : ds[i]? with
    | none => rw [hd] at e; cases e
    | some d' =>
      rw [hd] at e; cases e
      obtain ⟨v, h1, h2⟩ := h.get hd
      refine ⟨v, ?_, h2⟩
      rw [List.getElem?_append_left (by rw [List.length_map, ← h.length]; exact hi), List.getElem?_map, h1]
      rfl
  · rw [List.getElem?_append_right (by simpa using hi)] at e
    rw [List.getElem?_replicate] at e
    split at e <;> cases e
end
/-- a def as the head tells it, and what it is erased to -/
structure DefOk (T : Tab) (n : Nat) (P : List Fn) (K : PySem.W.Frag) (mg : Str → Option Value) (i : Nat) (x : Str) : Prop where
  ex : ∃ (f : Addr) (fd : FuncData) (params : Arguments) (body : List Stmt) (scope : Scope) (N ps : List Str), FunD K x x params body scope [] [] f fd ∧ FnScope N ps scope ∧ Binds K fd ps [] ∧ mg x = some (.ref f) ∧ PySem.W.keepIn K (.ref f) = true ∧
    P[i]? = some ⟨N.length, ps.length, mkTs (body.map (erT T N scope n))⟩
/-- what is known of all defs at a level -/
def FnsOk (prog : Program) (w : World) (K : PySem.W.Frag) (mg : Str → Option Value) (base : Heap) (T : Tab) (P : List Fn) (wf k : Nat) : Prop := ∀ i x, T.fns[i]? = some x → ∃ f fd ps np, mg x = some (.ref f) ∧ PySem.W.keepIn K (.ref f) = true ∧ Binds K fd ps [] ∧ FnG prog w K mg base k f fd ps (SpG K np (callF P wf k i)) ∧ (∀ ds S r, callF P wf k i ds S = some r → ds.length = np)
section
variable {prog : Program} {w : World} {K : PySem.W.Frag} {mg : Str → Option Value} {base : Heap} {T : Tab} {n wf : Nat} {P : List Fn}
theorem def_ok (hb : ∀ x, T.blts.contains x = true → mg x = none) (hc : ∀ x d, T.consts.lookup x = some d → ∃ u v, mg x = some u ∧ RelV v u ∧ ∀ H m, RV K H m d v) {k : Nat} (ih : FnsOk prog w K mg base T P wf k) {i : Nat} {x : Str}
    {f : Addr} {fd : FuncData} {params : Arguments} {body : List Stmt} {scope : Scope} {N ps : List Str} (hF : FunD K x x params body scope [] [] f fd) (hS : FnScope N ps scope) (hP : P[i]? = some ⟨N.length, ps.length, mkTs (body.map (erT T N scope n))⟩) :
    FnG prog w K mg base (k + 1) f fd ps (SpG K ps.length (callF P wf (k + 1) i)) ∧ ∀ ds S r, callF P wf (k + 1) i ds S = some r → ds.length = ps.length := by
  have hcl : ∀ ds S, callF P wf (k + 1) i ds S = if ds.length = ps.length then bnd (evTs (callF P wf k) wf (mkTs (body.map (erT T N scope n))) (ds.map some ++ List.replicate (N.length - ps.length) none) S) fun r S1 => match r with
      | .nx _ => some (.non, S1)
      | .ret d => some (d, S1)
      else none := fun ds S => by
    show (match P[i]? with
      | none => none
      | some F => _) = _
    rw [hP] <;> rfl
  have hnp : ∀ ds S r, callF P wf (k + 1) i ds S = some r → ds.length = ps.length := fun ds S r h => by
    rw [hcl] at h
    split at h
    · assumption
    · cases h
  refine ⟨fnG_of hF hS (fun vs H Q h => h.1) (fun cdv A outer s H vs Q hr hg h => ?_), hnp⟩
  obtain ⟨hl, m, S, ds, d, S', hRS, hRV, e, hQ⟩ := h
  let X : Cx := (cxOf CX0 prog w K mg base N x scope f cdv A outer s H E0).nox
  have g : Good T P wf k N scope X := ⟨rfl, rfl, hS.nd, rfl, rfl, hr, hg, hb, hc, fun i x hx => ih i x hx⟩
  have hbody := good_ts (good_T g (fun _ => rfl) n) body
  rw [hcl] at e
  split at e
  · rename_i hlen
    obtain ⟨fl, S1, e1, e2⟩ := bnd_eq e
    have hRE := RE.start (N := N) hRV
    rw [hlen] at hRE
    refine hbody _ S fl S1 e1 m _ H hRE hRS _ ⟨fun ρ' σ' H' ef h => ?_, fun d' v H' ef h => ?_⟩
    · subst ef
      cases e2
      obtain ⟨m', p', t', r', _⟩ := h
      exact hQ .non H' ⟨m', p', t', r', .non⟩
    · subst ef
      cases e2
      exact hQ v H' h
  · cases e
theorem all_ok (hd : ∀ i x, T.fns[i]? = some x → DefOk T n P K mg i x)
    (hb : ∀ x, T.blts.contains x = true → mg x = none) (hc : ∀ x d, T.consts.lookup x = some d → ∃ u v, mg x = some u ∧ RelV v u ∧ ∀ H m, RV K H m d v) :
    ∀ k, FnsOk prog w K mg base T P wf k := by
  intro k
  induction k with
  | zero =>
    intro i x hx
    obtain ⟨f, fd, params, body, scope, N, ps, hF, hS, hB, hm, hk, hP⟩ := (hd i x hx).ex
    refine ⟨f, fd, ps, ps.length, hm, hk, hB, ⟨fun vs H Q h => h.1, fun A outer s H args us vs Q _ _ _ _ _ h => ?_⟩, fun ds S r h => by cases h⟩
    obtain ⟨_, m, S, ds, d, S', _, _, e, _⟩ := h
    cases e
  | succ k ih =>
    intro i x hx
    obtain ⟨f, fd, params, body, scope, N, ps, hF, hS, hB, hm, hk, hP⟩ := (hd i x hx).ex
    obtain ⟨h1, h2⟩ := def_ok hb hc ih hF hS hP
    exact ⟨f, fd, ps, ps.length, hm, hk, hB, h1, h2⟩
end
theorem lookup_in {α β : Type} [BEq α] [LawfulBEq α] {a : α} {b : β} : ∀ {l : List (α × β)}, l.lookup a = some b → (a, b) ∈ l
  | [], h => by cases h
  | (x, y) :: r, h => by
    rw [List.lookup_cons] at h
    cases hx : a == x with
    | true =>
      rw [hx] at h
      have h : y = b := Option.some.inj h
      rw [eq_of_beq hx, h]
      exact List.mem_cons_self ..
    | false =>
      rw [hx] at h
      exact List.mem_cons_of_mem _ (lookup_in h)
/-- the law's def: the script is the store's first thing -/
theorem law_sp {K : PySem.W.Frag} {g : List D → Sto → R D} {H : Hp} {a : Addr} {ns : List Int} (hf : ∃ o, H a = some (.frz o (.lst (ns.map V.int)))) (h : ∃ S', g [.ref 0] [.fz (ns.map D.int)] = some (.bl true, S')) :
    SpG K 1 g [.ref a] H (fun v _ => v = .bl true) := by
  obtain ⟨S', h⟩ := h
  have hv : ∀ ns : List Int, RVs K H [a] (ns.map D.int) (ns.map V.int) := fun ns => by
    induction ns with
    | nil => exact .nil
    | cons n r ih => exact .cons (.int n) ih
  obtain ⟨o, hf⟩ := hf
  refine ⟨rfl, [a], [.fz (ns.map D.int)], [.ref 0], .bl true, S', ⟨by simp, rfl, fun n b ob e1 e2 => ?_⟩, .cons (.ref rfl) .nil, h, fun v H' ⟨m', _, _, _, q⟩ => ?_⟩
  · cases n with
    | zero =>
      cases (show some a = some b from e1)
      cases (show some (O.fz (ns.map D.int)) = some ob from e2)
      exact ⟨o, ns.map V.int, hf, hv ns⟩
    | succ n => simp at e1
  · cases q; rfl
end Ev
end
section
set_option linter.all false
set_option maxRecDepth 100000
set_option maxHeartbeats 4000000
/-! What the small language does, as equations. -/
namespace Ev
open PySem L2
section
variable {S : Sto} {i j : Int} {n a b : Nat} {xs ys : List D} {x y d : D} {s t : Str}
theorem binD_add : binD S .Add (.int i) (.int j) = some (.int (i + j), S) := rfl
theorem binD_sub : binD S .Sub (.int i) (.int j) = some (.int (i - j), S) := rfl
theorem binD_mulr (h : -(2 ^ 64) < j ∧ j < 2 ^ 64) : binD S .Mult (.int i) (.int j) = some (.int (i * j), S) := if_pos (.inr h)
theorem binD_mull (h : -(2 ^ 64) < i ∧ i < 2 ^ 64) : binD S .Mult (.int i) (.int j) = some (.int (i * j), S) := if_pos (.inl h)
theorem binD_fdiv (h : 0 < j ∧ j < 1073741824) : binD S .FloorDiv (.int i) (.int j) = some (.int (i / j), S) := if_pos h
theorem binD_mod (h : 0 < j) : binD S .Mod (.int i) (.int j) = some (.int (i % j), S) := if_pos h
theorem binD_tup (h : (xs ++ ys).length ≤ 100000) : binD S .Add (.tup xs) (.tup ys) = some (.tup (xs ++ ys), S) := if_pos h
theorem binD_lst (h1 : S[a]? = some (.lst xs)) (h2 : S[b]? = some (.lst ys)) (h : (xs ++ ys).length ≤ 100000) : binD S .Add (.ref a) (.ref b) = some (.ref S.length, S ++ [.lst (xs ++ ys)]) := by
  show (match S[a]?, S[b]? with | some (.lst xs), some (.lst ys) => newL S (xs ++ ys) | _, _ => none) = _
  rw [h1, h2]; exact if_pos h
theorem newT_of (h : xs.length ≤ 100000) : newT S xs = some (.tup xs, S) := if_pos h
theorem newL_of (h : xs.length ≤ 100000) : newL S xs = some (.ref S.length, S ++ [.lst xs]) := if_pos h
theorem itemsAt_lst (h : S[n]? = some (.lst xs)) : itemsAt S n = some xs := by unfold itemsAt; rw [h]
theorem itemsAt_fz (h : S[n]? = some (.fz xs)) : itemsAt S n = some xs := by unfold itemsAt; rw [h]
theorem ixD_tup (h : atI xs i = some d) : ixD S (.tup xs) (.int i) = some (d, S) := by
  show (atI xs i).map _ = _
  rw [h]; rfl
theorem ixD_ref (h1 : itemsAt S n = some xs) (h : atI xs i = some d) : ixD S (.ref n) (.int i) = some (d, S) := by
  show (itemsAt S n).bind _ = _
  rw [h1, Option.bind_some, h]; rfl
theorem cmp_lt : cmpD S .Lt (.int i) (.int j) = some (decide (i < j)) := rfl
theorem cmp_gt : cmpD S .Gt (.int i) (.int j) = some (decide (j < i)) := rfl
theorem cmp_le : cmpD S .LtE (.int i) (.int j) = some (decide (i ≤ j)) := rfl
theorem cmp_ge : cmpD S .GtE (.int i) (.int j) = some (decide (j ≤ i)) := rfl
theorem cmp_eqi : cmpD S .Eq (.int i) (.int j) = some (i == j) := by
  simp only [cmpD, eqD, pyD, PyData.eqv]
theorem cmp_isN : cmpD S .Is x .non = some (match x with | .non => true | _ => false) := by
  cases x <;> rfl
theorem len_ref (h1 : itemsAt S n = some xs) : b1D S .len (.ref n) = some (.int xs.length, S) := by
  simp only [b1D, lenD, h1]; rfl
theorem len_tup : b1D S .len (.tup xs) = some (.int xs.length, S) := rfl
theorem b2_max : b2D S .max (.int i) (.int j) = some (.int (if j > i then j else i), S) := rfl
theorem b2_min : b2D S .min (.int i) (.int j) = some (.int (if j < i then j else i), S) := rfl
theorem tru_bl {c : Bool} : truthD S (.bl c) = some c := rfl
theorem set_one {ρ : Env} : setT (.one n) d ρ = some (ρ.set n (some d)) := rfl
theorem set_many {ρ : Env} {is : List Nat} : setT (.many is) (.tup xs) ρ = setAll is xs ρ := rfl
theorem setIx_of {ρ : Env} {k : Nat} (h1 : S[n]? = some (.lst xs)) (h2 : ixN xs.length i = some k) : setIxD S ρ (.ref n) (.int i) d = some (.nx ρ, S.set n (.lst (xs.set k d))) := by
  show (match S[n]? with | some (.lst xs) => (match ixN xs.length i with | some j => some (Fl.nx ρ, S.set n (.lst (xs.set j d))) | none => none) | _ => none) = _
  rw [h1]
  simp only [h2]
theorem isL_of (h : itemsAt S n = some xs) : isL S (.ref n) = true := by
  show (itemsAt S n).isSome = true
  rw [h]; rfl
theorem m2_append (h : S[n]? = some (.lst xs)) (hl : xs.length < 100000) : m2D S .append (.ref n) d = some (.non, S.set n (.lst (xs ++ [d]))) := by
  simp only [m2D, h, if_pos hl]
theorem m2_extend {m : Nat} (h : S[n]? = some (.lst xs)) (h' : S[m]? = some (.lst ys)) (hl : xs.length + ys.length ≤ 100000) : m2D S .extend (.ref n) (.ref m) = some (.non, S.set n (.lst (xs ++ ys))) := by
  simp only [m2D, h, h', if_pos hl]
theorem m2_pop {k : Nat} (h : S[n]? = some (.lst xs)) (hk : xs[k]? = some d) (hi : i = (k : Int)) (hb : i < 2 ^ 62) : m2D S .pop (.ref n) (.int i) = some (d, S.set n (.lst (xs.eraseIdx k))) := by
  subst hi
  have e : (k : Int).toNat = k := by omega
  simp only [m2D, h, e, hk, if_pos (show 0 ≤ (k : Int) ∧ (k : Int) < 2 ^ 62 from ⟨by omega, hb⟩)]
theorem tuple_ref (h1 : itemsAt S n = some xs) : b1D S .tuple (.ref n) = some (.tup xs, S) := by
  simp only [b1D, h1]; rfl
theorem sorted_ref (h1 : itemsAt S n = some xs) : b1D S .sorted (.ref n) = sortD S xs := by
  simp only [b1D, h1]; rfl
theorem rng1_of (h1 : -(2 ^ 62) ≤ j) (h2 : j < 2 ^ 62) : rng1 S (.int j) = some (⟨rangeD 0 j.toNat, []⟩, S) := if_pos ⟨h1, h2⟩
theorem rng2_of (h1 : -(2 ^ 62) ≤ i) (h2 : i < 2 ^ 62) (h3 : -(2 ^ 62) ≤ j) (h4 : j < 2 ^ 62) : rng2 S (.int i) (.int j) = some (⟨rangeD i (j - i).toNat, []⟩, S) := if_pos ⟨⟨h1, h2⟩, ⟨h3, h4⟩⟩
theorem atI_nat' {k : Nat} (h : xs[k]? = some d) (hi : i = (k : Int)) : atI xs i = some d := by
  subst hi
  have hk : k < xs.length := by
    rcases Nat.lt_or_ge k xs.length with z | z
    · exact z
    · rw [List.getElem?_eq_none z] at h; cases h
  unfold atI ixN
  rw [if_pos (by omega), if_pos (by omega)]
  exact h
theorem atI_zero : atI (x :: xs) 0 = some x := atI_nat' (k := 0) rfl rfl
theorem atI_one : atI (x :: y :: xs) 1 = some y := atI_nat' (k := 1) rfl rfl
theorem atI_two {z : D} : atI (x :: y :: z :: xs) 2 = some z := atI_nat' (k := 2) rfl rfl
theorem call_eq {P : List Fn} {wf k f : Nat} {ds : List D} {S : Sto} {n np : Nat} {b : Ts} (h : P[f]? = some ⟨n, np, b⟩) (hl : ds.length = np) : callF P wf (k + 1) f ds S = bnd (evTs (callF P wf k) wf b (ds.map some ++ List.replicate (n - np) none) S) fun r S1 => match r with
      | .nx _ => some (.non, S1)
      | .ret d => some (d, S1) := by
  show (match P[f]? with
      | none => none
      | some F => _) = _
  rw [h]
  show (if ds.length = np then _ else _) = _
  rw [if_pos hl] <;> rfl
end
end Ev
end
section
set_option linter.all false
set_option maxRecDepth 100000
set_option maxHeartbeats 4000000
/-! Stores: what stays. -/
namespace Ev
open PySem L2
def fin : Fl → Sto → R D
  | .nx _, S => some (.non, S)
  | .ret d, S => some (d, S)
theorem call_fin {P : List Fn} {wf k f : Nat} {ds : List D} {S : Sto} {n np : Nat} {b : Ts} {ρ : Env} (h : P[f]? = some ⟨n, np, b⟩) (hl : ds.length = np) (hρ : ds.map some ++ List.replicate (n - np) none = ρ) : callF P wf (k + 1) f ds S = bnd (evTs (callF P wf k) wf b ρ S) fin := by
  rw [call_eq h hl, hρ]
  congr 1
  funext r S1
  cases r <;> rfl
theorem fin_nx {ρ : Env} {S : Sto} : fin (.nx ρ) S = some (.non, S) := rfl
theorem fin_ret {d : D} {S : Sto} : fin (.ret d) S = some (d, S) := rfl
/-- S' has all of S but the thing at dk, and perhaps more -/
structure Fr (dk : Nat) (S S' : Sto) : Prop where
  le : S.length ≤ S'.length
  at_ : ∀ n, n < S.length → n ≠ dk → S'[n]? = S[n]?
theorem Fr.refl (dk : Nat) (S : Sto) : Fr dk S S := ⟨Nat.le_refl _, fun _ _ _ => rfl⟩
theorem Fr.trans {dk : Nat} {S S1 S2 : Sto} (a : Fr dk S S1) (b : Fr dk S1 S2) : Fr dk S S2 :=
  ⟨Nat.le_trans a.le b.le, fun n hn hd => (b.at_ n (Nat.lt_of_lt_of_le hn a.le) hd).trans (a.at_ n hn hd)⟩
theorem Fr.new {dk : Nat} {S : Sto} {o : O} : Fr dk S (S ++ [o]) := ⟨by simp, fun n hn _ => List.getElem?_append_left hn⟩
theorem Fr.set {dk : Nat} {S : Sto} {o : O} : Fr dk S (S.set dk o) := ⟨by simp, fun n hn hd => List.getElem?_set_ne (Ne.symm hd)⟩
/-- a thing that is younger than S may change -/
theorem Fr.setNew {dk n : Nat} {S S1 : Sto} {o : O} (a : Fr dk S S1) (hn : S.length ≤ n) : Fr dk S (S1.set n o) :=
  ⟨by simp [a.le], fun j hj hd => by rw [List.getElem?_set_ne (by omega)]; exact a.at_ j hj hd⟩
theorem Fr.get {dk n : Nat} {S S' : Sto} {o : O} (a : Fr dk S S') (h : S[n]? = some o) (hd : n ≠ dk) : S'[n]? = some o := by
  have hn : n < S.length := by
    rcases Nat.lt_or_ge n S.length with z | z
    · exact z
    · rw [List.getElem?_eq_none z] at h; cases h
  rw [a.at_ n hn hd]; exact h
theorem get_lt {n : Nat} {S : Sto} {o : O} (h : S[n]? = some o) : n < S.length := by
  rcases Nat.lt_or_ge n S.length with z | z
  · exact z
  · rw [List.getElem?_eq_none z] at h; cases h
theorem get_new {S : Sto} {o : O} : (S ++ [o])[S.length]? = some o := by simp
theorem get_set {n : Nat} {S : Sto} {o o' : O} (h : S[n]? = some o) : (S.set n o')[n]? = some o' := List.getElem?_set_self (get_lt h)
/-- the deck: a counter, a number, a row of numbers -/
structure Deck (dk fd : Nat) (a : Nat) (S : Sto) : Prop where
  ne : dk ≠ fd
  ex : ∃ (at_ whole : Int) (found : List Int), 0 ≤ at_ ∧ at_ ≤ a ∧ S[dk]? = some (.lst [.int at_, .int whole, .ref fd]) ∧ S[fd]? = some (.lst (found.map D.int)) ∧ found.length ≤ 100000
theorem Deck.mono {dk fd a b : Nat} {S : Sto} (h : Deck dk fd a S) (hab : a ≤ b) : Deck dk fd b S := by
  obtain ⟨x, y, z, h1, h2, h3, h4⟩ := h.ex
  exact ⟨h.ne, x, y, z, h1, by omega, h3, h4⟩
/-- what is younger than the deck changes, or comes -/
theorem Deck.keep {dk fd a : Nat} {S S' : Sto} (h : Deck dk fd a S) (h1 : S'[dk]? = S[dk]?) (h2 : S'[fd]? = S[fd]?) : Deck dk fd a S' := by
  obtain ⟨x, y, z, q1, q2, q3, q4, q5⟩ := h.ex
  exact ⟨h.ne, x, y, z, q1, q2, h1.trans q3, h2.trans q4, q5⟩
theorem Deck.new {dk fd a : Nat} {S : Sto} {o : O} (h : Deck dk fd a S) : Deck dk fd a (S ++ [o]) := by
  obtain ⟨x, y, z, q1, q2, q3, q4, q5⟩ := h.ex
  exact h.keep (List.getElem?_append_left (get_lt q3)) (List.getElem?_append_left (get_lt q4))
theorem Deck.set {dk fd a n : Nat} {S : Sto} {o : O} (h : Deck dk fd a S) (h1 : n ≠ dk) (h2 : n ≠ fd) : Deck dk fd a (S.set n o) :=
  h.keep (List.getElem?_set_ne h1) (List.getElem?_set_ne h2)
theorem Deck.lt {dk fd a : Nat} {S : Sto} (h : Deck dk fd a S) : dk < S.length ∧ fd < S.length := by
  obtain ⟨x, y, z, q1, q2, q3, q4, q5⟩ := h.ex
  exact ⟨get_lt q3, get_lt q4⟩
end Ev
end
section
set_option linter.all false
set_option maxRecDepth 100000
set_option maxHeartbeats 4000000
/-! Sorting, and loops. -/
namespace Ev
open PySem L2
theorem perm_map_inv {α β : Type} {f : α → β} : ∀ {bs : List α} {ys : List β}, ys.Perm (bs.map f) → ∃ ws : List α, ys = ws.map f ∧ ws.Perm bs
  | [], ys, h => ⟨[], by simpa using h, .refl _⟩
  | b :: t, ys, h => by
    have hm : f b ∈ ys := h.mem_iff.mpr (by simp)
    obtain ⟨l1, l2, rfl⟩ := List.append_of_mem hm
    have h2 : (l1 ++ l2).Perm (t.map f) := by
      have h3 : (f b :: (l1 ++ l2)).Perm (f b :: t.map f) := (List.perm_middle.symm).trans h
      exact h3.cons_inv
    obtain ⟨ws, e, hp⟩ := perm_map_inv h2
    obtain ⟨w1, w2, rfl, rfl, rfl⟩ := List.map_eq_append_iff.mp e.symm
    exact ⟨w1 ++ b :: w2, by simp, List.perm_middle.trans (hp.cons b)⟩
theorem sort_gen {β : Type} {S : Sto} {f : β → D} {e : β → PyData} {bs : List β} (he : ∀ b ∈ bs, pyD 60 S (f b) = some (e b)) (hal : ∀ a ∈ bs, ∀ b ∈ bs, PySem.W.alike (e a) (e b) = true) (hso : sortable (bs.map e) = true)
    (hinj : ∀ a b, PySem.W.keyToks (e a) = PySem.W.keyToks (e b) → a = b) (hnd : bs.Nodup) (hlen : bs.length ≤ 100000) :
    ∃ ws : List β, ws.Perm bs ∧ ws.Pairwise (fun a b => PySem.W.dataLt (e a) (e b) = true) ∧ sortD S (bs.map f) = some (.ref S.length, S ++ [.lst (ws.map f)]) := by
  have hT : ∀ b ∈ bs, pyT S (f b) = e b := fun b hb => by unfold pyT; rw [he b hb]; rfl
  have hmap : (bs.map f).map (pyT S) = bs.map e := by
    rw [List.map_map]
    exact List.map_congr_left hT
  obtain ⟨ws, e1, hp⟩ := perm_map_inv (List.mergeSort_perm (bs.map f) (PySem.W.dataLe false (pyT S)))
  have tl := PySem.W.sortLe_total (PyProof.Rows.listOrd PyProof.Rows.itemOrd) false (fun d : D => PySem.W.keyToks (pyT S d))
  have hs := List.pairwise_mergeSort (le := PySem.W.dataLe false (pyT S)) (fun a b c h1 h2 => tl.trans a b c h1 h2) (fun a b => Bool.or_eq_true_iff.mpr (tl.total a b)) (bs.map f)
  refine ⟨ws, hp, ?_, ?_⟩
  · rw [e1, List.pairwise_map] at hs
    have hnd' : ws.Nodup := hp.nodup_iff.mpr hnd
    refine (hs.and hnd').imp_of_mem fun {a b} ha hb h => ?_
    have ha' := hp.mem_iff.mp ha
    have hb' := hp.mem_iff.mp hb
    have h1 : PySem.W.dataLt (e b) (e a) = false := by
      have z : (!PySem.W.dataLt (pyT S (f b)) (pyT S (f a))) = true := h.1
      rw [hT a ha', hT b hb'] at z
      simpa using z
    cases h2 : PySem.W.dataLt (e a) (e b) with
    | true => rfl
    | false => exact absurd (hinj a b (PyProof.Rows.lex_total _ _ h2 h1)) h.2
  · have c2 : ((bs.map f).all fun d => (pyD 60 S d).isSome) = true := by
      simp only [List.all_eq_true, List.mem_map]
      rintro d ⟨b, hb, rfl⟩
      rw [he b hb]; rfl
    have c3 : (((bs.map f).map (pyT S)).all fun p => ((bs.map f).map (pyT S)).all fun q => PySem.W.alike p q) = true := by
      rw [hmap]
      simp only [List.all_eq_true, List.mem_map]
      rintro p ⟨a, ha, rfl⟩ q ⟨b, hb, rfl⟩
      exact hal a ha b hb
    have c4 : sortable ((bs.map f).map (pyT S)) = true := by rw [hmap]; exact hso
    unfold sortD
    rw [if_pos ⟨by rw [List.length_map]; exact hlen, c2, c3, c4⟩, e1]
    exact newL_of (by rw [List.length_map, hp.length_eq]; exact hlen)
/-- a for whose source is no list -/
theorem forL_nil {s : Src} {step : D → Env → Sto → R Fl} {ρ : Env} {S : Sto} (h : s.held = []) : forL s step [] ρ S = some (.nx ρ, S) := by
  unfold forL
  rw [if_pos (by intro p hp; rw [h] at hp; cases hp)]
theorem forL_cons {s : Src} {step : D → Env → Sto → R Fl} {ρ ρ' : Env} {S S' : Sto} {d : D} {r : List D} (h : s.held = []) (e : step d ρ S = some (.nx ρ', S')) : forL s step (d :: r) ρ S = forL s step r ρ' S' := by
  conv => lhs; unfold forL
  rw [if_pos (by intro p hp; rw [h] at hp; cases hp), e]
  rfl
theorem compL_nil {s : Src} {n : Nat} {step : D → Sto → R (Option D)} {S : Sto} (h : s.held = []) : compL s n step [] S = some ((), S) := by
  unfold compL
  rw [if_pos (by intro p hp; rw [h] at hp; cases hp)]
theorem compL_keep {s : Src} {n : Nat} {step : D → Sto → R (Option D)} {S S' : Sto} {d y : D} {r acc : List D} (h : s.held = []) (e : step d S = some (some y, S')) (ha : S'[n]? = some (.lst acc)) (hl : acc.length < 100000) : compL s n step (d :: r) S = compL s n step r (S'.set n (.lst (acc ++ [y]))) := by
  conv => lhs; unfold compL
  rw [if_pos (by intro p hp; rw [h] at hp; cases hp), e, bnd_some]
  simp only [ha, if_pos hl]
theorem compL_drop {s : Src} {n : Nat} {step : D → Sto → R (Option D)} {S S' : Sto} {d : D} {r : List D} (h : s.held = []) (e : step d S = some (none, S')) : compL s n step (d :: r) S = compL s n step r S' := by
  conv => lhs; unfold compL
  rw [if_pos (by intro p hp; rw [h] at hp; cases hp), e, bnd_some]
end Ev
end
section
set_option linter.all false
set_option maxRecDepth 100000
namespace Lw
open PySem L2 Ev
/-- is_number -/
def b_0 : Ts := .cons (.ret (.and (.isi (.var 0) .int) (.not (.isi (.var 0) .bool)))) .nil
/-- is_tuple_of -/
def b_1 : Ts := .cons (.ret (.and (.isi (.var 0) .tuple) (.cmp .Eq (.b1 .len (.var 0)) (.var 1)))) .nil
def c_2_1 : E := .cmp .Lt (.var 1) (.var 2)
/-- is_rising -/
def b_2 : Ts := .cons (.ret (.b1 .all (.comp c_2_1 (.many [1, 2]) [1, 2] (.zip (.var 0) (.sl (.var 0) (.some (.lit (.int 1))) .none)) .none))) .nil
def c_3_1 : E := .cmp .In (.var 1) (.lit (.str "abcdefghijklmnopqrstuvwxyz"))
/-- is_name -/
def b_3 : Ts := .cons (.ife (.or (.not (.isi (.var 0) .str)) (.not (.chain .LtE .LtE (.lit (.int 1)) (.b1 .len (.var 0)) (.lit (.int 8))))) (.cons (.ret (.lit (.bl false))) .nil) (.nil)) (.cons (.ret (.b1 .all (.comp c_3_1 (.one 1) [1] (.seq (.var 0)) .none))) .nil)
/-- is_fan -/
def b_4 : Ts := .cons (.ife (.not (.call 1 (.cons (.var 0) (.cons (.lit (.int 2)) .nil)))) (.cons (.ret (.lit (.bl false))) .nil) (.nil)) (.cons (.asg (.many [1, 2]) (.var 0)) (.cons (.ife (.or (.not (.call 0 (.cons (.var 1) .nil))) (.not (.chain .LtE .LtE (.lit (.int 0)) (.var 1) (.lit (.int 4))))) (.cons (.ret (.lit (.bl false))) .nil) (.nil)) (.cons (.ife (.cmp .Is (.var 2) (.lit .non)) (.cons (.ret (.lit (.bl true))) .nil) (.nil)) (.cons (.ret (.and (.call 0 (.cons (.var 2) .nil)) (.chain .LtE .LtE (.b2 .max (.lit (.int 1)) (.var 1)) (.var 2) (.lit (.int 4))))) .nil))))
/-- is_book -/
def b_5 : Ts := .cons (.ife (.not (.call 1 (.cons (.var 0) (.cons (.lit (.int 3)) .nil)))) (.cons (.ret (.lit (.bl false))) .nil) (.nil)) (.cons (.asg (.many [1, 2, 3]) (.var 0)) (.cons (.ret (.and (.call 6 (.cons (.var 1) .nil)) (.and (.call 7 (.cons (.var 1) (.cons (.var 2) .nil))) (.call 9 (.cons (.var 1) (.cons (.var 3) .nil)))))) .nil))
def c_6_1 : E := .call 3 (.cons (.var 1) .nil)
/-- are_kinds -/
def b_6 : Ts := .cons (.ife (.or (.not (.isi (.var 0) .tuple)) (.not (.chain .LtE .LtE (.lit (.int 1)) (.b1 .len (.var 0)) (.lit (.int 6))))) (.cons (.ret (.lit (.bl false))) .nil) (.nil)) (.cons (.ret (.and (.b1 .all (.comp c_6_1 (.one 1) [1] (.seq (.var 0)) .none)) (.call 2 (.cons (.var 0) .nil)))) .nil)
def c_7_1 : E := .call 8 (.cons (.var 0) (.cons (.var 2) .nil))
/-- are_rules -/
def b_7 : Ts := .cons (.ife (.or (.not (.isi (.var 1) .tuple)) (.cmp .Gt (.b1 .len (.var 1)) (.lit (.int 10)))) (.cons (.ret (.lit (.bl false))) .nil) (.nil)) (.cons (.ret (.and (.b1 .all (.comp c_7_1 (.one 2) [2] (.seq (.var 1)) .none)) (.call 2 (.cons (.var 1) .nil)))) .nil)
/-- is_rule -/
def b_8 : Ts := .cons (.ife (.not (.call 1 (.cons (.var 1) (.cons (.lit (.int 2)) .nil)))) (.cons (.ret (.lit (.bl false))) .nil) (.nil)) (.cons (.asg (.many [2, 3]) (.var 1)) (.cons (.ret (.and (.cmp .In (.var 2) (.var 0)) (.and (.cmp .In (.var 3) (.var 0)) (.cmp .NotEq (.var 2) (.var 3))))) .nil))
def c_9_1 : E := .ix (.var 2) (.lit (.int 0))
def c_9_2 : E := .call 10 (.cons (.var 0) (.cons (.var 2) .nil))
/-- are_doors -/
def b_9 : Ts := .cons (.ife (.or (.not (.isi (.var 1) .tuple)) (.cmp .Gt (.b1 .len (.var 1)) (.lit (.int 6)))) (.cons (.ret (.lit (.bl false))) .nil) (.nil)) (.cons (.ife (.not (.b1 .all (.comp c_9_2 (.one 2) [2] (.seq (.var 1)) .none))) (.cons (.ret (.lit (.bl false))) .nil) (.nil)) (.cons (.ret (.call 2 (.cons (.comp c_9_1 (.one 2) [2] (.seq (.var 1)) .none) .nil))) .nil))
/-- is_door -/
def b_10 : Ts := .cons (.ife (.not (.call 1 (.cons (.var 1) (.cons (.lit (.int 5)) .nil)))) (.cons (.ret (.lit (.bl false))) .nil) (.nil)) (.cons (.asg (.many [2, 3, 4, 5, 6]) (.var 1)) (.cons (.ret (.and (.call 3 (.cons (.var 2) .nil)) (.and (.cmp .In (.var 3) (.var 0)) (.and (.cmp .In (.var 4) (.var 0)) (.and (.call 4 (.cons (.var 5) .nil)) (.call 4 (.cons (.var 6) .nil))))))) .nil))
/-- other_side -/
def b_11 : Ts := .cons (.ret (.ite (.cmp .Eq (.var 0) (.lit (.str "out"))) (.lit (.str "into")) (.lit (.str "out")))) .nil
/-- end_of -/
def b_12 : Ts := .cons (.ret (.ite (.cmp .Eq (.var 1) (.lit (.str "out"))) (.ix (.var 0) (.lit (.int 1))) (.ix (.var 0) (.lit (.int 2))))) .nil
/-- fan_at -/
def b_13 : Ts := .cons (.ret (.ite (.cmp .Eq (.var 1) (.lit (.str "out"))) (.ix (.var 0) (.lit (.int 3))) (.ix (.var 0) (.lit (.int 4))))) .nil
def c_14_1 : E := .cmp .Gt (.var 3) (.lit (.int 0))
def l_14_2 : Ts := .cons (.par 2 3 (.var 3) (.bin .Mod (.var 2) (.var 3))) .nil
/-- reduced -/
def b_14 : Ts := .cons (.par 2 3 (.var 0) (.var 1)) (.cons (.while c_14_1 l_14_2) (.cons (.ret (.tup (.cons (.bin .FloorDiv (.var 0) (.var 2)) (.cons (.bin .FloorDiv (.var 1) (.var 2)) .nil)))) .nil))
def l_15_1 : Ts := .cons (.expr (.meth .extend (.var 1) (.call 16 (.cons (.var 2) .nil)))) .nil
def c_15_2 : E := .tup (.cons (.var 3) (.cons (.var 4) (.cons (.lit (.int 1)) (.cons (.lit (.int 1)) (.cons (.tup (.cons (.lit (.str "rule")) .nil)) .nil)))))
/-- steps_of -/
def b_15 : Ts := .cons (.asg (.one 1) (.comp c_15_2 (.many [3, 4]) [3, 4] (.seq (.ix (.var 0) (.lit (.int 1)))) .none)) (.cons (.for (.one 2) (.seq (.ix (.var 0) (.lit (.int 2)))) l_15_1) (.cons (.ret (.b1 .tuple (.var 1))) .nil))
def l_16_1 : Ts := .cons (.asg (.one 3) (.call 11 (.cons (.var 2) .nil))) (.cons (.asg (.one 4) (.ix (.call 13 (.cons (.var 0) (.cons (.var 2) .nil))) (.lit (.int 0)))) (.cons (.asg (.one 5) (.ix (.call 13 (.cons (.var 0) (.cons (.var 3) .nil))) (.lit (.int 1)))) (.cons (.ife (.and (.cmp .IsNot (.var 5) (.lit .non)) (.cmp .Gt (.var 4) (.lit (.int 0)))) (.cons (.asg (.many [6, 7]) (.call 14 (.cons (.var 5) (.cons (.var 4) .nil)))) (.cons (.expr (.meth .append (.var 1) (.tup (.cons (.call 12 (.cons (.var 0) (.cons (.var 2) .nil))) (.cons (.call 12 (.cons (.var 0) (.cons (.var 3) .nil))) (.cons (.var 6) (.cons (.var 7) (.cons (.tup (.cons (.var 2) (.cons (.ix (.var 0) (.lit (.int 0))) .nil))) .nil)))))))) .nil)) (.nil)) .nil)))
/-- door_steps -/
def b_16 : Ts := .cons (.asg (.one 1) (.lst .nil)) (.cons (.for (.one 2) (.seq (.lit (.tup [.str "out", .str "into"]))) l_16_1) (.cons (.ret (.var 1)) .nil))
/-- _law_mixed -/
def b_17 : Ts := .cons (.asg (.one 2) (.bin .Mod (.bin .Add (.bin .Add (.bin .Mult (.bin .Mod (.var 0) (.lit (.int 2147483629))) (.lit (.int 48271))) (.bin .Mult (.bin .Mult (.bin .Add (.var 1) (.lit (.int 1))) (.bin .Add (.var 1) (.lit (.int 1)))) (.lit (.int 7919)))) (.lit (.int 11))) (.lit (.int 2147483647)))) (.cons (.ret (.bin .FloorDiv (.bin .Mod (.bin .Mult (.var 2) (.var 2)) (.lit (.int 2147483629))) (.lit (.int 64)))) .nil)
def c_18_1 : E := .and (.cmp .Gt (.var 4) (.lit (.int 0))) (.cmp .Lt (.b1 .len (.var 1)) (.lit (.int 3000)))
def l_18_2 : Ts := .cons (.expr (.meth .append (.var 1) (.bin .Mod (.var 4) (.lit (.int 1000000))))) (.cons (.asg (.one 4) (.bin .FloorDiv (.var 4) (.lit (.int 1000000)))) .nil)
def c_18_3 : E := .call 17 (.cons (.var 4) (.cons (.bin .Add (.bin .Mult (.lit (.int 6)) (.var 3)) (.var 5)) .nil))
def l_18_4 : Ts := .cons (.asg (.one 4) (.ix (.var 0) (.var 3))) (.cons (.ife (.cmp .GtE (.var 4) (.bin .Pow (.lit (.int 10)) (.lit (.int 18)))) (.cons (.while c_18_1 l_18_2) .nil) (.cons (.expr (.meth .extend (.var 1) (.comp c_18_3 (.one 5) [5] (.r1 (.lit (.int 6))) .none))) .nil)) (.cons (.asg (.one 2) (.bin .Mod (.bin .Add (.bin .Mult (.var 2) (.lit (.int 31))) (.ix (.var 0) (.var 3))) (.lit (.int 2147483647)))) .nil))
/-- _law_deck -/
def b_18 : Ts := .cons (.asg (.one 1) (.lst .nil)) (.cons (.asg (.one 2) (.b1 .len (.var 0))) (.cons (.for (.one 3) (.r1 (.b2 .min (.b1 .len (.var 0)) (.lit (.int 63)))) l_18_4) (.cons (.ret (.lst (.cons (.lit (.int 0)) (.cons (.var 2) (.cons (.var 1) .nil))))) .nil)))
/-- _law_next -/
def b_19 : Ts := .cons (.asg (.one 2) (.ix (.var 0) (.lit (.int 0)))) (.cons (.setIx (.var 0) (.lit (.int 0)) (.bin .Add (.var 2) (.lit (.int 1)))) (.cons (.ife (.cmp .Lt (.var 2) (.b1 .len (.ix (.var 0) (.lit (.int 2))))) (.cons (.ret (.bin .Mod (.ix (.ix (.var 0) (.lit (.int 2))) (.var 2)) (.var 1))) .nil) (.nil)) (.cons (.ret (.bin .Mod (.call 17 (.cons (.ix (.var 0) (.lit (.int 1))) (.cons (.var 2) .nil))) (.var 1))) .nil)))
/-- _law_pick -/
def b_20 : Ts := .cons (.ret (.ix (.var 1) (.call 19 (.cons (.var 0) (.cons (.b1 .len (.var 1)) .nil))))) .nil
def c_21_1 : E := .call 21 (.cons (.ix (.var 0) (.var 2)) (.cons (.ix (.var 1) (.var 2)) .nil))
/-- _law_same -/
def b_21 : Ts := .cons (.ife (.isi (.var 1) .tuple) (.cons (.ife (.or (.not (.isi (.var 0) .tuple)) (.cmp .NotEq (.b1 .len (.var 0)) (.b1 .len (.var 1)))) (.cons (.ret (.lit (.bl false))) .nil) (.nil)) (.cons (.ret (.b1 .all (.comp c_21_1 (.one 2) [2] (.r1 (.b1 .len (.var 1))) .none))) .nil)) (.nil)) (.cons (.ife (.or (.isi (.var 1) .bool) (.cmp .Is (.var 1) (.lit .non))) (.cons (.ret (.and (.cmp .Eq (.isi (.var 0) .bool) (.isi (.var 1) .bool)) (.and (.cmp .Eq (.cmp .Is (.var 0) (.lit .non)) (.cmp .Is (.var 1) (.lit .non))) (.cmp .Eq (.var 0) (.var 1))))) .nil) (.nil)) (.cons (.ife (.isi (.var 1) .str) (.cons (.ret (.and (.isi (.var 0) .str) (.cmp .Eq (.var 0) (.var 1)))) .nil) (.nil)) (.cons (.ret (.and (.isi (.var 0) .int) (.and (.not (.isi (.var 0) .bool)) (.cmp .Eq (.var 0) (.var 1))))) .nil)))
def l_22_1 : Ts := .cons (.expr (.meth .append (.var 3) (.meth .pop (.var 2) (.call 19 (.cons (.var 0) (.cons (.b1 .len (.var 2)) .nil)))))) .nil
/-- _law_words -/
def b_22 : Ts := .cons (.asg (.one 2) (.lst (.cons (.lit (.str "a")) (.cons (.lit (.str "aa")) (.cons (.lit (.str "ab")) (.cons (.lit (.str "attic")) (.cons (.lit (.str "b")) (.cons (.lit (.str "cellar")) (.cons (.lit (.str "hall")) (.cons (.lit (.str "kitchens")) (.cons (.lit (.str "m")) (.cons (.lit (.str "study")) (.cons (.lit (.str "z")) (.cons (.lit (.str "zz")) .nil)))))))))))))) (.cons (.asg (.one 3) (.lst .nil)) (.cons (.for (.one 4) (.r1 (.var 1)) l_22_1) (.cons (.ret (.b1 .tuple (.b1 .sorted (.var 3)))) .nil)))
/-- _law_fan -/
def b_23 : Ts := .cons (.asg (.one 1) (.ix (.lst (.cons (.lit (.int 0)) (.cons (.lit (.int 1)) (.cons (.lit (.int 1)) (.cons (.call 19 (.cons (.var 0) (.cons (.lit (.int 5)) .nil))) .nil))))) (.call 19 (.cons (.var 0) (.cons (.lit (.int 4)) .nil))))) (.cons (.asg (.one 2) (.ix (.lst (.cons (.lit .non) (.cons (.b2 .max (.lit (.int 1)) (.var 1)) (.cons (.b2 .min (.lit (.int 4)) (.bin .Add (.b2 .max (.lit (.int 1)) (.var 1)) (.call 19 (.cons (.var 0) (.cons (.lit (.int 4)) .nil))))) .nil)))) (.call 19 (.cons (.var 0) (.cons (.lit (.int 3)) .nil))))) (.cons (.ret (.tup (.cons (.var 1) (.cons (.var 2) .nil)))) .nil))
def l_24_1 : Ts := .cons (.asg (.one 5) (.tup (.cons (.call 20 (.cons (.var 0) (.cons (.var 1) .nil))) (.cons (.call 20 (.cons (.var 0) (.cons (.var 1) .nil))) .nil)))) (.cons (.ife (.and (.cmp .NotEq (.ix (.var 5) (.lit (.int 0))) (.ix (.var 5) (.lit (.int 1)))) (.cmp .NotIn (.var 5) (.var 3))) (.cons (.expr (.meth .append (.var 3) (.var 5))) .nil) (.nil)) .nil)
/-- _law_rules -/
def b_24 : Ts := .cons (.asg (.one 3) (.lst .nil)) (.cons (.for (.one 4) (.r1 (.call 19 (.cons (.var 0) (.cons (.bin .Add (.var 2) (.lit (.int 1))) .nil)))) l_24_1) (.cons (.ret (.b1 .tuple (.b1 .sorted (.var 3)))) .nil))
def l_25_1 : Ts := .cons (.expr (.meth .append (.var 4) (.tup (.cons (.var 5) (.cons (.call 20 (.cons (.var 0) (.cons (.var 1) .nil))) (.cons (.call 20 (.cons (.var 0) (.cons (.var 1) .nil))) (.cons (.call 23 (.cons (.var 0) .nil)) (.cons (.call 23 (.cons (.var 0) .nil)) .nil)))))))) .nil
/-- _law_doors -/
def b_25 : Ts := .cons (.asg (.one 3) (.call 22 (.cons (.var 0) (.cons (.call 19 (.cons (.var 0) (.cons (.bin .Add (.var 2) (.lit (.int 1))) .nil))) .nil)))) (.cons (.asg (.one 4) (.lst .nil)) (.cons (.for (.one 5) (.seq (.var 3)) l_25_1) (.cons (.ret (.b1 .tuple (.var 4))) .nil)))
/-- _law_book -/
def b_26 : Ts := .cons (.asg (.one 4) (.call 22 (.cons (.var 0) (.cons (.bin .Add (.lit (.int 1)) (.call 19 (.cons (.var 0) (.cons (.var 1) .nil)))) .nil)))) (.cons (.ret (.tup (.cons (.var 4) (.cons (.call 24 (.cons (.var 0) (.cons (.var 4) (.cons (.var 2) .nil)))) (.cons (.call 25 (.cons (.var 0) (.cons (.var 4) (.cons (.var 3) .nil)))) .nil))))) .nil)
def l_27_1 : Ts := .cons (.ife (.cmp .Gt (.var 4) (.lit (.int 0))) (.cons (.par 3 4 (.var 4) (.bin .Mod (.var 3) (.var 4))) .nil) (.nil)) .nil
/-- _law_share -/
def b_27 : Ts := .cons (.par 3 4 (.var 0) (.var 1)) (.cons (.for (.one 2) (.r1 (.lit (.int 60))) l_27_1) (.cons (.ret (.tup (.cons (.bin .FloorDiv (.var 0) (.var 3)) (.cons (.bin .FloorDiv (.var 1) (.var 3)) .nil)))) .nil))
def l_28_1 : Ts := .cons (.ife (.and (.cmp .Gt (.ix (.var 5) (.lit (.int 0))) (.lit (.int 0))) (.cmp .IsNot (.ix (.var 6) (.lit (.int 1))) (.lit .non))) (.cons (.expr (.meth .append (.var 1) (.bin .Add (.bin .Add (.tup (.cons (.var 3) (.cons (.var 4) .nil))) (.call 27 (.cons (.ix (.var 6) (.lit (.int 1))) (.cons (.ix (.var 5) (.lit (.int 0))) .nil)))) (.tup (.cons (.tup (.cons (.lit (.str "out")) (.cons (.var 2) .nil))) .nil))))) .nil) (.nil)) (.cons (.ife (.and (.cmp .Gt (.ix (.var 6) (.lit (.int 0))) (.lit (.int 0))) (.cmp .IsNot (.ix (.var 5) (.lit (.int 1))) (.lit .non))) (.cons (.expr (.meth .append (.var 1) (.bin .Add (.bin .Add (.tup (.cons (.var 4) (.cons (.var 3) .nil))) (.call 27 (.cons (.ix (.var 5) (.lit (.int 1))) (.cons (.ix (.var 6) (.lit (.int 0))) .nil)))) (.tup (.cons (.tup (.cons (.lit (.str "into")) (.cons (.var 2) .nil))) .nil))))) .nil) (.nil)) .nil)
def c_28_2 : E := .tup (.cons (.var 7) (.cons (.var 8) (.cons (.lit (.int 1)) (.cons (.lit (.int 1)) (.cons (.tup (.cons (.lit (.str "rule")) .nil)) .nil)))))
/-- _law_steps -/
def b_28 : Ts := .cons (.asg (.one 1) (.comp c_28_2 (.many [7, 8]) [7, 8] (.seq (.ix (.var 0) (.lit (.int 1)))) .none)) (.cons (.for (.many [2, 3, 4, 5, 6]) (.seq (.ix (.var 0) (.lit (.int 2)))) l_28_1) (.cons (.ret (.b1 .tuple (.var 1))) .nil))
def q_29_1 : Eo := .some (.and (.cmp .Eq (.bin .Mod (.var 8) (.var 11)) (.lit (.int 0))) (.cmp .Eq (.bin .Mod (.var 9) (.var 11)) (.lit (.int 0))))
def c_29_2 : E := .var 11
def l_29_3 : Ts := .cons (.ife (.or (.cmp .Gt (.b1 .len (.comp c_29_2 (.one 11) [11] (.r2 (.lit (.int 2)) (.lit (.int 5))) q_29_1)) (.lit (.int 0))) (.or (.cmp .Lt (.var 8) (.lit (.int 1))) (.cmp .Lt (.var 9) (.lit (.int 1))))) (.cons (.ret (.lit (.bl false))) .nil) (.nil)) .nil
def l_29_4 : Ts := .cons (.asg (.one 3) (.call 26 (.cons (.var 1) (.cons (.lit (.int 6)) (.cons (.lit (.int 10)) (.cons (.lit (.int 6)) .nil)))))) (.cons (.asg (.one 4) (.b1 .repr (.var 3))) (.cons (.asg (.one 5) (.call 15 (.cons (.var 3) .nil))) (.cons (.ife (.or (.not (.call 21 (.cons (.var 5) (.cons (.call 28 (.cons (.var 3) .nil)) .nil)))) (.not (.call 21 (.cons (.call 15 (.cons (.var 3) .nil)) (.cons (.var 5) .nil))))) (.cons (.ret (.lit (.bl false))) .nil) (.nil)) (.cons (.ife (.or (.cmp .NotEq (.b1 .repr (.var 3)) (.var 4)) (.cmp .IsNot (.call 5 (.cons (.var 3) .nil)) (.lit (.bl true)))) (.cons (.ret (.lit (.bl false))) .nil) (.nil)) (.cons (.for (.many [6, 7, 8, 9, 10]) (.seq (.var 5)) l_29_3) .nil)))))
/-- law -/
def b_29 : Ts := .cons (.asg (.one 1) (.call 18 (.cons (.var 0) .nil))) (.cons (.for (.one 2) (.r1 (.lit (.int 8))) l_29_4) (.cons (.ret (.lit (.bl true))) .nil))
def P : List Fn := [⟨1, 1, b_0⟩, ⟨2, 2, b_1⟩, ⟨3, 1, b_2⟩, ⟨2, 1, b_3⟩, ⟨3, 1, b_4⟩, ⟨4, 1, b_5⟩, ⟨2, 1, b_6⟩, ⟨3, 2, b_7⟩, ⟨4, 2, b_8⟩, ⟨3, 2, b_9⟩, ⟨7, 2, b_10⟩, ⟨1, 1, b_11⟩, ⟨2, 2, b_12⟩, ⟨2, 2, b_13⟩, ⟨4, 2, b_14⟩, ⟨5, 1, b_15⟩, ⟨8, 1, b_16⟩, ⟨3, 2, b_17⟩, ⟨6, 1, b_18⟩, ⟨3, 2, b_19⟩, ⟨2, 2, b_20⟩, ⟨3, 2, b_21⟩, ⟨5, 2, b_22⟩, ⟨3, 1, b_23⟩, ⟨6, 3, b_24⟩, ⟨6, 3, b_25⟩, ⟨5, 4, b_26⟩, ⟨5, 2, b_27⟩, ⟨9, 1, b_28⟩, ⟨12, 1, b_29⟩]
end Lw
end
section
set_option linter.all false
set_option maxRecDepth 100000
set_option maxHeartbeats 4000000
namespace Lw
open PySem L2 Ev
local macro_rules | `(tactic| walk_at "ev") => `(tactic| simp -implicitDefEqProofs (discharger := first | omega | assumption | decide) only [evTs, evT, evE, evEs, evC, evO, List.map_cons, List.map_nil, List.getElem?_cons_zero, List.getElem?_cons_succ, List.set_cons_zero, List.set_cons_succ, bnd_some, bnd_none, binD_add, binD_sub, binD_mulr, binD_fdiv, binD_mod, set_one, Option.map_some, cmp_lt, cmp_gt, cmp_le, cmp_ge, cmp_eqi, tru_bl, len_tup, List.length_cons, List.length_nil, b2_max, b2_min, fin_ret, fin_nx, atI_zero, atI_one, atI_two])
variable {wf k : Nat} {S : Sto}
def mixed (c a : Int) : Int :=
  (c % 2147483629 * 48271 + (a + 1) * (a + 1) * 7919 + 11) % 2147483647 * ((c % 2147483629 * 48271 + (a + 1) * (a + 1) * 7919 + 11) % 2147483647) % 2147483629 / 64
theorem run_mixed (c a : Int) (h : -(2 ^ 30) < a ∧ a < 2 ^ 30) : callF P wf (k + 1) 17 [.int c, .int a] S = some (.int (mixed c a), S) := by
  rw [call_fin (b := b_17) (ρ := [some (.int c), some (.int a), none]) rfl rfl rfl, b_17]
  walk_at "ev"
  rfl
theorem run_next {dk fd a : Nat} {m : Int} (hm : 0 < m) (ha : a < 1000000) (h : Deck dk fd a S) : ∃ r S', callF P wf (k + 2) 19 [.ref dk, .int m] S = some (.int r, S') ∧ 0 ≤ r ∧ r < m ∧ Deck dk fd (a + 1) S' ∧ Fr dk S S' := by
  obtain ⟨at_, whole, found, h1, h2, h3, h4, h5⟩ := h.ex
  have i1 := itemsAt_lst h3
  have s1 : (S.set dk (.lst [.int (at_ + 1), .int whole, .ref fd]))[dk]? = some (.lst [.int (at_ + 1), .int whole, .ref fd]) := get_set h3
  have s2 : (S.set dk (.lst [.int (at_ + 1), .int whole, .ref fd]))[fd]? = some (.lst (found.map D.int)) := by rw [List.getElem?_set_ne h.ne]; exact h4
  have i2 := itemsAt_lst s1
  have i3 := itemsAt_lst s2
  have hd : Deck dk fd (a + 1) (S.set dk (.lst [.int (at_ + 1), .int whole, .ref fd])) := ⟨h.ne, at_ + 1, whole, found, by omega, by omega, s1, s2, h5⟩
  have hx : setIxD S [some (.ref dk), some (.int m), some (.int at_)] (.ref dk) (.int 0) (.int (at_ + 1)) = some (.nx [some (.ref dk), some (.int m), some (.int at_)], S.set dk (.lst [.int (at_ + 1), .int whole, .ref fd])) := setIx_of (k := 0) h3 rfl
  rw [call_fin (b := b_19) (ρ := [some (.ref dk), some (.int m), none]) rfl rfl rfl, b_19]
  walk_at "ev"
  rw [ixD_ref i1 atI_zero]
  walk_at "ev"
  rw [hx]
  walk_at "ev"
  rw [ixD_ref i2 atI_two]
  walk_at "ev"
  rw [len_ref i3]
  walk_at "ev"
  rcases Decidable.em (at_ < ((found.map D.int).length : Int)) with hc | hc
  · rw [decide_eq_true hc, if_pos rfl]
    rw [List.length_map] at hc
    have hg : (found.map D.int)[at_.toNat]? = some (.int (found[at_.toNat]'(by omega))) := by
      rw [List.getElem?_map, List.getElem?_eq_getElem (by omega)]; rfl
    rw [ixD_ref i2 atI_two]
    walk_at "ev"
    rw [ixD_ref i3 (atI_nat' hg (by omega))]
    walk_at "ev"
    exact ⟨_, _, rfl, Int.emod_nonneg _ (by omega), Int.emod_lt_of_pos _ hm, hd, Fr.set⟩
  · rw [decide_eq_false hc, if_neg Bool.false_ne_true]
    walk_at "ev"
    rw [ixD_ref i2 atI_one]
    walk_at "ev"
    rw [run_mixed _ _ (by omega)]
    walk_at "ev"
    exact ⟨_, _, rfl, Int.emod_nonneg _ (by omega), Int.emod_lt_of_pos _ hm, hd, Fr.set⟩

theorem run_pick {dk fd a : Nat} {xs : List D} (hx : xs ≠ []) (ha : a < 1000000) (h : Deck dk fd a S) : ∃ x S', callF P wf (k + 3) 20 [.ref dk, .tup xs] S = some (x, S') ∧ x ∈ xs ∧ Deck dk fd (a + 1) S' ∧ Fr dk S S' := by
  have hl : 0 < xs.length := List.length_pos_iff.mpr hx
  obtain ⟨r, S', e, h1, h2, h3, h4⟩ := run_next (wf := wf) (k := k) (m := (xs.length : Int)) (by omega) ha h
  rw [call_fin (b := b_20) (ρ := [some (.ref dk), some (.tup xs)]) rfl rfl rfl, b_20]
  walk_at "ev"
  rw [e]
  walk_at "ev"
  have hg : xs[r.toNat]? = some (xs[r.toNat]'(by omega)) := List.getElem?_eq_getElem (by omega)
  rw [ixD_tup (atI_nat' hg (by omega))]
  walk_at "ev"
  exact ⟨_, _, rfl, List.getElem_mem _, h3, h4⟩
def HiOk (lo : Int) (hi : D) : Prop := hi = .non ∨ ∃ h, hi = .int h ∧ 1 ≤ h ∧ lo ≤ h ∧ h ≤ 4
theorem run_fan {dk fd a : Nat} (ha : a < 999990) (h : Deck dk fd a S) : ∃ lo hi S', callF P wf (k + 3) 23 [.ref dk] S = some (.tup [.int lo, hi], S') ∧ 0 ≤ lo ∧ lo ≤ 4 ∧ HiOk lo hi ∧ Deck dk fd (a + 4) S' ∧ Fr dk S S' := by
  obtain ⟨r1, S1, e1, a1, b1, d1, f1⟩ := run_next (wf := wf) (k := k) (m := 5) (by omega) (by omega) h
  have d1' : Deck dk fd (a + 1) (S1 ++ [.lst [.int 0, .int 1, .int 1, .int r1]]) := d1.new
  obtain ⟨r2, S2, e2, a2, b2, d2, f2⟩ := run_next (wf := wf) (k := k) (m := 4) (by omega) (by omega) d1'
  have g1 : S2[S1.length]? = some (.lst [.int 0, .int 1, .int 1, .int r1]) := f2.get get_new (by have := d1.lt; omega)
  have t1 : ∃ lo : Int, atI ([.int 0, .int 1, .int 1, .int r1] : List D) r2 = some (.int lo) ∧ 0 ≤ lo ∧ lo ≤ 4 := by
    have : r2 = 0 ∨ r2 = 1 ∨ r2 = 2 ∨ r2 = 3 := by omega
    rcases this with rfl | rfl | rfl | rfl
    · exact ⟨0, atI_zero, by omega, by omega⟩
    · exact ⟨1, atI_one, by omega, by omega⟩
    · exact ⟨1, atI_two, by omega, by omega⟩
    · exact ⟨r1, atI_nat' (k := 3) rfl rfl, by omega, by omega⟩
  obtain ⟨lo, t1, l1, l2⟩ := t1
  obtain ⟨r3, S3, e3, a3, b3, d3, f3⟩ := run_next (wf := wf) (k := k) (m := 4) (by omega) (by omega) d2
  generalize hmx : (if lo > 1 then lo else 1) = mx at *
  have hm1 : 1 ≤ mx ∧ lo ≤ mx ∧ mx ≤ 4 := by
    by_cases hc : lo > 1
    · rw [if_pos hc] at hmx; omega
    · rw [if_neg hc] at hmx; omega
  generalize hmn : (if mx + r3 < 4 then mx + r3 else 4) = mn at *
  have hm2 : 1 ≤ mn ∧ lo ≤ mn ∧ mn ≤ 4 := by
    by_cases hc : mx + r3 < 4
    · rw [if_pos hc] at hmn; omega
    · rw [if_neg hc] at hmn; omega
  have d3' : Deck dk fd (a + 1 + 1 + 1) (S3 ++ [.lst [.non, .int mx, .int mn]]) := d3.new
  obtain ⟨r4, S4, e4, a4, b4, d4, f4⟩ := run_next (wf := wf) (k := k) (m := 3) (by omega) (by omega) d3'
  have g2 : S4[S3.length]? = some (.lst [.non, .int mx, .int mn]) := f4.get get_new (by have := d3.lt; omega)
  have t2 : ∃ hi : D, atI ([.non, .int mx, .int mn] : List D) r4 = some hi ∧ HiOk lo hi := by
    have : r4 = 0 ∨ r4 = 1 ∨ r4 = 2 := by omega
    rcases this with rfl | rfl | rfl
    · exact ⟨.non, atI_zero, .inl rfl⟩
    · exact ⟨.int mx, atI_one, .inr ⟨mx, rfl, hm1⟩⟩
    · exact ⟨.int mn, atI_two, .inr ⟨mn, rfl, hm2⟩⟩
  obtain ⟨hi, t2, l3⟩ := t2
  rw [call_fin (b := b_23) (ρ := [some (.ref dk), none, none]) rfl rfl rfl, b_23]
  walk_at "ev"
  rw [e1]
  walk_at "ev"
  rw [newL_of (by simp)]
  walk_at "ev"
  rw [e2]
  walk_at "ev"
  rw [ixD_ref (itemsAt_lst g1) t1]
  walk_at "ev"
  rw [hmx, e3]
  walk_at "ev"
  rw [hmn, newL_of (by simp)]
  walk_at "ev"
  rw [e4]
  walk_at "ev"
  rw [ixD_ref (itemsAt_lst g2) t2]
  walk_at "ev"
  rw [newT_of (by simp)]
  walk_at "ev"
  exact ⟨lo, hi, S4, rfl, l1, l2, l3, d4, (f1.trans Fr.new).trans (f2.trans (f3.trans (Fr.new.trans f4)))⟩
end Lw
end
section
set_option linter.all false
set_option maxRecDepth 100000
set_option maxHeartbeats 4000000
namespace Lw
open PySem L2 Ev
local macro_rules | `(tactic| walk_at "ev") => `(tactic| simp -implicitDefEqProofs (discharger := first | omega | assumption | decide) only [evTs, evT, evE, evEs, evC, evO, evI, List.map_cons, List.map_nil, List.getElem?_cons_zero, List.getElem?_cons_succ, List.set_cons_zero, List.set_cons_succ, bnd_some, bnd_none, binD_add, binD_sub, binD_mulr, binD_fdiv, binD_mod, set_one, Option.map_some, cmp_lt, cmp_gt, cmp_le, cmp_ge, cmp_eqi, tru_bl, len_tup, List.length_cons, List.length_nil, b2_max, b2_min, fin_ret, fin_nx, atI_zero, atI_one, atI_two])
variable {wf k : Nat} {S : Sto}
def POOL : List Str := ["a", "aa", "ab", "attic", "b", "cellar", "hall", "kitchens", "m", "study", "z", "zz"]
def tx (l : List Str) : List D := l.map D.str
theorem eraseIdx_map {α β : Type} {f : α → β} : ∀ {l : List α} {n : Nat}, (l.map f).eraseIdx n = (l.eraseIdx n).map f
  | [], _ => rfl
  | _ :: _, 0 => rfl
  | a :: l, n + 1 => by
    show f a :: (l.map f).eraseIdx n = f a :: (l.eraseIdx n).map f
    rw [eraseIdx_map]
theorem erase_perm {α : Type} : ∀ {l : List α} {n : Nat} {x : α}, l[n]? = some x → (x :: l.eraseIdx n).Perm l
  | [], _, _, h => by simp at h
  | a :: l, 0, x, h => by simp at h; subst h; exact .refl _
  | a :: l, n + 1, x, h => by
    show (x :: a :: l.eraseIdx n).Perm (a :: l)
    exact (List.Perm.swap a x _).trans ((erase_perm (by simpa using h)).cons a)
abbrev wBody : Ts := l_22_1
theorem words_loop {dk fd p q : Nat} {m : D} {s : Src} (hs : s.held = []) (hp : p ≠ dk) (hp' : p ≠ fd) (hq : q ≠ dk) (hq' : q ≠ fd) (hpq : p ≠ q) : ∀ (r : List D) (pl fl : List Str) (a : Nat) (S : Sto) (v : Option D), (pl ++ fl).Perm POOL → r.length ≤ pl.length → a + r.length < 999999 → Deck dk fd a S → S[p]? = some (.lst (tx pl)) → S[q]? = some (.lst (tx fl)) →
    ∃ (pl' fl' : List Str) (S' : Sto) (v' : Option D), forL s (stepF (.one 4) (evTs (callF P wf (k + 2)) wf wBody)) r [some (.ref dk), some m, some (.ref p), some (.ref q), v] S = some (.nx [some (.ref dk), some m, some (.ref p), some (.ref q), v'], S') ∧ (pl' ++ fl').Perm POOL ∧ fl'.length = fl.length + r.length ∧ Deck dk fd (a + r.length) S' ∧ S'[q]? = some (.lst (tx fl')) ∧
      ∀ S0, Fr dk S0 S → S0.length ≤ p → S0.length ≤ q → Fr dk S0 S' := by
  intro r
  induction r with
  | nil => intro pl fl a S v h1 _ _ h4 h5 h6; exact ⟨pl, fl, S, v, forL_nil hs, h1, rfl, h4, h6, fun _ z _ _ => z⟩
  | cons d r ih =>
    intro pl fl a S v h1 h2 h3 h4 h5 h6
    simp only [List.length_cons] at h2 h3
    have l0 : (tx pl).length = pl.length := by simp [tx]
    obtain ⟨x, S1, e1, x1, x2, d1, f1⟩ := run_next (wf := wf) (k := k) (m := ((tx pl).length : Int)) (by rw [l0]; omega) (by omega) h4
    rw [l0] at x2
    have g5 := f1.get h5 hp
    have g6 := f1.get h6 hq
    have hx : pl[x.toNat]? = some (pl[x.toNat]'(by omega)) := List.getElem?_eq_getElem (by omega)
    generalize pl[x.toNat]'(by omega) = w at hx
    have hx' : (tx pl)[x.toNat]? = some (.str w) := by unfold tx; rw [List.getElem?_map, hx]; rfl
    have len12 : pl.length + fl.length = 12 := by have := h1.length_eq; simpa [POOL] using this
    have s2 : (S1.set p (.lst (tx (pl.eraseIdx x.toNat))))[q]? = some (.lst (tx fl)) := by rw [List.getElem?_set_ne hpq]; exact g6
    have s3 : ((S1.set p (.lst (tx (pl.eraseIdx x.toNat)))).set q (.lst (tx (fl ++ [w]))))[p]? = some (.lst (tx (pl.eraseIdx x.toNat))) := by
      rw [List.getElem?_set_ne hpq.symm]; exact get_set g5
    have step : stepF (.one 4) (evTs (callF P wf (k + 2)) wf wBody) d [some (.ref dk), some m, some (.ref p), some (.ref q), v] S = some (.nx [some (.ref dk), some m, some (.ref p), some (.ref q), some d], (S1.set p (.lst (tx (pl.eraseIdx x.toNat)))).set q (.lst (tx (fl ++ [w])))) := by
      unfold stepF wBody l_22_1
      walk_at "ev"
      rw [if_pos (isL_of (itemsAt_lst h6)), if_pos (isL_of (itemsAt_lst h5)), len_ref (itemsAt_lst h5)]
      walk_at "ev"
      rw [e1]
      walk_at "ev"
      rw [m2_pop g5 hx' (by omega) (by omega)]
      walk_at "ev"
      have e9 : (tx pl).eraseIdx x.toNat = tx (pl.eraseIdx x.toNat) := eraseIdx_map
      rw [e9, m2_append s2 (by simp [tx]; omega)]
      walk_at "ev"
      simp [tx]
    rw [forL_cons hs step]
    have hperm : (pl.eraseIdx x.toNat ++ (fl ++ [w])).Perm POOL := by
      refine List.Perm.trans ?_ h1
      have z := erase_perm hx
      refine List.Perm.trans ?_ (z.append_right fl)
      rw [← List.append_assoc]
      exact (List.perm_append_comm (l₁ := pl.eraseIdx x.toNat ++ fl) (l₂ := [w]))
    have dk2 : Deck dk fd (a + 1) ((S1.set p (.lst (tx (pl.eraseIdx x.toNat)))).set q (.lst (tx (fl ++ [w])))) := (d1.set hp hp').set hq hq'
    obtain ⟨pl', fl', S', v', q1, q2, q3, q4, q5, q6⟩ := ih (pl.eraseIdx x.toNat) (fl ++ [w]) (a + 1) _ (some d) hperm (by rw [List.length_eraseIdx]; split <;> omega) (by omega) dk2 s3 (get_set s2)
    refine ⟨pl', fl', S', v', q1, q2, by rw [q3]; simp; omega, by rw [List.length_cons]; exact q4.mono (by omega), q5, fun S0 z z1 z2 => q6 S0 (((z.trans f1).setNew z1).setNew z2) z1 z2⟩

abbrev LtS (x y : Str) : Prop := PySem.W.dataLt (.str x) (.str y) = true
theorem pool_ok : ∀ s ∈ POOL, PyData.strOk s = true := by decide +kernel
theorem pool_nd : POOL.Nodup := by decide +kernel
theorem key_str {x y : Str} (h : PySem.W.keyToks (.str x) = PySem.W.keyToks (.str y)) : x = y := by
  simp only [PySem.W.keyToks, List.cons.injEq, and_true] at h
  exact PySem.W.str_of_cps (Sum.inr.inj h)
theorem sort_tx {fl : List Str} (hok : ∀ s ∈ fl, PyData.strOk s = true) (hnd : fl.Nodup) (hl : fl.length ≤ 100000) : ∃ ws : List Str, ws.Perm fl ∧ ws.Pairwise LtS ∧ sortD S (tx fl) = some (.ref S.length, S ++ [.lst (tx ws)]) := by
  refine sort_gen (e := fun s => .str s) (fun b hb => by simp only [pyD, hok b hb, if_true]) (fun _ _ _ _ => rfl) ?_ (fun a b h => key_str h) hnd hl
  unfold sortable
  rw [Bool.or_eq_true_iff]
  right
  rw [List.all_eq_true]
  intro d hd
  obtain ⟨b, _, rfl⟩ := List.mem_map.mp hd
  rfl
structure Names (n : Nat) (ws : List Str) : Prop where
  len : ws.length = n
  up : ws.Pairwise LtS
  pool : ∀ s ∈ ws, s ∈ POOL
theorem run_words {dk fd a n : Nat} (hn : n ≤ 12) (ha : a < 999900) (h : Deck dk fd a S) : ∃ ws S', callF P wf (k + 3) 22 [.ref dk, .int n] S = some (.tup (tx ws), S') ∧ Names n ws ∧ Deck dk fd (a + n) S' ∧ Fr dk S S' := by
  have hlt := h.lt
  obtain ⟨S1, hS1⟩ : ∃ S1 : Sto, S1 = S ++ [.lst (tx POOL)] := ⟨_, rfl⟩
  obtain ⟨S2, hS2⟩ : ∃ S2 : Sto, S2 = S1 ++ [.lst (tx [])] := ⟨_, rfl⟩
  have l1 : S1.length = S.length + 1 := by rw [hS1]; simp
  have g1 : S2[S.length]? = some (.lst (tx POOL)) := by
    rw [hS2, List.getElem?_append_left (by omega), hS1]; exact get_new
  have g2 : S2[S.length + 1]? = some (.lst (tx [])) := by rw [← l1, hS2]; exact get_new
  have d2 : Deck dk fd a S2 := by rw [hS2, hS1]; exact h.new.new
  have e0 : newL S [.str "a", .str "aa", .str "ab", .str "attic", .str "b", .str "cellar", .str "hall", .str "kitchens", .str "m", .str "study", .str "z", .str "zz"] = some (.ref S.length, S1) := by
    rw [hS1]; exact newL_of (xs := tx POOL) (Nat.le_trans (show _ ≤ 12 from Nat.le_refl _) (by omega))
  have e00 : newL S1 [] = some (.ref (S.length + 1), S2) := by rw [hS2, ← l1]; exact newL_of (by simp)
  have fS2 : Fr dk S S2 := by rw [hS2, hS1]; exact Fr.new.trans Fr.new
  have hr : (rangeD 0 ((n : Int)).toNat).length = n := by simp [rangeD]
  obtain ⟨pl, fl, S3, v, e, h1, h2, h3, h4, h5⟩ := words_loop (wf := wf) (k := k) (m := .int n) (s := ⟨rangeD 0 ((n : Int)).toNat, []⟩) rfl (p := S.length) (q := S.length + 1) (dk := dk) (fd := fd) (by omega) (by omega) (by omega) (by omega) (by omega) (rangeD 0 ((n : Int)).toNat) POOL [] a S2 none (by simp) (by rw [hr]; exact hn) (by rw [hr]; omega) d2 g1 g2
  rw [hr] at h2 h3
  have hnd : fl.Nodup := (List.nodup_append.mp (h1.nodup_iff.mpr pool_nd)).2.1
  have hpool : ∀ s ∈ fl, s ∈ POOL := fun s hs => h1.mem_iff.mp (by simp [hs])
  obtain ⟨ws, w1, w2, w3⟩ := sort_tx (S := S3) (fl := fl) (fun s hs => pool_ok s (hpool s hs)) hnd (by simp at h2; omega)
  have f3 : Fr dk S S3 := h5 S fS2 (Nat.le_refl _) (by omega)
  refine ⟨ws, S3 ++ [.lst (tx ws)], ?_, ⟨by rw [w1.length_eq, h2]; simp, w2, fun s hs => hpool s (w1.mem_iff.mp hs)⟩, h3.new, f3.trans Fr.new⟩
  rw [call_fin (b := b_22) (ρ := [some (.ref dk), some (.int n), none, none, none]) rfl rfl rfl, b_22]
  walk_at "ev"
  rw [e0]
  walk_at "ev"
  rw [e00]
  walk_at "ev"
  rw [rng1_of (by omega) (by omega)]
  walk_at "ev"
  rw [e]
  walk_at "ev"
  rw [sorted_ref (itemsAt_lst h4), w3]
  walk_at "ev"
  rw [tuple_ref (itemsAt_lst get_new)]
  walk_at "ev"
end Lw
end
section
set_option linter.all false
set_option maxRecDepth 100000
set_option maxHeartbeats 4000000
namespace Lw
open PySem L2 Ev
local macro_rules | `(tactic| walk_at "ev") => `(tactic| simp -implicitDefEqProofs (discharger := first | omega | assumption | decide) only [evTs, evT, evE, evEs, evC, evO, evI, List.map_cons, List.map_nil, List.getElem?_cons_zero, List.getElem?_cons_succ, List.set_cons_zero, List.set_cons_succ, bnd_some, bnd_none, binD_add, binD_sub, binD_mulr, binD_fdiv, binD_mod, set_one, Option.map_some, cmp_lt, cmp_gt, cmp_le, cmp_ge, cmp_eqi, tru_bl, len_tup, List.length_cons, List.length_nil, b2_max, b2_min, fin_ret, fin_nx, atI_zero, atI_one, atI_two])
variable {wf k : Nat} {S : Sto}
def pr (p : Str × Str) : D := .tup [.str p.1, .str p.2]
def okP (p : Str × Str) : Prop := PyData.strOk p.1 = true ∧ PyData.strOk p.2 = true
theorem py_str {n : Nat} {x : Str} (h : PyData.strOk x = true) : pyD n S (.str x) = some (.str x) := by
  cases n <;> simp only [pyD, h, if_true]
theorem py_pr {n : Nat} {p : Str × Str} (h : okP p) : pyD (n + 1) S (pr p) = some (.tuple [.str p.1, .str p.2]) := by
  simp only [pr, pyD, List.map_cons, List.map_nil, py_str h.1, py_str h.2, optAll, Option.map_some]
theorem cmp_ne_str {x y : Str} (hx : PyData.strOk x = true) (hy : PyData.strOk y = true) : cmpD S .NotEq (.str x) (.str y) = some (!(x == y)) := by
  simp only [cmpD, eqD, py_str hx, py_str hy, PyData.eqv, Option.map_some]
theorem eqv_pr {p q : Str × Str} : PyData.eqv (.tuple [.str p.1, .str p.2]) (.tuple [.str q.1, .str q.2]) = decide (p = q) := by
  simp only [PyData.eqv, PyData.eqvAll, Bool.and_true]
  rw [Bool.eq_iff_iff]
  simp only [Bool.and_eq_true, beq_iff_eq, decide_eq_true_eq]
  constructor
  · rintro ⟨h1, h2⟩; exact Prod.ext h1 h2
  · rintro rfl; exact ⟨rfl, rfl⟩
theorem cmp_notIn {q : Nat} {p : Str × Str} {fl : List (Str × Str)} (hp : okP p) (hf : ∀ x ∈ fl, okP x) (h : S[q]? = some (.lst (fl.map pr))) : cmpD S .NotIn (pr p) (.ref q) = some (!decide (p ∈ fl)) := by
  have e : pyD 60 S (.ref q) = some (.list (fl.map fun p => .tuple [.str p.1, .str p.2])) := by
    simp only [pyD, itemsAt_lst h, Option.bind_some]
    rw [List.map_map, optAll_map (g := fun p : Str × Str => .tuple [.str p.1, .str p.2]) (fun x hx => py_pr (hf x hx))]
    rfl
  have e2 : inD S (pr p) (.ref q) = some ((fl.map fun p => (.tuple [.str p.1, .str p.2] : PyData)).any fun z => PyData.eqv z (.tuple [.str p.1, .str p.2])) := by
    have z := py_pr (S := S) (n := 59) hp
    unfold inD
    simp only [pr] at z ⊢
    rw [z, e]
  simp only [cmpD, e2, Option.map_some]
  congr 2
  rw [List.any_map, Bool.eq_iff_iff]
  simp only [List.any_eq_true, Function.comp, eqv_pr, decide_eq_true_eq]
  exact ⟨fun ⟨x, h1, h2⟩ => h2 ▸ h1, fun h => ⟨p, h, rfl⟩⟩
theorem key_pr {p q : Str × Str} (h : PySem.W.keyToks (.tuple [.str p.1, .str p.2]) = PySem.W.keyToks (.tuple [.str q.1, .str q.2])) : p = q := by
  simp only [PySem.W.keyToks, PySem.W.keyToksAll, List.cons_append, List.nil_append, List.cons.injEq, and_true, true_and] at h
  exact Prod.ext (PySem.W.str_of_cps (Sum.inr.inj h.1)) (PySem.W.str_of_cps (Sum.inr.inj h.2))
abbrev LtP (p q : Str × Str) : Prop := PySem.W.dataLt (.tuple [.str p.1, .str p.2]) (.tuple [.str q.1, .str q.2]) = true
theorem sort_pr {fl : List (Str × Str)} (hok : ∀ s ∈ fl, okP s) (hnd : fl.Nodup) (hl : fl.length ≤ 100000) : ∃ ws : List (Str × Str), ws.Perm fl ∧ ws.Pairwise LtP ∧ sortD S (fl.map pr) = some (.ref S.length, S ++ [.lst (ws.map pr)]) := by
  refine sort_gen (e := fun p : Str × Str => .tuple [.str p.1, .str p.2]) (fun b hb => py_pr (hok b hb)) (fun _ _ _ _ => rfl) ?_ (fun a b h => key_pr h) hnd hl
  unfold sortable
  rw [Bool.or_eq_true_iff]
  left
  rw [List.all_eq_true]
  intro d hd
  obtain ⟨b, _, rfl⟩ := List.mem_map.mp hd
  rfl
/-- rules among the kinds: pairs of two unlike ones, none twice -/
structure Ruls (ks : List Str) (rs : List (Str × Str)) : Prop where
  nd : rs.Nodup
  mem : ∀ p ∈ rs, p.1 ∈ ks ∧ p.2 ∈ ks ∧ p.1 ≠ p.2
theorem rules_loop {dk fd q : Nat} {lim : D} {s : Src} {ks : List Str} (hk : ks ≠ []) (hks : ∀ x ∈ ks, PyData.strOk x = true) (hs : s.held = []) (hq : q ≠ dk) (hq' : q ≠ fd) : ∀ (r : List D) (fl : List (Str × Str)) (a : Nat) (S : Sto) (v w : Option D), Ruls ks fl → fl.length + r.length < 100000 → a + 2 * r.length < 999999 → Deck dk fd a S → S[q]? = some (.lst (fl.map pr)) →
    ∃ (fl' : List (Str × Str)) (S' : Sto) (v' w' : Option D), forL s (stepF (.one 4) (evTs (callF P wf (k + 3)) wf l_24_1)) r [some (.ref dk), some (.tup (tx ks)), some lim, some (.ref q), v, w] S = some (.nx [some (.ref dk), some (.tup (tx ks)), some lim, some (.ref q), v', w'], S') ∧ Ruls ks fl' ∧ fl'.length ≤ fl.length + r.length ∧ Deck dk fd (a + 2 * r.length) S' ∧ S'[q]? = some (.lst (fl'.map pr)) ∧
      ∀ S0, Fr dk S0 S → S0.length ≤ q → Fr dk S0 S' := by
  intro r
  induction r with
  | nil => intro fl a S v w h1 _ _ h4 h5; exact ⟨fl, S, v, w, forL_nil hs, h1, Nat.le_refl _, h4, h5, fun _ z _ => z⟩
  | cons d r ih =>
    intro fl a S v w h1 h2 h3 h4 h5
    simp only [List.length_cons] at h2 h3
    have hne : tx ks ≠ [] := by simpa [tx] using hk
    obtain ⟨x, S1, e1, m1, d1, f1⟩ := run_pick (wf := wf) (k := k) hne (by omega) h4
    obtain ⟨y, S2, e2, m2, d2, f2⟩ := run_pick (wf := wf) (k := k) hne (by omega) d1
    obtain ⟨x, hx, rfl⟩ := List.mem_map.mp m1
    obtain ⟨y, hy, rfl⟩ := List.mem_map.mp m2
    have g5 : S2[q]? = some (.lst (fl.map pr)) := f2.get (f1.get h5 hq) hq
    have okxy : okP (x, y) := ⟨hks x hx, hks y hy⟩
    have okfl : ∀ p ∈ fl, okP p := fun p hp => ⟨hks _ (h1.mem p hp).1, hks _ (h1.mem p hp).2.1⟩
    -- the turn, whether the pair is kept or not
    have pre : stepF (.one 4) (evTs (callF P wf (k + 3)) wf l_24_1) d [some (.ref dk), some (.tup (tx ks)), some lim, some (.ref q), v, w] S =
        if (!(x == y) && !decide ((x, y) ∈ fl)) = true then some (.nx [some (.ref dk), some (.tup (tx ks)), some lim, some (.ref q), some d, some (pr (x, y))], S2.set q (.lst ((fl ++ [(x, y)]).map pr))) else some (.nx [some (.ref dk), some (.tup (tx ks)), some lim, some (.ref q), some d, some (pr (x, y))], S2) := by
      unfold stepF l_24_1
      try walk_at "ev"
      rw [e1]
      try walk_at "ev"
      rw [e2]
      try walk_at "ev"
      rw [newT_of (by simp)]
      try walk_at "ev"
      rw [ixD_tup atI_zero]
      try walk_at "ev"
      rw [ixD_tup atI_one]
      try walk_at "ev"
      rw [cmp_ne_str okxy.1 okxy.2]
      try walk_at "ev"
      cases hxy : x == y with
      | true =>
        simp only [Bool.not_true, Bool.false_and, Bool.false_eq_true, if_false]
        try walk_at "ev"
        simp only [Bool.false_eq_true, if_false, bnd_some, pr]
      | false =>
        simp only [Bool.not_false, Bool.true_and]
        try walk_at "ev"
        have z := cmp_notIn (S := S2) okxy okfl g5
        simp only [pr] at z
        rw [z]
        try walk_at "ev"
        cases hin : decide ((x, y) ∈ fl) with
        | true =>
          simp only [Bool.not_true, Bool.false_eq_true, if_false, bnd_some, pr]
        | false =>
          simp only [Bool.not_false, if_true]
          rw [isL_of (itemsAt_lst g5)]
          simp only [if_true]
          rw [m2_append g5 (by rw [List.length_map]; omega)]
          try walk_at "ev"
          simp only [List.map_append, List.map_cons, List.map_nil, pr]
    by_cases hc : (!(x == y) && !decide ((x, y) ∈ fl)) = true
    · rw [if_pos hc] at pre
      rw [forL_cons hs pre]
      simp only [Bool.and_eq_true, Bool.not_eq_true', beq_eq_false_iff_ne, decide_eq_false_iff_not] at hc
      have r2 : Ruls ks (fl ++ [(x, y)]) := ⟨by
        rw [List.nodup_append]
        refine ⟨h1.nd, by simp, fun a ha b hb e => ?_⟩
        rw [List.mem_singleton] at hb
        exact hc.2 (by rw [← hb, ← e]; exact ha), fun p hp => by
        rcases List.mem_append.mp hp with hp | hp
        · exact h1.mem p hp
        · rw [List.mem_singleton] at hp; subst hp; exact ⟨hx, hy, hc.1⟩⟩
      obtain ⟨fl', S', v', w', q1, q2, q3, q4, q5, q6⟩ := ih (fl ++ [(x, y)]) (a + 1 + 1) _ _ _ r2 (by simp; omega) (by omega) (d2.set hq hq') (get_set g5)
      refine ⟨fl', S', v', w', q1, q2, by simp at q3 ⊢; omega, by rw [List.length_cons]; exact q4.mono (by omega), q5, fun S0 z z1 => q6 S0 (((z.trans f1).trans f2).setNew z1) z1⟩
    · rw [if_neg hc] at pre
      rw [forL_cons hs pre]
      obtain ⟨fl', S', v', w', q1, q2, q3, q4, q5, q6⟩ := ih fl (a + 1 + 1) _ _ _ h1 (by omega) (by omega) d2 g5
      exact ⟨fl', S', v', w', q1, q2, by rw [List.length_cons]; omega, by rw [List.length_cons]; exact q4.mono (by omega), q5, fun S0 z z1 => q6 S0 ((z.trans f1).trans f2) z1⟩
theorem run_rules {dk fd a : Nat} {lim : Nat} {ks : List Str} (hk : ks ≠ []) (hks : ∀ x ∈ ks, PyData.strOk x = true) (hl : lim ≤ 20) (ha : a < 999900) (h : Deck dk fd a S) : ∃ rs S', callF P wf (k + 4) 24 [.ref dk, .tup (tx ks), .int lim] S = some (.tup (rs.map pr), S') ∧ Ruls ks rs ∧ rs.length ≤ lim ∧ rs.Pairwise LtP ∧ Deck dk fd (a + 1 + 2 * lim) S' ∧ Fr dk S S' := by
  have hlt := h.lt
  obtain ⟨S1, hS1⟩ : ∃ S1 : Sto, S1 = S ++ [.lst (([] : List (Str × Str)).map pr)] := ⟨_, rfl⟩
  have e0 : newL S [] = some (.ref S.length, S1) := by rw [hS1]; exact newL_of (by simp)
  have d1 : Deck dk fd a S1 := by rw [hS1]; exact h.new
  have g1 : S1[S.length]? = some (.lst (([] : List (Str × Str)).map pr)) := by rw [hS1]; exact get_new
  obtain ⟨r, S2, e2, r1, r2, d2, f2⟩ := run_next (wf := wf) (k := k + 1) (m := (lim : Int) + 1) (by omega) (by omega) d1
  have g2 := f2.get g1 (by omega)
  have hr : (rangeD 0 r.toNat).length = r.toNat := by simp [rangeD]
  obtain ⟨fl, S3, v, w, e3, q1, q2, q3, q4, q5⟩ := rules_loop (wf := wf) (k := k) (lim := .int lim) (s := ⟨rangeD 0 r.toNat, []⟩) (q := S.length) (dk := dk) (fd := fd) hk hks rfl (by omega) (by omega) (rangeD 0 r.toNat) [] (a + 1) S2 none none ⟨by simp, by simp⟩ (by rw [hr]; simp; omega) (by rw [hr]; omega) d2 g2
  rw [hr] at q2 q3
  have okfl : ∀ p ∈ fl, okP p := fun p hp => ⟨hks _ (q1.mem p hp).1, hks _ (q1.mem p hp).2.1⟩
  obtain ⟨ws, w1, w2, w3⟩ := sort_pr (S := S3) okfl q1.nd (by simp at q2; omega)
  have f3 : Fr dk S S3 := q5 S ((by rw [hS1]; exact Fr.new : Fr dk S S1).trans f2) (Nat.le_refl _)
  refine ⟨ws, S3 ++ [.lst (ws.map pr)], ?_, ⟨w1.nodup_iff.mpr q1.nd, fun p hp => q1.mem p (w1.mem_iff.mp hp)⟩, by rw [w1.length_eq]; simp at q2; omega, w2, (q3.mono (by omega)).new, f3.trans Fr.new⟩
  rw [call_fin (b := b_24) (ρ := [some (.ref dk), some (.tup (tx ks)), some (.int lim), none, none, none]) rfl rfl rfl, b_24]
  try walk_at "ev"
  rw [e0]
  try walk_at "ev"
  rw [e2]
  try walk_at "ev"
  rw [rng1_of (by omega) (by omega)]
  try walk_at "ev"
  rw [e3]
  try walk_at "ev"
  rw [sorted_ref (itemsAt_lst q4), w3]
  try walk_at "ev"
  rw [tuple_ref (itemsAt_lst get_new)]
  try walk_at "ev"
end Lw
end
section
set_option linter.all false
set_option maxRecDepth 100000
set_option maxHeartbeats 4000000
namespace Lw
open PySem L2 Ev
local macro_rules | `(tactic| walk_at "ev") => `(tactic| simp -implicitDefEqProofs (discharger := first | omega | assumption | decide) only [evTs, evT, evE, evEs, evC, evO, evI, List.map_cons, List.map_nil, List.getElem?_cons_zero, List.getElem?_cons_succ, List.set_cons_zero, List.set_cons_succ, bnd_some, bnd_none, binD_add, binD_sub, binD_mulr, binD_fdiv, binD_mod, set_one, Option.map_some, cmp_lt, cmp_gt, cmp_le, cmp_ge, cmp_eqi, tru_bl, len_tup, List.length_cons, List.length_nil, b2_max, b2_min, fin_ret, fin_nx, atI_zero, atI_one, atI_two])
variable {wf k : Nat} {S : Sto}
structure Dr where
  n : Str
  s : Str
  g : Str
  ol : Int
  oh : Option Int
  il : Int
  ih : Option Int
def oI : Option Int → D
  | none => .non
  | some i => .int i
def dr (d : Dr) : D := .tup [.str d.n, .str d.s, .str d.g, .tup [.int d.ol, oI d.oh], .tup [.int d.il, oI d.ih]]
def FanO (lo : Int) (o : Option Int) : Prop := 0 ≤ lo ∧ lo ≤ 4 ∧ ∀ h, o = some h → 1 ≤ h ∧ lo ≤ h ∧ h ≤ 4
structure DrOk (ks : List Str) (d : Dr) : Prop where
  n : d.n ∈ POOL
  s : d.s ∈ ks
  g : d.g ∈ ks
  o : FanO d.ol d.oh
  i : FanO d.il d.ih
theorem hi_o {lo : Int} {hi : D} (h1 : 0 ≤ lo) (h2 : lo ≤ 4) (h : HiOk lo hi) : ∃ o, hi = oI o ∧ FanO lo o := by
  rcases h with rfl | ⟨h, rfl, h3⟩
  · exact ⟨none, rfl, h1, h2, fun _ z => by cases z⟩
  · exact ⟨some h, rfl, h1, h2, fun _ z => by cases z; exact h3⟩
theorem doors_loop {dk fd q : Nat} {lim nm : D} {s : Src} {ks : List Str} (hk : ks ≠ []) (hs : s.held = []) (hq : q ≠ dk) (hq' : q ≠ fd) : ∀ (r : List Str) (ds : List Dr) (a : Nat) (S : Sto) (v : Option D), (∀ x ∈ r, x ∈ POOL) → (∀ d ∈ ds, DrOk ks d) → ds.length + r.length < 100000 → a + 10 * r.length < 999900 → Deck dk fd a S → S[q]? = some (.lst (ds.map dr)) →
    ∃ (ds' : List Dr) (S' : Sto) (v' : Option D), forL s (stepF (.one 5) (evTs (callF P wf (k + 3)) wf l_25_1)) (tx r) [some (.ref dk), some (.tup (tx ks)), some lim, some nm, some (.ref q), v] S = some (.nx [some (.ref dk), some (.tup (tx ks)), some lim, some nm, some (.ref q), v'], S') ∧ (∀ d ∈ ds', DrOk ks d) ∧ ds'.map (·.n) = ds.map (·.n) ++ r ∧ Deck dk fd (a + 10 * r.length) S' ∧ S'[q]? = some (.lst (ds'.map dr)) ∧
      ∀ S0, Fr dk S0 S → S0.length ≤ q → Fr dk S0 S' := by
  intro r
  induction r with
  | nil => intro ds a S v _ h1 _ _ h4 h5; exact ⟨ds, S, v, forL_nil hs, h1, by simp, h4, h5, fun _ z _ => z⟩
  | cons n r ih =>
    intro ds a S v h0 h1 h2 h3 h4 h5
    simp only [List.length_cons] at h2 h3
    have hne : tx ks ≠ [] := by simpa [tx] using hk
    obtain ⟨x, S1, e1, m1, d1, f1⟩ := run_pick (wf := wf) (k := k) hne (by omega) h4
    obtain ⟨y, S2, e2, m2, d2, f2⟩ := run_pick (wf := wf) (k := k) hne (by omega) d1
    obtain ⟨lo, hi, S3, e3, l1, l2, l3, d3, f3⟩ := run_fan (wf := wf) (k := k) (by omega) d2
    obtain ⟨lo', hi', S4, e4, k1, k2, k3, d4, f4⟩ := run_fan (wf := wf) (k := k) (by omega) d3
    obtain ⟨x, hx, rfl⟩ := List.mem_map.mp m1
    obtain ⟨y, hy, rfl⟩ := List.mem_map.mp m2
    obtain ⟨oh, rfl, fo⟩ := hi_o l1 l2 l3
    obtain ⟨ih', rfl, fi⟩ := hi_o k1 k2 k3
    have ff := f1.trans (f2.trans (f3.trans f4))
    have g5 := ff.get h5 hq
    have step : stepF (.one 5) (evTs (callF P wf (k + 3)) wf l_25_1) (.str n) [some (.ref dk), some (.tup (tx ks)), some lim, some nm, some (.ref q), v] S = some (.nx [some (.ref dk), some (.tup (tx ks)), some lim, some nm, some (.ref q), some (.str n)], S4.set q (.lst ((ds ++ [Dr.mk n x y lo oh lo' ih']).map dr))) := by
      unfold stepF l_25_1
      try walk_at "ev"
      rw [if_pos (isL_of (itemsAt_lst h5)), e1]
      try walk_at "ev"
      rw [e2]
      try walk_at "ev"
      rw [e3]
      try walk_at "ev"
      rw [e4]
      try walk_at "ev"
      rw [newT_of (by simp)]
      try walk_at "ev"
      rw [m2_append g5 (by rw [List.length_map]; omega)]
      try walk_at "ev"
      simp only [List.map_append, List.map_cons, List.map_nil, dr]
    show ∃ ds' S' v', forL s _ (.str n :: tx r) _ S = _ ∧ _
    rw [forL_cons hs step]
    obtain ⟨ds', S', v', q1, q2, q3, q4, q5, q6⟩ := ih (ds ++ [Dr.mk n x y lo oh lo' ih']) (a + 10) _ (some (.str n)) (fun z hz => h0 z (by simp [hz])) (fun d hd => by
      rcases List.mem_append.mp hd with hd | hd
      · exact h1 d hd
      · rw [List.mem_singleton] at hd; subst hd; exact ⟨h0 n (by simp), hx, hy, fo, fi⟩) (by simp; omega) (by omega) ((d4.mono (by omega)).set hq hq') (get_set g5)
    refine ⟨ds', S', v', q1, q2, by rw [q3]; simp, by rw [List.length_cons]; exact q4.mono (by omega), q5, fun S0 z z1 => q6 S0 ((z.trans ff).setNew z1) z1⟩
theorem run_doors {dk fd a : Nat} {lim : Nat} {ks : List Str} (hk : ks ≠ []) (hl : lim ≤ 10) (ha : a < 999000) (h : Deck dk fd a S) : ∃ (ds : List Dr) (S' : Sto), callF P wf (k + 4) 25 [.ref dk, .tup (tx ks), .int lim] S = some (.tup (ds.map dr), S') ∧ (∀ d ∈ ds, DrOk ks d) ∧ ds.length ≤ lim ∧ (ds.map (·.n)).Pairwise LtS ∧ Deck dk fd (a + 200) S' ∧ Fr dk S S' := by
  have hlt := h.lt
  obtain ⟨r, S1, e1, r1, r2, d1, f1⟩ := run_next (wf := wf) (k := k + 1) (m := (lim : Int) + 1) (by omega) (by omega) h
  have er : r = (r.toNat : Int) := by omega
  obtain ⟨ws, S2, e2, nw, d2, f2⟩ := run_words (wf := wf) (k := k) (n := r.toNat) (by omega) (by omega) d1
  rw [← er] at e2
  obtain ⟨S3, hS3⟩ : ∃ S3 : Sto, S3 = S2 ++ [.lst (([] : List Dr).map dr)] := ⟨_, rfl⟩
  have e3 : newL S2 [] = some (.ref S2.length, S3) := by rw [hS3]; exact newL_of (by simp)
  have d3 : Deck dk fd (a + 1 + r.toNat) S3 := by rw [hS3]; exact d2.new
  have g3 : S3[S2.length]? = some (.lst (([] : List Dr).map dr)) := by rw [hS3]; exact get_new
  have hlt2 := d2.lt
  have f23 := (f1.trans f2)
  obtain ⟨ds, S4, v, e4, q1, q2, q3, q4, q5⟩ := doors_loop (wf := wf) (k := k) (lim := .int lim) (nm := .tup (tx ws)) (s := ⟨tx ws, []⟩) (q := S2.length) (dk := dk) (fd := fd) hk rfl (by omega) (by omega) ws [] (a + 1 + r.toNat) S3 none nw.pool (by simp) (by rw [nw.len]; simp; omega) (by rw [nw.len]; omega) d3 g3
  rw [nw.len] at q3
  have f4 : Fr dk S S4 := q5 S ((f1.trans f2).trans (by rw [hS3]; exact Fr.new)) f23.le
  have q2' : ds.map (·.n) = ws := by simpa using q2
  refine ⟨ds, S4, ?_, q1, by have := congrArg List.length q2'; rw [List.length_map, nw.len] at this; omega, by rw [q2']; exact nw.up, q3.mono (by omega), f4⟩
  rw [call_fin (b := b_25) (ρ := [some (.ref dk), some (.tup (tx ks)), some (.int lim), none, none, none]) rfl rfl rfl, b_25]
  try walk_at "ev"
  rw [e1]
  try walk_at "ev"
  rw [e2]
  try walk_at "ev"
  rw [e3]
  try walk_at "ev"
  rw [show srcD S3 (.tup (tx ws)) = some (⟨tx ws, []⟩, S3) from rfl]
  try walk_at "ev"
  rw [e4]
  try walk_at "ev"
  rw [tuple_ref (itemsAt_lst q4)]
  try walk_at "ev"
/-- a book, as it is drawn -/
structure Bk where
  ks : List Str
  rs : List (Str × Str)
  ds : List Dr
structure BkOk (b : Bk) : Prop where
  n1 : 1 ≤ b.ks.length
  n2 : b.ks.length ≤ 6
  kup : b.ks.Pairwise LtS
  kp : ∀ s ∈ b.ks, s ∈ POOL
  r : Ruls b.ks b.rs
  rn : b.rs.length ≤ 10
  rup : b.rs.Pairwise LtP
  d : ∀ d ∈ b.ds, DrOk b.ks d
  dn : b.ds.length ≤ 6
  dup : (b.ds.map (·.n)).Pairwise LtS
def bk (b : Bk) : D := .tup [.tup (tx b.ks), .tup (b.rs.map pr), .tup (b.ds.map dr)]
theorem run_book {dk fd a : Nat} (ha : a < 990000) (h : Deck dk fd a S) : ∃ (b : Bk) (S' : Sto), callF P wf (k + 5) 26 [.ref dk, .int 6, .int 10, .int 6] S = some (bk b, S') ∧ BkOk b ∧ Deck dk fd (a + 300) S' ∧ Fr dk S S' := by
  obtain ⟨r, S1, e1, r1, r2, d1, f1⟩ := run_next (wf := wf) (k := k + 2) (m := 6) (by omega) (by omega) h
  have er : 1 + r = ((1 + r.toNat : Nat) : Int) := by omega
  obtain ⟨ws, S2, e2, nw, d2, f2⟩ := run_words (wf := wf) (k := k + 1) (n := 1 + r.toNat) (by omega) (by omega) d1
  rw [← er] at e2
  have hk : ws ≠ [] := by intro z; have := nw.len; rw [z] at this; simp at this; omega
  have hks : ∀ x ∈ ws, PyData.strOk x = true := fun x hx => pool_ok x (nw.pool x hx)
  obtain ⟨rs, S3, e3, q1, q2, q3, d3, f3⟩ := run_rules (wf := wf) (k := k) (lim := 10) hk hks (by omega) (by omega) d2
  obtain ⟨ds, S4, e4, p1, p2, p3, d4, f4⟩ := run_doors (wf := wf) (k := k) (lim := 6) hk (by omega) (by omega) d3
  refine ⟨⟨ws, rs, ds⟩, S4, ?_, ⟨by rw [nw.len]; omega, by rw [nw.len]; omega, nw.up, nw.pool, q1, q2, q3, p1, p2, p3⟩, d4.mono (by omega), f1.trans (f2.trans (f3.trans f4))⟩
  rw [call_fin (b := b_26) (ρ := [some (.ref dk), some (.int 6), some (.int 10), some (.int 6), none]) rfl rfl rfl, b_26]
  try walk_at "ev"
  rw [e1]
  try walk_at "ev"
  rw [e2]
  try walk_at "ev"
  rw [show ((10 : Nat) : Int) = 10 from rfl] at e3
  rw [e3]
  try walk_at "ev"
  rw [show ((6 : Nat) : Int) = 6 from rfl] at e4
  rw [e4]
  try walk_at "ev"
  rw [newT_of (by simp)]
  try walk_at "ev"
  rfl
end Lw
end
section
set_option linter.all false
set_option maxRecDepth 100000
set_option maxHeartbeats 4000000
namespace Lw
open PySem L2 Ev
local macro_rules | `(tactic| walk_at "ev") => `(tactic| simp -implicitDefEqProofs (discharger := first | omega | assumption | decide) only [evTs, evT, evE, evEs, evC, evO, evI, List.map_cons, List.map_nil, List.getElem?_cons_zero, List.getElem?_cons_succ, List.set_cons_zero, List.set_cons_succ, bnd_some, bnd_none, binD_add, binD_sub, binD_mulr, binD_fdiv, binD_mod, set_one, Option.map_some, cmp_lt, cmp_gt, cmp_le, cmp_ge, cmp_eqi, tru_bl, len_tup, List.length_cons, List.length_nil, b2_max, b2_min, fin_ret, fin_nx, atI_zero, atI_one, atI_two])
variable {wf k : Nat} {S : Sto}
/-- all of S stays -/
structure Kp (S S' : Sto) : Prop where
  le : S.length ≤ S'.length
  at_ : ∀ n, n < S.length → S'[n]? = S[n]?
theorem Kp.refl (S : Sto) : Kp S S := ⟨Nat.le_refl _, fun _ _ => rfl⟩
theorem Kp.trans {S S1 S2 : Sto} (a : Kp S S1) (b : Kp S1 S2) : Kp S S2 := ⟨Nat.le_trans a.le b.le, fun n hn => (b.at_ n (Nat.lt_of_lt_of_le hn a.le)).trans (a.at_ n hn)⟩
theorem Kp.new {S : Sto} {o : O} : Kp S (S ++ [o]) := ⟨by simp, fun n hn => List.getElem?_append_left hn⟩
theorem Kp.setNew {n : Nat} {S S1 : Sto} {o : O} (a : Kp S S1) (hn : S.length ≤ n) : Kp S (S1.set n o) := ⟨by simp [a.le], fun j hj => by rw [List.getElem?_set_ne (by omega)]; exact a.at_ j hj⟩
theorem Kp.get {n : Nat} {S S' : Sto} {o : O} (a : Kp S S') (h : S[n]? = some o) : S'[n]? = some o := by rw [a.at_ n (get_lt h)]; exact h
theorem Kp.fr {dk : Nat} {S S' : Sto} (a : Kp S S') : Fr dk S S' := ⟨a.le, fun n hn _ => a.at_ n hn⟩
theorem Kp.deck {dk fd a : Nat} {S S' : Sto} (h : Kp S S') (d : Deck dk fd a S) : Deck dk fd a S' := d.keep (h.at_ _ d.lt.1) (h.at_ _ d.lt.2)
def redN (n d : Nat) : Nat × Nat := (n / Nat.gcd n d, d / Nat.gcd n d)
theorem euclid_while {x y : D} : ∀ (fuel b a : Nat), b < fuel → whileL (evC (callF P wf k) c_14_1) (evTs (callF P wf k) wf l_14_2) fuel [some x, some y, some (.int a), some (.int b)] S = some (.nx [some x, some y, some (.int (Nat.gcd a b : Nat)), some (.int 0)], S) := by
  intro fuel
  induction fuel with
  | zero => intro b a h; omega
  | succ fuel ih =>
    intro b a h
    unfold whileL c_14_1
    try walk_at "ev"
    rcases Nat.eq_zero_or_pos b with rfl | hb
    · have hz : decide ((0 : Int) < ((0 : Nat) : Int)) = false := by decide
      rw [hz]
      simp only [Bool.false_eq_true, if_false, Nat.gcd_zero_right]
      rfl
    · have hz : decide ((0 : Int) < (b : Int)) = true := decide_eq_true (by omega)
      rw [hz]
      simp only [if_true]
      have hstep : evTs (callF P wf k) wf l_14_2 [some x, some y, some (.int a), some (.int b)] S = some (.nx [some x, some y, some (.int b), some (.int ((a % b : Nat) : Int))], S) := by
        unfold l_14_2
        try walk_at "ev"
        rfl
      rw [hstep]
      simp only [bnd_some]
      have hl : a % b < b := Nat.mod_lt _ hb
      have z := ih (a % b) b (by omega)
      unfold c_14_1 at z
      rw [z, Nat.gcd_comm a b, Nat.gcd_rec b a, Nat.gcd_comm]
theorem euclid_for {x y : D} {s : Src} (hs : s.held = []) : ∀ (r : List D) (b a : Nat) (v : Option D), b ≤ r.length → ∃ v', forL s (stepF (.one 2) (evTs (callF P wf k) wf l_27_1)) r [some x, some y, v, some (.int a), some (.int b)] S = some (.nx [some x, some y, v', some (.int (Nat.gcd a b : Nat)), some (.int 0)], S) := by
  intro r
  induction r with
  | nil =>
    intro b a v h
    have : b = 0 := by simpa using h
    subst this
    exact ⟨v, by rw [forL_nil hs, Nat.gcd_zero_right]; rfl⟩
  | cons d r ih =>
    intro b a v h
    simp only [List.length_cons] at h
    rcases Nat.eq_zero_or_pos b with rfl | hb
    · have step : stepF (.one 2) (evTs (callF P wf k) wf l_27_1) d [some x, some y, v, some (.int a), some (.int ((0 : Nat) : Int))] S = some (.nx [some x, some y, some d, some (.int a), some (.int ((0 : Nat) : Int))], S) := by
        unfold stepF l_27_1
        try walk_at "ev"
        have hz : decide ((0 : Int) < ((0 : Nat) : Int)) = false := by decide
        rw [hz]
        simp only [Bool.false_eq_true, if_false, bnd_some]
      rw [forL_cons hs step]
      exact ih 0 a (some d) (by omega)
    · have step : stepF (.one 2) (evTs (callF P wf k) wf l_27_1) d [some x, some y, v, some (.int a), some (.int (b : Int))] S = some (.nx [some x, some y, some d, some (.int b), some (.int ((a % b : Nat) : Int))], S) := by
        unfold stepF l_27_1
        try walk_at "ev"
        have hz : decide ((0 : Int) < (b : Int)) = true := decide_eq_true (by omega)
        rw [hz]
        simp only [if_true]
        try walk_at "ev"
        rfl
      rw [forL_cons hs step]
      have hl : a % b < b := Nat.mod_lt _ hb
      obtain ⟨v', z⟩ := ih (a % b) b (some d) (by omega)
      exact ⟨v', by rw [z, Nat.gcd_comm a b, Nat.gcd_rec b a, Nat.gcd_comm]⟩
theorem gcd_small {n d : Nat} (h1 : 1 ≤ n) (h2 : n ≤ 4) : 0 < ((Nat.gcd n d : Nat) : Int) ∧ ((Nat.gcd n d : Nat) : Int) < 1073741824 := by
  have a1 : 0 < Nat.gcd n d := Nat.gcd_pos_of_pos_left _ h1
  have a2 : Nat.gcd n d ≤ n := Nat.le_of_dvd h1 (Nat.gcd_dvd_left n d)
  omega
theorem run_reduced {n d : Nat} (hw : 4000 ≤ wf) (h1 : 1 ≤ n) (h2 : n ≤ 4) (h4 : d ≤ 4) : callF P wf (k + 1) 14 [.int n, .int d] S = some (.tup [.int (redN n d).1, .int (redN n d).2], S) := by
  obtain ⟨g1, g2⟩ := gcd_small (d := d) h1 h2
  rw [call_fin (b := b_14) (ρ := [some (.int n), some (.int d), none, none]) rfl rfl rfl, b_14]
  try walk_at "ev"
  rw [euclid_while wf d n (by omega)]
  try walk_at "ev"
  rw [newT_of (by simp)]
  try walk_at "ev"
  rfl
theorem run_share {n d : Nat} (h1 : 1 ≤ n) (h2 : n ≤ 4) (h4 : d ≤ 4) : callF P wf (k + 1) 27 [.int n, .int d] S = some (.tup [.int (redN n d).1, .int (redN n d).2], S) := by
  obtain ⟨g1, g2⟩ := gcd_small (d := d) h1 h2
  have hr : (rangeD 0 (60 : Int).toNat).length = 60 := by simp [rangeD]
  obtain ⟨v, e⟩ := euclid_for (wf := wf) (k := k) (S := S) (x := .int n) (y := .int d) (s := ⟨rangeD 0 (60 : Int).toNat, []⟩) rfl (rangeD 0 (60 : Int).toNat) d n none (by rw [hr]; omega)
  rw [call_fin (b := b_27) (ρ := [some (.int n), some (.int d), none, none, none]) rfl rfl rfl, b_27]
  try walk_at "ev"
  rw [rng1_of (by omega) (by omega)]
  try walk_at "ev"
  rw [e]
  try walk_at "ev"
  rw [newT_of (by simp)]
  try walk_at "ev"
  rfl
end Lw
end
section
set_option linter.all false
set_option maxRecDepth 100000
set_option maxHeartbeats 4000000
namespace Lw
open PySem L2 Ev
local macro_rules | `(tactic| walk_at "ev") => `(tactic| simp -implicitDefEqProofs (discharger := first | omega | assumption | decide) only [evTs, evT, evE, evEs, evC, evO, evI, List.map_cons, List.map_nil, List.getElem?_cons_zero, List.getElem?_cons_succ, List.set_cons_zero, List.set_cons_succ, bnd_some, bnd_none, binD_add, binD_sub, binD_mulr, binD_fdiv, binD_mod, set_one, Option.map_some, cmp_lt, cmp_gt, cmp_le, cmp_ge, cmp_eqi, tru_bl, len_tup, List.length_cons, List.length_nil, b2_max, b2_min, fin_ret, fin_nx, atI_zero, atI_one, atI_two, set_many, setAll])
variable {wf k : Nat} {S : Sto}
def OUT : Str := "out"
def INTO : Str := "into"
theorem cmp_eq_str {x y : Str} (hx : PyData.strOk x = true) (hy : PyData.strOk y = true) : cmpD S .Eq (.str x) (.str y) = some (x == y) := by
  simp only [cmpD, eqD, py_str hx, py_str hy, PyData.eqv]
theorem e_oo : cmpD S .Eq (.str "out") (.str "out") = some true := (cmp_eq_str (by decide +kernel) (by decide +kernel)).trans (by decide +kernel)
theorem e_io : cmpD S .Eq (.str "into") (.str "out") = some false := (cmp_eq_str (by decide +kernel) (by decide +kernel)).trans (by decide +kernel)
theorem atI_three {x y z w : D} {xs : List D} : atI (x :: y :: z :: w :: xs) 3 = some w := atI_nat' (k := 3) rfl rfl
theorem atI_four {x y z w v : D} {xs : List D} : atI (x :: y :: z :: w :: v :: xs) 4 = some v := atI_nat' (k := 4) rfl rfl
theorem run_other_o : callF P wf (k + 1) 11 [.str "out"] S = some (.str "into", S) := by
  rw [call_fin (b := b_11) (ρ := [some (.str "out")]) rfl rfl rfl, b_11]
  try walk_at "ev"
  rw [e_oo]
  try walk_at "ev"
theorem run_other_i : callF P wf (k + 1) 11 [.str "into"] S = some (.str "out", S) := by
  rw [call_fin (b := b_11) (ρ := [some (.str "into")]) rfl rfl rfl, b_11]
  try walk_at "ev"
  rw [e_io]
  try walk_at "ev"
theorem run_end_o {d : Dr} : callF P wf (k + 1) 12 [dr d, .str "out"] S = some (.str d.s, S) := by
  rw [call_fin (b := b_12) (ρ := [some (dr d), some (.str "out")]) rfl rfl rfl, b_12]
  try walk_at "ev"
  rw [e_oo]
  try walk_at "ev"
  rw [dr, ixD_tup atI_one]
  try walk_at "ev"
theorem run_end_i {d : Dr} : callF P wf (k + 1) 12 [dr d, .str "into"] S = some (.str d.g, S) := by
  rw [call_fin (b := b_12) (ρ := [some (dr d), some (.str "into")]) rfl rfl rfl, b_12]
  try walk_at "ev"
  rw [e_io]
  try walk_at "ev"
  rw [dr, ixD_tup atI_two]
  try walk_at "ev"
theorem run_fan_o {d : Dr} : callF P wf (k + 1) 13 [dr d, .str "out"] S = some (.tup [.int d.ol, oI d.oh], S) := by
  rw [call_fin (b := b_13) (ρ := [some (dr d), some (.str "out")]) rfl rfl rfl, b_13]
  try walk_at "ev"
  rw [e_oo]
  try walk_at "ev"
  rw [dr, ixD_tup atI_three]
  try walk_at "ev"
theorem run_fan_i {d : Dr} : callF P wf (k + 1) 13 [dr d, .str "into"] S = some (.tup [.int d.il, oI d.ih], S) := by
  rw [call_fin (b := b_13) (ρ := [some (dr d), some (.str "into")]) rfl rfl rfl, b_13]
  try walk_at "ev"
  rw [e_io]
  try walk_at "ev"
  rw [dr, ixD_tup atI_four]
  try walk_at "ev"
/-- a door's step: one, other, the fraction, why -/
def stp (x y : Str) (h l : Int) (side n : Str) : D := .tup [.str x, .str y, .int (redN h.toNat l.toNat).1, .int (redN h.toNat l.toNat).2, .tup [.str side, .str n]]
def stIf (x y : Str) (o : Option Int) (l : Int) (side n : Str) : List D := match o with
  | some h => if 0 < l then [stp x y h l side n] else []
  | none => []
def stO (d : Dr) : List D := stIf d.s d.g d.ih d.ol "out" d.n
def stI (d : Dr) : List D := stIf d.g d.s d.oh d.il "into" d.n
def stR (p : Str × Str) : D := .tup [.str p.1, .str p.2, .int 1, .int 1, .tup [.str "rule"]]
def stM (b : Bk) : List D := b.rs.map stR ++ b.ds.flatMap fun d => stO d ++ stI d
theorem isNot_o {o : Option Int} : cmpD S .IsNot (oI o) .non = some o.isSome := by
  cases o <;> rfl
/-- one side of a door -/
theorem side_turn {d : Dr} {q : Nat} {side far x y : Str} {l : Int} {o : Option Int} {acc : List D} {v2 v3 v4 v5 v6 v7 : Option D} {t : D} (hw : 4000 ≤ wf) (hf : FanO l o ∨ ∃ l', FanO l' o ∧ 0 ≤ l ∧ l ≤ 4)
    (h1 : ∀ S, callF P wf (k + 1) 11 [.str side] S = some (.str far, S)) (h2 : ∃ z, ∀ S, callF P wf (k + 1) 13 [dr d, .str side] S = some (.tup [.int l, z], S)) (h3 : ∃ z, ∀ S, callF P wf (k + 1) 13 [dr d, .str far] S = some (.tup [z, oI o], S))
    (h4 : ∀ S, callF P wf (k + 1) 12 [dr d, .str side] S = some (.str x, S)) (h5 : ∀ S, callF P wf (k + 1) 12 [dr d, .str far] S = some (.str y, S)) (hS : S[q]? = some (.lst acc)) (hl : acc.length < 1000) :
    ∃ v3' v4' v5' v6' v7' S', stepF (.one 2) (evTs (callF P wf (k + 1)) wf l_16_1) (.str side) [some (dr d), some (.ref q), v2, v3, v4, v5, v6, v7] S = some (.nx [some (dr d), some (.ref q), some (.str side), v3', v4', v5', v6', v7'], S') ∧ S'[q]? = some (.lst (acc ++ stIf x y o l side d.n)) ∧ (S' = S ∨ ∃ a, S' = S.set q (.lst a)) := by
  obtain ⟨z2, h2⟩ := h2
  obtain ⟨z3, h3⟩ := h3
  have pre : ∀ (R : R Fl), (bnd (bnd (cmpD S .IsNot (oI o) .non |>.map fun k => (D.bl k, S)) fun a b => some (a, b)) fun _ _ => R) = R := fun R => by rw [isNot_o]; rfl
  cases o with
  | none =>
    refine ⟨some (.str far), some (.int l), some (oI none), v6, v7, S, ?_, by simp [stIf, hS], .inl rfl⟩
    unfold stepF l_16_1
    try walk_at "ev"
    rw [h1]
    try walk_at "ev"
    rw [h2]
    try walk_at "ev"
    rw [ixD_tup atI_zero]
    try walk_at "ev"
    rw [h3]
    try walk_at "ev"
    rw [ixD_tup atI_one]
    try walk_at "ev"
    rw [isNot_o]
    try walk_at "ev"
    simp only [Option.isSome_none, tru_bl, bnd_some, Option.map_some, Bool.false_eq_true, if_false]
  | some h =>
    have hh : 1 ≤ h ∧ h ≤ 4 ∧ 0 ≤ l ∧ l ≤ 4 := by
      rcases hf with hf | ⟨l', hf, e1, e2⟩
      · have := hf.2.2 h rfl; have := hf.1; have := hf.2.1; omega
      · have := hf.2.2 h rfl; omega
    by_cases hc : 0 < l
    · have red := run_reduced (wf := wf) (k := k) (S := S) (n := h.toNat) (d := l.toNat) hw (by omega) (by omega) (by omega)
      rw [show ((h.toNat : Nat) : Int) = h by omega, show ((l.toNat : Nat) : Int) = l by omega] at red
      refine ⟨some (.str far), some (.int l), some (oI (some h)), some (.int (redN h.toNat l.toNat).1), some (.int (redN h.toNat l.toNat).2), S.set q (.lst (acc ++ [stp x y h l side d.n])), ?_, by simp only [stIf, if_pos hc]; exact get_set hS, .inr ⟨_, rfl⟩⟩
      unfold stepF l_16_1
      try walk_at "ev"
      rw [h1]
      try walk_at "ev"
      rw [h2]
      try walk_at "ev"
      rw [ixD_tup atI_zero]
      try walk_at "ev"
      rw [h3]
      try walk_at "ev"
      rw [ixD_tup atI_one]
      try walk_at "ev"
      rw [isNot_o]
      try walk_at "ev"
      rw [decide_eq_true hc]
      simp only [Option.isSome_some, tru_bl, bnd_some, Option.map_some, if_true]
      try walk_at "ev"
      simp only [oI]
      rw [red]
      try walk_at "ev"
      rw [if_pos (isL_of (itemsAt_lst hS)), h4]
      try walk_at "ev"
      rw [h5]
      try walk_at "ev"
      rw [dr, ixD_tup atI_zero]
      try walk_at "ev"
      rw [newT_of (by simp)]
      try walk_at "ev"
      rw [newT_of (by simp)]
      try walk_at "ev"
      rw [m2_append hS (by omega)]
      try walk_at "ev"
      rfl
    · refine ⟨some (.str far), some (.int l), some (oI (some h)), v6, v7, S, ?_, by simp [stIf, hc, hS], .inl rfl⟩
      unfold stepF l_16_1
      try walk_at "ev"
      rw [h1]
      try walk_at "ev"
      rw [h2]
      try walk_at "ev"
      rw [ixD_tup atI_zero]
      try walk_at "ev"
      rw [h3]
      try walk_at "ev"
      rw [ixD_tup atI_one]
      try walk_at "ev"
      rw [isNot_o]
      try walk_at "ev"
      rw [decide_eq_false hc]
      simp only [Option.isSome_some, tru_bl, bnd_some, Option.map_some, Bool.false_eq_true, if_false]
end Lw
end
section
set_option linter.all false
set_option maxRecDepth 100000
set_option maxHeartbeats 4000000
namespace Lw
open PySem L2 Ev
local macro_rules | `(tactic| walk_at "ev") => `(tactic| simp -implicitDefEqProofs (discharger := first | omega | assumption | decide) only [evTs, evT, evE, evEs, evC, evO, evI, List.map_cons, List.map_nil, List.getElem?_cons_zero, List.getElem?_cons_succ, List.set_cons_zero, List.set_cons_succ, bnd_some, bnd_none, binD_add, binD_sub, binD_mulr, binD_fdiv, binD_mod, set_one, Option.map_some, cmp_lt, cmp_gt, cmp_le, cmp_ge, cmp_eqi, tru_bl, len_tup, List.length_cons, List.length_nil, b2_max, b2_min, fin_ret, fin_nx, atI_zero, atI_one, atI_two, set_many, setAll])
variable {wf k : Nat} {S : Sto}
theorem set_same {n : Nat} {o : O} (h : S[n]? = some o) : S.set n o = S := by
  apply List.ext_getElem?
  intro i
  by_cases hi : n = i
  · subst hi; rw [get_set h, h]
  · rw [List.getElem?_set_ne hi]
theorem compL_map {s : Src} {n : Nat} {step : D → Sto → R (Option D)} {f : D → D} (hs : s.held = []) : ∀ (r acc : List D) (S : Sto), S[n]? = some (.lst acc) → acc.length + r.length < 100000 → (∀ d ∈ r, ∀ S, step d S = some (some (f d), S)) → compL s n step r S = some ((), S.set n (.lst (acc ++ r.map f)))
  | [], acc, S, h, _, _ => by rw [compL_nil hs, List.map_nil, List.append_nil, set_same h]
  | d :: r, acc, S, h, hl, he => by
    simp only [List.length_cons] at hl
    rw [compL_keep hs (he d (by simp) S) h (by omega), compL_map hs r (acc ++ [f d]) _ (get_set h) (by simp; omega) (fun x hx => he x (by simp [hx]))]
    simp [List.set_set]
theorem new_set {o o' : O} : (S ++ [o]).set S.length o' = S ++ [o'] := by simp
theorem run_door_steps {d : Dr} {ks : List Str} (hw : 4000 ≤ wf) (hd : DrOk ks d) : ∃ q S', callF P wf (k + 2) 16 [dr d] S = some (.ref q, S') ∧ S'[q]? = some (.lst (stO d ++ stI d)) ∧ Kp S S' := by
  obtain ⟨S1, hS1⟩ : ∃ S1 : Sto, S1 = S ++ [.lst []] := ⟨_, rfl⟩
  have e0 : newL S [] = some (.ref S.length, S1) := by rw [hS1]; exact newL_of (by simp)
  have g1 : S1[S.length]? = some (.lst []) := by rw [hS1]; exact get_new
  obtain ⟨a3, a4, a5, a6, a7, S2, e1, g2, k2⟩ := side_turn (wf := wf) (k := k) (S := S1) (d := d) (q := S.length) (side := "out") (far := "into") (x := d.s) (y := d.g) (l := d.ol) (o := d.ih) (acc := []) (v2 := none) (v3 := none) (v4 := none) (v5 := none) (v6 := none) (v7 := none) (t := .non) hw (.inr ⟨d.il, hd.i, hd.o.1, hd.o.2.1⟩) (fun _ => run_other_o) ⟨_, fun _ => run_fan_o⟩ ⟨_, fun _ => run_fan_i⟩ (fun _ => run_end_o) (fun _ => run_end_i) g1 (by simp)
  rw [List.nil_append] at g2
  have ln : (stIf d.s d.g d.ih d.ol "out" d.n).length < 1000 := by
    unfold stIf
    split
    · split <;> simp
    · simp
  obtain ⟨b3, b4, b5, b6, b7, S3, e2, g3, k3⟩ := side_turn (wf := wf) (k := k) (S := S2) (d := d) (q := S.length) (side := "into") (far := "out") (x := d.g) (y := d.s) (l := d.il) (o := d.oh) (acc := stIf d.s d.g d.ih d.ol "out" d.n) (v2 := some (.str "out")) (v3 := a3) (v4 := a4) (v5 := a5) (v6 := a6) (v7 := a7) (t := .non) hw (.inr ⟨d.ol, hd.o, hd.i.1, hd.i.2.1⟩) (fun _ => run_other_i) ⟨_, fun _ => run_fan_i⟩ ⟨_, fun _ => run_fan_o⟩ (fun _ => run_end_i) (fun _ => run_end_o) g2 ln
  have kk : Kp S S3 := by
    have q1 : Kp S S1 := by rw [hS1]; exact Kp.new
    have q2 : Kp S S2 := by
      rcases k2 with rfl | ⟨a, rfl⟩
      · exact q1
      · exact q1.setNew (Nat.le_refl _)
    rcases k3 with rfl | ⟨a, rfl⟩
    · exact q2
    · exact q2.setNew (Nat.le_refl _)
  refine ⟨S.length, S3, ?_, g3, kk⟩
  rw [call_fin (b := b_16) (ρ := [some (dr d), none, none, none, none, none, none, none]) rfl rfl rfl, b_16]
  try walk_at "ev"
  rw [e0]
  try walk_at "ev"
  rw [show srcD S1 (.tup [.str "out", .str "into"]) = some (⟨[.str "out", .str "into"], []⟩, S1) from rfl]
  try walk_at "ev"
  rw [forL_cons rfl e1, forL_cons rfl e2, forL_nil rfl]
  try walk_at "ev"
theorem steps_loop {b : D} {q : Nat} {ks : List Str} {s : Src} {v3 v4 : Option D} (hw : 4000 ≤ wf) (hs : s.held = []) : ∀ (r : List Dr) (acc : List D) (S : Sto) (v : Option D), (∀ d ∈ r, DrOk ks d) → acc.length + 2 * r.length < 1000 → S[q]? = some (.lst acc) →
    ∃ S' v', forL s (stepF (.one 2) (evTs (callF P wf (k + 2)) wf l_15_1)) (r.map dr) [some b, some (.ref q), v, v3, v4] S = some (.nx [some b, some (.ref q), v', v3, v4], S') ∧ S'[q]? = some (.lst (acc ++ r.flatMap fun d => stO d ++ stI d)) ∧ ∀ S0, Kp S0 S → S0.length ≤ q → Kp S0 S' := by
  intro r
  induction r with
  | nil => intro acc S v _ _ h; exact ⟨S, v, forL_nil hs, by simpa using h, fun _ z _ => z⟩
  | cons d r ih =>
    intro acc S v hd hl h
    simp only [List.length_cons] at hl
    obtain ⟨q2, S1, e1, g1, k1⟩ := run_door_steps (wf := wf) (k := k) (S := S) hw (hd d (by simp))
    have g2 := k1.get h
    have ln : ∀ x y o l s' n, (stIf x y o l s' n).length ≤ 1 := fun x y o l s' n => by
      unfold stIf
      split
      · split <;> simp
      · simp
    have l1 := ln d.s d.g d.ih d.ol "out" d.n
    have l2 := ln d.g d.s d.oh d.il "into" d.n
    have step : stepF (.one 2) (evTs (callF P wf (k + 2)) wf l_15_1) (dr d) [some b, some (.ref q), v, v3, v4] S = some (.nx [some b, some (.ref q), some (dr d), v3, v4], S1.set q (.lst (acc ++ (stO d ++ stI d)))) := by
      unfold stepF l_15_1
      try walk_at "ev"
      rw [if_pos (isL_of (itemsAt_lst h)), e1]
      try walk_at "ev"
      rw [m2_extend g2 g1 (by simp only [List.length_append, stO, stI]; omega)]
      try walk_at "ev"
    rw [List.map_cons, forL_cons hs step]
    obtain ⟨S', v', p1, p2, p3⟩ := ih (acc ++ (stO d ++ stI d)) _ (some (dr d)) (fun x hx => hd x (by simp [hx])) (by simp only [List.length_append, stO, stI]; omega) (get_set g2)
    exact ⟨S', v', p1, by rw [p2]; simp, fun S0 z z1 => p3 S0 ((z.trans k1).setNew z1) z1⟩
theorem run_steps {b : Bk} (hw : 4000 ≤ wf) (hb : BkOk b) : ∃ S', callF P wf (k + 3) 15 [bk b] S = some (.tup (stM b), S') ∧ Kp S S' := by
  obtain ⟨S1, hS1⟩ : ∃ S1 : Sto, S1 = S ++ [.lst (b.rs.map stR)] := ⟨_, rfl⟩
  have g1 : S1[S.length]? = some (.lst (b.rs.map stR)) := by rw [hS1]; exact get_new
  obtain ⟨S2, v, e2, g2, k2⟩ := steps_loop (wf := wf) (k := k) (b := bk b) (q := S.length) (s := ⟨b.ds.map dr, []⟩) (v3 := none) (v4 := none) hw rfl b.ds (b.rs.map stR) S1 none hb.d (by rw [List.length_map]; have := hb.rn; have := hb.dn; omega) g1
  have kk : Kp S S2 := k2 S (by rw [hS1]; exact Kp.new) (Nat.le_refl _)
  have hc : compL ⟨b.rs.map pr, []⟩ S.length (stepC (evE (callF P wf (k + 2)) c_15_2) (fun _ S => some (none, S)) (.many [3, 4]) (wipeE [some (bk b), none, none, none, none] [3, 4])) (b.rs.map pr) (S ++ [.lst []]) = some ((), S1) := by
    rw [compL_map (f := fun d => match d with | .tup [x, y] => .tup [x, y, .int 1, .int 1, .tup [.str "rule"]] | _ => d) rfl (b.rs.map pr) [] _ get_new (by simp; have := hb.rn; omega), new_set, hS1, List.nil_append, List.map_map]
    · rfl
    · intro d hd S
      obtain ⟨p, _, rfl⟩ := List.mem_map.mp hd
      unfold stepC
      simp only [wipeE, pr, List.set_cons_succ, List.set_cons_zero]
      try walk_at "ev"
      unfold c_15_2
      try walk_at "ev"
      rw [newT_of (by simp)]
      try walk_at "ev"
      rw [newT_of (by simp)]
      try walk_at "ev"
  refine ⟨S2, ?_, kk⟩
  rw [call_fin (b := b_15) (ρ := [some (bk b), none, none, none, none]) rfl rfl rfl, b_15]
  try walk_at "ev"
  rw [show ixD S (bk b) (.int 1) = some (.tup (b.rs.map pr), S) from ixD_tup atI_one]
  try walk_at "ev"
  rw [show srcD S (.tup (b.rs.map pr)) = some (⟨b.rs.map pr, []⟩, S) from rfl]
  try walk_at "ev"
  rw [hc]
  try walk_at "ev"
  rw [show ixD S1 (bk b) (.int 2) = some (.tup (b.ds.map dr), S1) from ixD_tup atI_two]
  try walk_at "ev"
  rw [show srcD S1 (.tup (b.ds.map dr)) = some (⟨b.ds.map dr, []⟩, S1) from rfl]
  try walk_at "ev"
  rw [e2]
  try walk_at "ev"
  rw [tuple_ref (itemsAt_lst g2)]
  try walk_at "ev"
  rfl
end Lw
end
section
set_option linter.all false
set_option maxRecDepth 100000
set_option maxHeartbeats 4000000
namespace Lw
open PySem L2 Ev
local macro_rules | `(tactic| walk_at "ev") => `(tactic| simp -implicitDefEqProofs (discharger := first | omega | assumption | decide) only [evTs, evT, evE, evEs, evC, evO, evI, List.map_cons, List.map_nil, List.getElem?_cons_zero, List.getElem?_cons_succ, List.set_cons_zero, List.set_cons_succ, bnd_some, bnd_none, binD_add, binD_sub, binD_mulr, binD_fdiv, binD_mod, set_one, Option.map_some, cmp_lt, cmp_gt, cmp_le, cmp_ge, cmp_eqi, tru_bl, len_tup, List.length_cons, List.length_nil, b2_max, b2_min, fin_ret, fin_nx, atI_zero, atI_one, atI_two, set_many, setAll, List.cons_append, List.nil_append])
variable {wf k : Nat} {S : Sto}
def ifO : T := (.ife (.and (.cmp .Gt (.ix (.var 5) (.lit (.int 0))) (.lit (.int 0))) (.cmp .IsNot (.ix (.var 6) (.lit (.int 1))) (.lit .non))) (.cons (.expr (.meth .append (.var 1) (.bin .Add (.bin .Add (.tup (.cons (.var 3) (.cons (.var 4) .nil))) (.call 27 (.cons (.ix (.var 6) (.lit (.int 1))) (.cons (.ix (.var 5) (.lit (.int 0))) .nil)))) (.tup (.cons (.tup (.cons (.lit (.str "out")) (.cons (.var 2) .nil))) .nil))))) .nil) (.nil))
def ifI : T := (.ife (.and (.cmp .Gt (.ix (.var 6) (.lit (.int 0))) (.lit (.int 0))) (.cmp .IsNot (.ix (.var 5) (.lit (.int 1))) (.lit .non))) (.cons (.expr (.meth .append (.var 1) (.bin .Add (.bin .Add (.tup (.cons (.var 4) (.cons (.var 3) .nil))) (.call 27 (.cons (.ix (.var 5) (.lit (.int 1))) (.cons (.ix (.var 6) (.lit (.int 0))) .nil)))) (.tup (.cons (.tup (.cons (.lit (.str "into")) (.cons (.var 2) .nil))) .nil))))) .nil) (.nil))
theorem l28 : l_28_1 = .cons ifO (.cons ifI .nil) := rfl
theorem if_O {d : Dr} {b : D} {q : Nat} {ks : List Str} {acc : List D} {v7 v8 : Option D} (hd : DrOk ks d) (hS : S[q]? = some (.lst acc)) (hl : acc.length < 1000) :
    ∃ S', evT (callF P wf (k + 1)) wf ifO [some b, some (.ref q), some (.str d.n), some (.str d.s), some (.str d.g), some (.tup [.int d.ol, oI d.oh]), some (.tup [.int d.il, oI d.ih]), v7, v8] S = some (.nx [some b, some (.ref q), some (.str d.n), some (.str d.s), some (.str d.g), some (.tup [.int d.ol, oI d.oh]), some (.tup [.int d.il, oI d.ih]), v7, v8], S') ∧ S'[q]? = some (.lst (acc ++ stO d)) ∧ (S' = S ∨ ∃ a, S' = S.set q (.lst a)) := by
  have ho := hd.o
  have hi := hd.i
  by_cases hc : 0 < d.ol
  · cases hh : d.ih with
    | none =>
      refine ⟨S, ?_, by simp [stO, stIf, hh, hS], .inl rfl⟩
      unfold ifO
      try walk_at "ev"
      rw [ixD_tup atI_zero]
      try walk_at "ev"
      rw [decide_eq_true hc]
      try walk_at "ev"
      rw [ixD_tup atI_one]
      try walk_at "ev"
      rw [isNot_o]
      simp only [Option.isSome_none, tru_bl, bnd_some, Option.map_some, Bool.false_eq_true, if_false, evTs]
    | some h =>
      have b1 : 1 ≤ h ∧ h ≤ 4 ∧ d.ol ≤ 4 := by
        have z1 := ho.2.2
        have z2 := hi.2.2
        have z3 := ho.2.1
        have z4 := hi.2.1
        rw [hh] at z2
        have := z2 h rfl
        omega
      have red := run_share (wf := wf) (k := k) (S := S) (n := h.toNat) (d := d.ol.toNat) (by omega) (by omega) (by omega)
      rw [show ((h.toNat : Nat) : Int) = h by omega, show ((d.ol.toNat : Nat) : Int) = d.ol by omega] at red
      refine ⟨S.set q (.lst (acc ++ [stp d.s d.g h d.ol "out" d.n])), ?_, by simp only [stO, stIf, hh, if_pos hc]; exact get_set hS, .inr ⟨_, rfl⟩⟩
      unfold ifO
      try walk_at "ev"
      rw [ixD_tup atI_zero]
      try walk_at "ev"
      rw [decide_eq_true hc]
      try walk_at "ev"
      rw [ixD_tup atI_one]
      try walk_at "ev"
      rw [isNot_o]
      simp only [Option.isSome_some, tru_bl, bnd_some, Option.map_some, if_true]
      try walk_at "ev"
      rw [if_pos (isL_of (itemsAt_lst hS)), newT_of (by simp)]
      try walk_at "ev"
      rw [ixD_tup atI_one]
      try walk_at "ev"
      rw [ixD_tup atI_zero]
      try walk_at "ev"
      simp only [oI]
      rw [red]
      try walk_at "ev"
      rw [binD_tup (by simp)]
      try walk_at "ev"
      rw [newT_of (by simp)]
      try walk_at "ev"
      rw [newT_of (by simp)]
      try walk_at "ev"
      rw [binD_tup (by simp)]
      try walk_at "ev"
      rw [m2_append hS (by omega)]
      try walk_at "ev"
      rfl
  · refine ⟨S, ?_, ?_, .inl rfl⟩
    · unfold ifO
      try walk_at "ev"
      rw [ixD_tup atI_zero]
      try walk_at "ev"
      rw [decide_eq_false hc]
      simp only [tru_bl, bnd_some, Option.map_some, Bool.false_eq_true, if_false, evTs]
    · have : stO d = [] := by
        unfold stO stIf
        split
        · exact if_neg hc
        · rfl
      rw [this, List.append_nil]; exact hS
theorem if_I {d : Dr} {b : D} {q : Nat} {ks : List Str} {acc : List D} {v7 v8 : Option D} (hd : DrOk ks d) (hS : S[q]? = some (.lst acc)) (hl : acc.length < 1000) :
    ∃ S', evT (callF P wf (k + 1)) wf ifI [some b, some (.ref q), some (.str d.n), some (.str d.s), some (.str d.g), some (.tup [.int d.ol, oI d.oh]), some (.tup [.int d.il, oI d.ih]), v7, v8] S = some (.nx [some b, some (.ref q), some (.str d.n), some (.str d.s), some (.str d.g), some (.tup [.int d.ol, oI d.oh]), some (.tup [.int d.il, oI d.ih]), v7, v8], S') ∧ S'[q]? = some (.lst (acc ++ stI d)) ∧ (S' = S ∨ ∃ a, S' = S.set q (.lst a)) := by
  have ho := hd.o
  have hi := hd.i
  by_cases hc : 0 < d.il
  · cases hh : d.oh with
    | none =>
      refine ⟨S, ?_, by simp [stI, stIf, hh, hS], .inl rfl⟩
      unfold ifI
      try walk_at "ev"
      rw [ixD_tup atI_zero]
      try walk_at "ev"
      rw [decide_eq_true hc]
      try walk_at "ev"
      rw [ixD_tup atI_one]
      try walk_at "ev"
      rw [isNot_o]
      simp only [Option.isSome_none, tru_bl, bnd_some, Option.map_some, Bool.false_eq_true, if_false, evTs]
    | some h =>
      have b1 : 1 ≤ h ∧ h ≤ 4 ∧ d.il ≤ 4 := by
        have z1 := ho.2.2
        have z2 := hi.2.2
        have z3 := ho.2.1
        have z4 := hi.2.1
        rw [hh] at z1
        have := z1 h rfl
        omega
      have red := run_share (wf := wf) (k := k) (S := S) (n := h.toNat) (d := d.il.toNat) (by omega) (by omega) (by omega)
      rw [show ((h.toNat : Nat) : Int) = h by omega, show ((d.il.toNat : Nat) : Int) = d.il by omega] at red
      refine ⟨S.set q (.lst (acc ++ [stp d.g d.s h d.il "into" d.n])), ?_, by simp only [stI, stIf, hh, if_pos hc]; exact get_set hS, .inr ⟨_, rfl⟩⟩
      unfold ifI
      try walk_at "ev"
      rw [ixD_tup atI_zero]
      try walk_at "ev"
      rw [decide_eq_true hc]
      try walk_at "ev"
      rw [ixD_tup atI_one]
      try walk_at "ev"
      rw [isNot_o]
      simp only [Option.isSome_some, tru_bl, bnd_some, Option.map_some, if_true]
      try walk_at "ev"
      rw [if_pos (isL_of (itemsAt_lst hS)), newT_of (by simp)]
      try walk_at "ev"
      rw [ixD_tup atI_one]
      try walk_at "ev"
      rw [ixD_tup atI_zero]
      try walk_at "ev"
      simp only [oI]
      rw [red]
      try walk_at "ev"
      rw [binD_tup (by simp)]
      try walk_at "ev"
      rw [newT_of (by simp)]
      try walk_at "ev"
      rw [newT_of (by simp)]
      try walk_at "ev"
      rw [binD_tup (by simp)]
      try walk_at "ev"
      rw [m2_append hS (by omega)]
      try walk_at "ev"
      rfl
  · refine ⟨S, ?_, ?_, .inl rfl⟩
    · unfold ifI
      try walk_at "ev"
      rw [ixD_tup atI_zero]
      try walk_at "ev"
      rw [decide_eq_false hc]
      simp only [tru_bl, bnd_some, Option.map_some, Bool.false_eq_true, if_false, evTs]
    · have : stI d = [] := by
        unfold stI stIf
        split
        · exact if_neg hc
        · rfl
      rw [this, List.append_nil]; exact hS
theorem lsteps_loop {b : D} {q : Nat} {ks : List Str} {s : Src} {v7 v8 : Option D} (hs : s.held = []) : ∀ (r : List Dr) (acc : List D) (S : Sto) (w2 w3 w4 w5 w6 : Option D), (∀ d ∈ r, DrOk ks d) → acc.length + 2 * r.length < 900 → S[q]? = some (.lst acc) →
    ∃ S' u2 u3 u4 u5 u6, forL s (stepF (.many [2, 3, 4, 5, 6]) (evTs (callF P wf (k + 1)) wf l_28_1)) (r.map dr) [some b, some (.ref q), w2, w3, w4, w5, w6, v7, v8] S = some (.nx [some b, some (.ref q), u2, u3, u4, u5, u6, v7, v8], S') ∧ S'[q]? = some (.lst (acc ++ r.flatMap fun d => stO d ++ stI d)) ∧ ∀ S0, Kp S0 S → S0.length ≤ q → Kp S0 S' := by
  intro r
  induction r with
  | nil => intro acc S w2 w3 w4 w5 w6 _ _ h; exact ⟨S, w2, w3, w4, w5, w6, forL_nil hs, by simpa using h, fun _ z _ => z⟩
  | cons d r ih =>
    intro acc S w2 w3 w4 w5 w6 hd hl h
    simp only [List.length_cons] at hl
    have ln : ∀ x y o l s' n, (stIf x y o l s' n).length ≤ 1 := fun x y o l s' n => by
      unfold stIf
      split
      · split <;> simp
      · simp
    have l1 : (stO d).length ≤ 1 := ln _ _ _ _ _ _
    have l2 : (stI d).length ≤ 1 := ln _ _ _ _ _ _
    obtain ⟨S1, e1, g1, k1⟩   := if_O (wf := wf) (k := k) (b := b) (v7 := v7) (v8 := v8) (hd d (by simp)) h (by omega)
    obtain ⟨S2, e2, g2, k2⟩  := if_I (wf := wf) (k := k) (b := b) (v7 := v7) (v8 := v8) (hd d (by simp)) g1 (by simp; omega)
    have step : stepF (.many [2, 3, 4, 5, 6]) (evTs (callF P wf (k + 1)) wf l_28_1) (dr d) [some b, some (.ref q), w2, w3, w4, w5, w6, v7, v8] S = some (.nx [some b, some (.ref q), some (.str d.n), some (.str d.s), some (.str d.g), some (.tup [.int d.ol, oI d.oh]), some (.tup [.int d.il, oI d.ih]), v7, v8], S2) := by
      unfold stepF
      rw [l28]
      simp only [dr, set_many, setAll, List.set_cons_zero, List.set_cons_succ, evTs]
      rw [e1]
      simp only [bnd_some]
      rw [e2]
      simp only [bnd_some]
    rw [List.map_cons, forL_cons hs step]
    obtain ⟨S', u2, u3, u4, u5, u6, p1, p2, p3⟩ := ih (acc ++ stO d ++ stI d) _ _ _ _ _ _ (fun x hx => hd x (by simp [hx])) (by simp; omega) g2
    refine ⟨S', u2, u3, u4, u5, u6, p1, by rw [p2]; simp, fun S0 z z1 => p3 S0 ?_ z1⟩
    have y1 : Kp S0 S1 := by
      rcases k1 with rfl | ⟨a, rfl⟩
      · exact z
      · exact z.setNew z1
    rcases k2 with rfl | ⟨a, rfl⟩
    · exact y1
    · exact y1.setNew z1
theorem run_lsteps {b : Bk} (hb : BkOk b) : ∃ S', callF P wf (k + 2) 28 [bk b] S = some (.tup (stM b), S') ∧ Kp S S' := by
  obtain ⟨S1, hS1⟩ : ∃ S1 : Sto, S1 = S ++ [.lst (b.rs.map stR)] := ⟨_, rfl⟩
  have g1 : S1[S.length]? = some (.lst (b.rs.map stR)) := by rw [hS1]; exact get_new
  obtain ⟨S2, u2, u3, u4, u5, u6, e2, g2, k2⟩ := lsteps_loop (wf := wf) (k := k) (b := bk b) (q := S.length) (s := ⟨b.ds.map dr, []⟩) (v7 := none) (v8 := none) rfl b.ds (b.rs.map stR) S1 none none none none none hb.d (by rw [List.length_map]; have := hb.rn; have := hb.dn; omega) g1
  have kk : Kp S S2 := k2 S (by rw [hS1]; exact Kp.new) (Nat.le_refl _)
  have hc : compL ⟨b.rs.map pr, []⟩ S.length (stepC (evE (callF P wf (k + 1)) c_28_2) (fun _ S => some (none, S)) (.many [7, 8]) (wipeE [some (bk b), none, none, none, none, none, none, none, none] [7, 8])) (b.rs.map pr) (S ++ [.lst []]) = some ((), S1) := by
    rw [compL_map (f := fun d => match d with | .tup [x, y] => .tup [x, y, .int 1, .int 1, .tup [.str "rule"]] | _ => d) rfl (b.rs.map pr) [] _ get_new (by simp; have := hb.rn; omega), new_set, hS1, List.nil_append, List.map_map]
    · rfl
    · intro d hd S
      obtain ⟨p, _, rfl⟩ := List.mem_map.mp hd
      unfold stepC
      simp only [wipeE, pr, List.set_cons_succ, List.set_cons_zero]
      try walk_at "ev"
      unfold c_28_2
      try walk_at "ev"
      rw [newT_of (by simp)]
      try walk_at "ev"
      rw [newT_of (by simp)]
      try walk_at "ev"
  refine ⟨S2, ?_, kk⟩
  rw [call_fin (b := b_28) (ρ := [some (bk b), none, none, none, none, none, none, none, none]) rfl rfl rfl, b_28]
  try walk_at "ev"
  rw [show ixD S (bk b) (.int 1) = some (.tup (b.rs.map pr), S) from ixD_tup atI_one]
  try walk_at "ev"
  rw [show srcD S (.tup (b.rs.map pr)) = some (⟨b.rs.map pr, []⟩, S) from rfl]
  try walk_at "ev"
  rw [hc]
  try walk_at "ev"
  rw [show ixD S1 (bk b) (.int 2) = some (.tup (b.ds.map dr), S1) from ixD_tup atI_two]
  try walk_at "ev"
  rw [show srcD S1 (.tup (b.ds.map dr)) = some (⟨b.ds.map dr, []⟩, S1) from rfl]
  try walk_at "ev"
  rw [e2]
  try walk_at "ev"
  rw [tuple_ref (itemsAt_lst g2)]
  try walk_at "ev"
  rfl
end Lw
end
section
set_option linter.all false
set_option maxRecDepth 100000
set_option maxHeartbeats 4000000
namespace Lw
open PySem L2 Ev
variable {wf k : Nat} {S : Sto}
theorem ii_t {i : Int} : isiD S (.int i) .tuple = some false := rfl
theorem ii_b {i : Int} : isiD S (.int i) .bool = some false := rfl
theorem ii_s {i : Int} : isiD S (.int i) .str = some false := rfl
theorem ii_i {i : Int} : isiD S (.int i) .int = some true := rfl
theorem is_t {i : Str} : isiD S (.str i) .tuple = some false := rfl
theorem is_b {i : Str} : isiD S (.str i) .bool = some false := rfl
theorem is_s {i : Str} : isiD S (.str i) .str = some true := rfl
theorem it_t {i : List D} : isiD S (.tup i) .tuple = some true := rfl
theorem isn_i {i : Int} : cmpD S .Is (.int i) .non = some false := rfl
theorem isn_s {i : Str} : cmpD S .Is (.str i) .non = some false := rfl
local macro_rules | `(tactic| walk_at "ev") => `(tactic| simp -implicitDefEqProofs (discharger := first | omega | assumption | decide) only [evTs, evT, evE, evEs, evC, evO, evI, List.map_cons, List.map_nil, List.getElem?_cons_zero, List.getElem?_cons_succ, List.set_cons_zero, List.set_cons_succ, bnd_some, bnd_none, binD_add, binD_sub, binD_mulr, binD_fdiv, binD_mod, set_one, Option.map_some, cmp_lt, cmp_gt, cmp_le, cmp_ge, cmp_eqi, tru_bl, len_tup, List.length_cons, List.length_nil, b2_max, b2_min, fin_ret, fin_nx, atI_zero, atI_one, atI_two, set_many, setAll, List.cons_append, List.nil_append, ii_t, ii_b, ii_s, ii_i, is_t, is_b, is_s, it_t, isn_i, isn_s, Bool.not_true, Bool.not_false, if_true, Bool.false_eq_true, if_false])
/-- plain: numbers, texts, tuples of these, so deep -/
inductive Pl : Nat → D → Prop
  | int (n : Nat) (i : Int) : Pl n (.int i)
  | str (n : Nat) (s : Str) : PyData.strOk s = true → Pl n (.str s)
  | tup (n : Nat) (xs : List D) : xs.length ≤ 1000 → (∀ x ∈ xs, Pl n x) → Pl (n + 1) (.tup xs)
theorem cmp_nei {i j : Int} : cmpD S .NotEq (.int i) (.int j) = some (!(i == j)) := by
  simp only [cmpD, eqD, pyD, PyData.eqv, Option.map_some]
theorem all_ref {n : Nat} {bs : List Bool} (h : S[n]? = some (.lst (bs.map D.bl))) : b1D S .all (.ref n) = some (.bl (bs.all id), S) := by
  have : ∀ bs : List Bool, boolsOf (bs.map D.bl) = some bs := fun bs => by
    induction bs with
    | nil => rfl
    | cons b r ih => simp only [List.map_cons, boolsOf, ih, Option.map_some]
  simp only [b1D, itemsAt_lst h, Option.bind_some, this, Option.map_some]
theorem same_int (i : Int) : callF P wf (k + 1) 21 [.int i, .int i] S = some (.bl true, S) := by
  rw [call_fin (b := b_21) (ρ := [some (.int i), some (.int i), none]) rfl rfl rfl, b_21]
  try walk_at "ev"
  simp
theorem same_str {s : Str} (hs : PyData.strOk s = true) : callF P wf (k + 1) 21 [.str s, .str s] S = some (.bl true, S) := by
  rw [call_fin (b := b_21) (ρ := [some (.str s), some (.str s), none]) rfl rfl rfl, b_21]
  try walk_at "ev"
  rw [cmp_eq_str hs hs]
  try walk_at "ev"
  simp
/-- each item alike itself: a list of truths -/
theorem same_items {xs : List D} {s : Src} {q j : Nat} (hs : s.held = []) (hp : ∀ x ∈ xs, ∀ S, ∃ S', callF P wf (k + 1) 21 [x, x] S = some (.bl true, S') ∧ Kp S S') : ∀ (m i : Nat) (S : Sto), i + m = xs.length → S[q]? = some (.lst ((List.replicate i true).map D.bl)) → xs.length ≤ 1000 →
    ∃ S', compL s q (stepC (evE (callF P wf (k + 1)) c_21_1) (fun _ S => some (none, S)) (.one 2) (wipeE [some (.tup xs), some (.tup xs), none] [2])) ((rangeD 0 xs.length).drop i) S = some ((), S') ∧ S'[q]? = some (.lst ((List.replicate xs.length true).map D.bl)) ∧ ∀ S0, Kp S0 S → S0.length ≤ q → Kp S0 S' := by
  intro m
  induction m with
  | zero =>
    intro i S h1 h2 _
    have : i = xs.length := by omega
    subst this
    refine ⟨S, ?_, h2, fun _ z _ => z⟩
    rw [List.drop_of_length_le (by simp [rangeD]), compL_nil hs]
  | succ m ih =>
    intro i S h1 h2 h3
    have hi : i < xs.length := by omega
    have hg : (rangeD 0 xs.length)[i]? = some (.int i) := by simp [rangeD, hi]
    have hd : (rangeD 0 xs.length).drop i = .int i :: (rangeD 0 xs.length).drop (i + 1) := by
      have hlen : i < (rangeD 0 xs.length).length := by simp [rangeD, hi]
      rw [List.drop_eq_getElem_cons hlen]
      congr 1
      rw [List.getElem?_eq_getElem hlen] at hg
      exact Option.some.inj hg
    have hx : xs[i]? = some xs[i] := List.getElem?_eq_getElem hi
    obtain ⟨S1, e1, k1⟩ := hp xs[i] (List.getElem_mem hi) S
    have g1 := k1.get h2
    have step : stepC (evE (callF P wf (k + 1)) c_21_1) (fun _ S => some (none, S)) (.one 2) (wipeE [some (.tup xs), some (.tup xs), none] [2]) (.int i) S = some (some (.bl true), S1) := by
      unfold stepC
      simp only [wipeE, List.set_cons_succ, List.set_cons_zero]
      try walk_at "ev"
      unfold c_21_1
      try walk_at "ev"
      rw [ixD_tup (atI_nat' hx rfl)]
      try walk_at "ev"
      rw [ixD_tup (atI_nat' hx rfl)]
      try walk_at "ev"
      rw [e1]
      try walk_at "ev"
    rw [hd, compL_keep hs step g1 (by simp; omega)]
    obtain ⟨S', p1, p2, p3⟩ := ih (i + 1) (S1.set q (.lst ((List.replicate i true).map D.bl ++ [.bl true]))) (by omega) (by rw [get_set g1, List.replicate_succ']; simp) h3
    exact ⟨S', p1, p2, fun S0 z z1 => p3 S0 ((z.trans k1).setNew z1) z1⟩
theorem same_tup {xs : List D} (hl : xs.length ≤ 1000) (hp : ∀ x ∈ xs, ∀ S, ∃ S', callF P wf (k + 1) 21 [x, x] S = some (.bl true, S') ∧ Kp S S') : ∃ S', callF P wf (k + 2) 21 [.tup xs, .tup xs] S = some (.bl true, S') ∧ Kp S S' := by
  obtain ⟨S1, hS1⟩ : ∃ S1 : Sto, S1 = S ++ [.lst ((List.replicate 0 true).map D.bl)] := ⟨_, rfl⟩
  obtain ⟨S2, e2, g2, k2⟩ := same_items (wf := wf) (k := k) (s := ⟨rangeD 0 xs.length, []⟩) (q := S.length) (j := 0) rfl hp xs.length 0 S1 (by omega) (by rw [hS1]; exact get_new) hl
  have kk : Kp S S2 := k2 S (by rw [hS1]; exact Kp.new) (Nat.le_refl _)
  rw [List.drop_zero] at e2
  refine ⟨S2, ?_, kk⟩
  rw [call_fin (b := b_21) (ρ := [some (.tup xs), some (.tup xs), none]) rfl rfl rfl, b_21]
  try walk_at "ev"
  rw [cmp_nei]
  try walk_at "ev"
  simp only [beq_self_eq_true, Bool.not_true, Bool.false_eq_true, if_false]
  try walk_at "ev"
  rw [rng1_of (by omega) (by omega)]
  try walk_at "ev"
  rw [show (xs.length : Int).toNat = xs.length by omega]
  have e3 : compL ⟨rangeD 0 xs.length, []⟩ S.length (stepC (evE (callF P wf (k + 1)) c_21_1) (fun _ S => some (none, S)) (.one 2) (wipeE [some (.tup xs), some (.tup xs), none] [2])) (rangeD 0 xs.length) (S ++ [.lst []]) = some ((), S2) := by
    rw [hS1] at e2; exact e2
  rw [e3]
  try walk_at "ev"
  rw [all_ref g2]
  try walk_at "ev"
  simp
theorem run_same : ∀ (n : Nat) (d : D) (S : Sto), Pl n d → ∃ S', callF P wf (k + 1 + n) 21 [d, d] S = some (.bl true, S') ∧ Kp S S' := by
  intro n
  induction n with
  | zero =>
    intro d S h
    cases h with
    | int _ i => exact ⟨S, same_int i, Kp.refl S⟩
    | str _ s hs => exact ⟨S, same_str hs, Kp.refl S⟩
  | succ n ih =>
    intro d S h
    cases h with
    | int _ i => exact ⟨S, same_int i, Kp.refl S⟩
    | str _ s hs => exact ⟨S, same_str hs, Kp.refl S⟩
    | tup _ xs hl hx =>
      have e : k + 1 + (n + 1) = (k + n) + 2 := by omega
      rw [e]
      refine same_tup hl fun x hx' S => ?_
      have z := ih x S (hx x hx')
      rw [show k + 1 + n = (k + n) + 1 by omega] at z
      exact z
end Lw
end
section
set_option linter.all false
set_option maxRecDepth 100000
set_option maxHeartbeats 4000000
namespace Lw
open PySem L2 Ev
variable {wf k : Nat} {S : Sto}
theorem shownAll_map (ps : List PyData) : PyData.shownAll ps = ps.map PyData.shown := by
  induction ps with
  | nil => simp [PyData.shownAll]
  | cons p r ih => simp [PyData.shownAll, ih]
theorem str_len_app (a b : Str) : (a ++ b).length = a.length + b.length := Str.length_append a b
theorem piled_le {c : Nat} : ∀ {ts : List Str}, (∀ t ∈ ts, t.length ≤ c) → piled ts ≤ ts.length * (c + 2)
  | [], _ => by simp [piled]
  | t :: r, h => by
    have h1 := h t (by simp)
    have h2 := piled_le (ts := r) fun x hx => h x (by simp [hx])
    have e : piled (t :: r) = t.length + 2 + piled r := by simp [piled]
    rw [e, List.length_cons, Nat.add_mul]
    omega
theorem tt_len {c : Nat} {ts : List Str} (h : ∀ t ∈ ts, t.length ≤ c) : (tupleText ts).length ≤ ts.length * (c + 2) + 5 := by
  unfold tupleText
  rw [str_len_app, str_len_app]
  have h3 : (Str.ofString (if ts.length == 1 then ",)" else ")")).length ≤ 2 := by split <;> decide +kernel
  have h1 : (Str.ofString "(").length = 1 := by decide +kernel
  have h2 : (Str.join ", " ts).length ≤ ts.length * (c + 2) := by
    cases ts with
    | nil => exact Nat.le_trans (show ((Str.ofString ", ").join []).length ≤ 0 by decide +kernel) (Nat.zero_le _)
    | cons t r =>
      have z := join_length_add (t :: r) (by simp)
      have := piled_le h
      omega
  omega
structure Sh (c : Nat) (p : PyData) : Prop where
  s : p.showable = true
  l : p.shown.length ≤ c
theorem Sh.mono {a b : Nat} {p : PyData} (h : Sh a p) (hab : a ≤ b) : Sh b p := ⟨h.s, Nat.le_trans h.l hab⟩
theorem Sh.str {s : Str} (h : s ∈ POOL) : Sh 10 (.str s) := by
  refine ⟨by simp [PyData.showable], ?_⟩
  have : ∀ s ∈ POOL, (PyData.shown (.str s)).length ≤ 10 := by
    simp only [PyData.shown]
    decide +kernel
  exact this s h
theorem Sh.int {i : Int} (h1 : 0 ≤ i) (h2 : i ≤ 4) : Sh 10 (.int i) := by
  have : i = 0 ∨ i = 1 ∨ i = 2 ∨ i = 3 ∨ i = 4 := by omega
  rcases this with rfl | rfl | rfl | rfl | rfl <;> exact ⟨by simp only [PyData.showable]; decide +kernel, by simp only [PyData.shown]; decide +kernel⟩
theorem Sh.none : Sh 10 .none := ⟨by simp [PyData.showable], by simp only [PyData.shown]; decide +kernel⟩
theorem Sh.tup {c n : Nat} {ps : List PyData} (h : ∀ p ∈ ps, Sh c p) (hn : ps.length ≤ n) : Sh (n * (c + 2) + 5) (.tuple ps) := by
  refine ⟨?_, ?_⟩
  · simp only [PyData.showable]
    clear hn
    induction ps with
    | nil => simp [PyData.showableAll]
    | cons p r ih => simp only [PyData.showableAll, (h p (by simp)).s, Bool.true_and]; exact ih fun x hx => h x (by simp [hx])
  · simp only [PyData.shown, shownAll_map]
    have := tt_len (c := c) (ts := ps.map PyData.shown) fun t ht => by
      obtain ⟨p, hp, rfl⟩ := List.mem_map.mp ht
      exact (h p hp).l
    rw [List.length_map] at this
    exact Nat.le_trans this (by have := Nat.mul_le_mul_right (c + 2) hn; omega)
def oP : Option Int → PyData
  | .none => .none
  | some i => .int i
def prP (p : Str × Str) : PyData := .tuple [.str p.1, .str p.2]
def drP (d : Dr) : PyData := .tuple [.str d.n, .str d.s, .str d.g, .tuple [.int d.ol, oP d.oh], .tuple [.int d.il, oP d.ih]]
def bkP (b : Bk) : PyData := .tuple [.tuple (b.ks.map .str), .tuple (b.rs.map prP), .tuple (b.ds.map drP)]
theorem py_o {n : Nat} {o : Option Int} : pyD n S (oI o) = some (oP o) := by
  cases o <;> cases n <;> simp only [oI, oP, pyD]
theorem py_dr {n : Nat} {d : Dr} {ks : List Str} (hk : ∀ s ∈ ks, s ∈ POOL) (h : DrOk ks d) : pyD (n + 2) S (dr d) = some (drP d) := by
  have h1 := pool_ok _ h.n
  have h2 := pool_ok _ (hk _ h.s)
  have h3 := pool_ok _ (hk _ h.g)
  have hi : ∀ i : Int, pyD n S (.int i) = some (.int i) := fun i => by cases n <;> simp only [pyD]
  simp only [dr, drP, pyD, List.map_cons, List.map_nil, py_str h1, py_str h2, py_str h3, hi, py_o, optAll, Option.map_some, h1, h2, h3, if_true]
theorem py_bk {b : Bk} (hb : BkOk b) : pyD 60 S (bk b) = some (bkP b) := by
  have h1 : optAll ((tx b.ks).map (pyD 58 S)) = some (b.ks.map .str) := by
    unfold tx
    rw [List.map_map]
    exact optAll_map fun x hx => py_str (pool_ok _ (hb.kp x hx))
  have h2 : optAll ((b.rs.map pr).map (pyD 58 S)) = some (b.rs.map prP) := by
    rw [List.map_map]
    exact optAll_map fun p hp => py_pr ⟨pool_ok _ (hb.kp _ (hb.r.mem p hp).1), pool_ok _ (hb.kp _ (hb.r.mem p hp).2.1)⟩
  have h3 : optAll ((b.ds.map dr).map (pyD 58 S)) = some (b.ds.map drP) := by
    rw [List.map_map]
    exact optAll_map fun d hd => py_dr hb.kp (hb.d d hd)
  simp only [bk, bkP, pyD, List.map_cons, List.map_nil, h1, h2, h3, Option.map_some, optAll]
theorem sh_o {lo : Int} {o : Option Int} (h : FanO lo o) : Sh 10 (oP o) := by
  cases o with
  | none => exact Sh.none
  | some i => have := h.2.2 i rfl; exact Sh.int (by omega) (by omega)
theorem sh_bk {b : Bk} (hb : BkOk b) : Sh 10000 (bkP b) := by
  have fan : ∀ {lo : Int} {o : Option Int}, FanO lo o → Sh 29 (.tuple [.int lo, oP o]) := fun {lo o} h => Sh.tup (n := 2) (c := 10) (fun p hp => by
    simp only [List.mem_cons, List.not_mem_nil, or_false] at hp
    rcases hp with rfl | rfl
    · exact Sh.int h.1 h.2.1
    · exact sh_o h) (by simp)
  have s1 : Sh 1000 (.tuple (b.ks.map .str)) := (Sh.tup (n := 6) (c := 10) (fun p hp => by
    obtain ⟨s, hs, rfl⟩ := List.mem_map.mp hp
    exact Sh.str (hb.kp s hs)) (by rw [List.length_map]; exact hb.n2)).mono (by omega)
  have s2 : Sh 1000 (.tuple (b.rs.map prP)) := (Sh.tup (n := 10) (c := 29) (fun p hp => by
    obtain ⟨s, hs, rfl⟩ := List.mem_map.mp hp
    refine Sh.tup (n := 2) (c := 10) (fun p hp => ?_) (by simp)
    simp only [List.mem_cons, List.not_mem_nil, or_false] at hp
    rcases hp with rfl | rfl
    · exact Sh.str (hb.kp _ (hb.r.mem s hs).1)
    · exact Sh.str (hb.kp _ (hb.r.mem s hs).2.1)) (by rw [List.length_map]; exact hb.rn)).mono (by omega)
  have s3 : Sh 1000 (.tuple (b.ds.map drP)) := (Sh.tup (n := 6) (c := 160) (fun p hp => by
    obtain ⟨d, hd, rfl⟩ := List.mem_map.mp hp
    have ok := hb.d d hd
    refine Sh.tup (n := 5) (c := 29) (fun p hp => ?_) (by simp)
    simp only [List.mem_cons, List.not_mem_nil, or_false] at hp
    rcases hp with rfl | rfl | rfl | rfl | rfl
    · exact (Sh.str ok.n).mono (by omega)
    · exact (Sh.str (hb.kp _ ok.s)).mono (by omega)
    · exact (Sh.str (hb.kp _ ok.g)).mono (by omega)
    · exact fan ok.o
    · exact fan ok.i) (by rw [List.length_map]; exact hb.dn)).mono (by omega)
  refine (Sh.tup (n := 3) (c := 1000) (fun p hp => ?_) (by simp)).mono (by omega)
  simp only [List.mem_cons, List.not_mem_nil, or_false] at hp
  rcases hp with rfl | rfl | rfl <;> assumption
theorem repr_bk {b : Bk} (hb : BkOk b) : b1D S .repr (bk b) = some (.str (bkP b).shown, S) := by
  have e := py_bk (S := S) hb
  have h := sh_bk hb
  unfold bk at e ⊢
  simp only [b1D, e]
  rw [if_pos ⟨h.s, Nat.le_trans h.l (by omega)⟩]
end Lw
end
section
set_option linter.all false
set_option maxRecDepth 100000
set_option maxHeartbeats 4000000
namespace Lw
open PySem L2 Ev
local macro_rules | `(tactic| walk_at "ev") => `(tactic| simp -implicitDefEqProofs (discharger := first | omega | assumption | decide) only [evTs, evT, evE, evEs, evC, evO, evI, List.map_cons, List.map_nil, List.getElem?_cons_zero, List.getElem?_cons_succ, List.set_cons_zero, List.set_cons_succ, bnd_some, bnd_none, binD_add, binD_sub, binD_mulr, binD_fdiv, binD_mod, set_one, Option.map_some, cmp_lt, cmp_gt, cmp_le, cmp_ge, cmp_eqi, tru_bl, len_tup, List.length_cons, List.length_nil, b2_max, b2_min, fin_ret, fin_nx, atI_zero, atI_one, atI_two, set_many, setAll, List.cons_append, List.nil_append, ii_t, ii_b, ii_s, ii_i, is_t, is_b, is_s, it_t, isn_i, isn_s, Bool.not_true, Bool.not_false, if_true, Bool.false_eq_true, if_false])
variable {wf k : Nat} {S : Sto}
def trs (n : Nat) : List D := (List.replicate n true).map D.bl
theorem comp_true {s : Src} {q : Nat} {step : D → Sto → R (Option D)} {S0 : Sto} (hok : ∀ S', Kp S0 S' → s.ok S') (hq : S0.length ≤ q) : ∀ (r : List D) (i : Nat) (S : Sto), (∀ x ∈ r, ∀ S, Kp S0 S → ∃ S', step x S = some (some (.bl true), S') ∧ Kp S S') → i + r.length < 100000 → Kp S0 S → S[q]? = some (.lst (trs i)) →
    ∃ S', compL s q step r S = some ((), S') ∧ S'[q]? = some (.lst (trs (i + r.length))) ∧ Kp S0 S'
  | [], i, S, _, _, hk, hS => by
    refine ⟨S, ?_, hS, hk⟩
    unfold compL
    rw [if_pos (hok S hk)]
  | x :: r, i, S, hp, hl, hk, hS => by
    simp only [List.length_cons] at hl
    obtain ⟨S1, e1, k1⟩ := hp x (by simp) S hk
    have g1 := k1.get hS
    obtain ⟨S', p1, p2, p3⟩ := comp_true hok hq r (i + 1) (S1.set q (.lst (trs i ++ [.bl true]))) (fun y hy => hp y (by simp [hy])) (by omega) ((hk.trans k1).setNew hq) (by rw [get_set g1]; simp [trs, List.replicate_succ'])
    refine ⟨S', ?_, by rw [p2, List.length_cons]; congr 3; omega, p3⟩
    conv => lhs; unfold compL
    rw [if_pos (hok S hk), e1, bnd_some]
    simp only [g1, if_pos (show (trs i).length < 100000 by simp [trs]; omega)]
    exact p1
/-- all([.. for ..]) where each one is True -/
theorem all_true {s : Src} {step : D → Sto → R (Option D)} (hok : ∀ S', Kp S S' → s.ok S') (hp : ∀ x ∈ s.items, ∀ S1, Kp S S1 → ∃ S', step x S1 = some (some (.bl true), S') ∧ Kp S1 S') (hl : s.items.length < 100000) :
    ∃ S', compL s S.length step s.items (S ++ [.lst []]) = some ((), S') ∧ b1D S' .all (.ref S.length) = some (.bl true, S') ∧ Kp S S' := by
  obtain ⟨S', p1, p2, p3⟩ := comp_true hok (Nat.le_refl _) s.items 0 (S ++ [.lst []]) hp (by omega) Kp.new get_new
  refine ⟨S', p1, ?_, p3⟩
  rw [all_ref p2]
  simp
theorem ok_nil {s : Src} (h : s.held = []) : ∀ S', Kp S S' → s.ok S' := fun S' _ p hp => by rw [h] at hp; cases hp
/-! ### rising -/
theorem lt_str {x y : Str} (hx : PyData.strOk x = true) (hy : PyData.strOk y = true) (h : LtS x y) : cmpD S .Lt (.str x) (.str y) = some true := by
  simp only [cmpD, ltD, py_str hx, py_str hy]
  rw [if_pos ⟨rfl, fun z => by cases z⟩, h]
theorem lt_pr {x y : Str × Str} (hx : okP x) (hy : okP y) (h : LtP x y) : cmpD S .Lt (pr x) (pr y) = some true := by
  have z1 := py_pr (S := S) (n := 59) hx
  have z2 := py_pr (S := S) (n := 59) hy
  unfold pr at z1 z2 ⊢
  simp only [cmpD, ltD, z1, z2]
  rw [if_pos ⟨rfl, fun z => by cases z⟩, h]
theorem cut1 (xs : List D) : cutD xs (some 1) none = xs.drop 1 := by
  unfold cutD
  rw [show HT.sIx xs.length 0 (some 1) = min 1 xs.length from HT.sIx_nat xs.length 0 1, HT.sIx_none]
  cases xs with
  | nil => rfl
  | cons x r =>
    rw [show min 1 (x :: r).length = 1 by rw [List.length_cons]; omega]
    show List.take ((x :: r).length - 1) r = r
    exact List.take_of_length_le (by simp)
theorem zip_mem {xs : List D} {R : D → D → Prop} (h : xs.Pairwise R) : ∀ p ∈ zip2 xs (xs.drop 1), ∃ x y, p = .tup [x, y] ∧ R x y := by
  intro p hp
  obtain ⟨i, hi⟩ := List.mem_iff_getElem?.mp hp
  unfold zip2 at hi
  rw [List.getElem?_zipWith] at hi
  cases hx : xs[i]? with
  | none => rw [hx] at hi; cases hi
  | some x =>
    cases hy : (xs.drop 1)[i]? with
    | none => rw [hx, hy] at hi; cases hi
    | some y =>
      rw [hx, hy] at hi; cases hi
      rw [List.getElem?_drop] at hy
      have h1 : i < xs.length := by
        rcases Nat.lt_or_ge i xs.length with z | z
        · exact z
        · rw [List.getElem?_eq_none z] at hx; cases hx
      have h2 : 1 + i < xs.length := by
        rcases Nat.lt_or_ge (1 + i) xs.length with z | z
        · exact z
        · rw [List.getElem?_eq_none z] at hy; cases hy
      rw [List.getElem?_eq_getElem h1] at hx
      rw [List.getElem?_eq_getElem h2] at hy
      cases hx; cases hy
      exact ⟨_, _, rfl, List.pairwise_iff_getElem.mp h i (1 + i) h1 h2 (by omega)⟩
theorem rise_step {xs : List D} {v : D} (h : xs.Pairwise fun x y => ∀ S, cmpD S .Lt x y = some true) : ∀ p ∈ zip2 xs (xs.drop 1), ∀ S1 : Sto, Kp S S1 → ∃ S', stepC (evE (callF P wf k) c_2_1) (fun _ S => some (none, S)) (.many [1, 2]) (wipeE [some v, none, none] [1, 2]) p S1 = some (some (.bl true), S') ∧ Kp S1 S' := by
  intro p hp S1 _
  obtain ⟨x, y, rfl, hxy⟩ := zip_mem h p hp
  refine ⟨S1, ?_, Kp.refl _⟩
  unfold stepC
  simp only [wipeE, List.set_cons_succ, List.set_cons_zero]
  try walk_at "ev"
  unfold c_2_1
  try walk_at "ev"
  rw [hxy]
  try walk_at "ev"
theorem run_rising {xs : List D} (hl : xs.length ≤ 1000) (h : xs.Pairwise fun x y => ∀ S, cmpD S .Lt x y = some true) : ∃ S', callF P wf (k + 1) 2 [.tup xs] S = some (.bl true, S') ∧ Kp S S' := by
  have hz : (zip2 xs (xs.drop 1)).length < 100000 := by unfold zip2; rw [List.length_zipWith]; omega
  obtain ⟨S', e1, e2, k1⟩ := all_true (S := S) (s := ⟨zip2 xs (xs.drop 1), []⟩) (step := stepC (evE (callF P wf k) c_2_1) (fun _ S => some (none, S)) (.many [1, 2]) (wipeE [some (.tup xs), none, none] [1, 2])) (ok_nil rfl) (rise_step h) hz
  refine ⟨S', ?_, k1⟩
  rw [call_fin (b := b_2) (ρ := [some (.tup xs), none, none]) rfl rfl rfl, b_2]
  try walk_at "ev"
  rw [show sl3 S (.tup xs) (some (.int 1)) none = some (.tup (xs.drop 1), S) by rw [← cut1]; rfl]
  try walk_at "ev"
  rw [show zipD S (.tup xs) (.tup (xs.drop 1)) = some (⟨zip2 xs (xs.drop 1), []⟩, S) from rfl]
  try walk_at "ev"
  rw [e1]
  try walk_at "ev"
  rw [e2]
  try walk_at "ev"
theorem run_risingL {xs : List D} {n : Nat} (hl : xs.length ≤ 1000) (hS : S[n]? = some (.lst xs)) (h : xs.Pairwise fun x y => ∀ S, cmpD S .Lt x y = some true) : ∃ S', callF P wf (k + 1) 2 [.ref n] S = some (.bl true, S') ∧ Kp S S' := by
  have hz : (zip2 xs (xs.drop 1)).length < 100000 := by unfold zip2; rw [List.length_zipWith]; omega
  obtain ⟨S1, hS1⟩ : ∃ S1 : Sto, S1 = S ++ [.lst (xs.drop 1)] := ⟨_, rfl⟩
  have k0 : Kp S S1 := by rw [hS1]; exact Kp.new
  have g1 := k0.get hS
  have g2 : S1[S.length]? = some (.lst (xs.drop 1)) := by rw [hS1]; exact get_new
  obtain ⟨S', e1, e2, k1⟩ := all_true (S := S1) (s := ⟨zip2 xs (xs.drop 1), [(n, xs), (S.length, xs.drop 1)]⟩) (step := stepC (evE (callF P wf k) c_2_1) (fun _ S => some (none, S)) (.many [1, 2]) (wipeE [some (.ref n), none, none] [1, 2])) (fun S' hk p hp => by
    simp only [List.mem_cons, List.not_mem_nil, or_false] at hp
    rcases hp with rfl | rfl
    · exact itemsAt_lst (hk.get g1)
    · exact itemsAt_lst (hk.get g2)) (rise_step h) hz
  refine ⟨S', ?_, k0.trans k1⟩
  rw [call_fin (b := b_2) (ρ := [some (.ref n), none, none]) rfl rfl rfl, b_2]
  try walk_at "ev"
  have e0 : sl3 S (.ref n) (some (.int 1)) none = some (.ref S.length, S1) := by
    show (itemsAt S n).bind (fun xs => newL S (cutD xs (some 1) none)) = _
    rw [itemsAt_lst hS, Option.bind_some, cut1, hS1]
    exact newL_of (by rw [List.length_drop]; omega)
  rw [e0]
  try walk_at "ev"
  rw [show zipD S1 (.ref n) (.ref S.length) = some (⟨zip2 xs (xs.drop 1), [(n, xs), (S.length, xs.drop 1)]⟩, S1) by simp only [zipD, itemsAt_lst g1, itemsAt_lst g2]]
  try walk_at "ev"
  rw [e1]
  try walk_at "ev"
  rw [e2]
  try walk_at "ev"
end Lw
end
section
set_option linter.all false
set_option maxRecDepth 100000
set_option maxHeartbeats 4000000
namespace Lw
open PySem L2 Ev
variable {wf k : Nat} {S : Sto}
theorem ib_t : isiD S .non .tuple = some false := rfl
theorem isnn : cmpD S .Is .non .non = some true := rfl
theorem len_str {s : Str} (h : s.length ≤ 100000) : b1D S .len (.str s) = some (.int s.length, S) := by
  simp only [b1D, lenD, if_pos h]; rfl
local macro_rules | `(tactic| walk_at "ev") => `(tactic| simp -implicitDefEqProofs (discharger := first | omega | assumption | decide) only [evTs, evT, evE, evEs, evC, evO, evI, List.map_cons, List.map_nil, List.getElem?_cons_zero, List.getElem?_cons_succ, List.set_cons_zero, List.set_cons_succ, bnd_some, bnd_none, binD_add, binD_sub, binD_mulr, binD_fdiv, binD_mod, set_one, Option.map_some, cmp_lt, cmp_gt, cmp_le, cmp_ge, cmp_eqi, tru_bl, len_tup, List.length_cons, List.length_nil, b2_max, b2_min, fin_ret, fin_nx, atI_zero, atI_one, atI_two, set_many, setAll, List.cons_append, List.nil_append, ii_t, ii_b, ii_s, ii_i, is_t, is_b, is_s, it_t, isn_i, isn_s, isnn, Bool.not_true, Bool.not_false, if_true, Bool.false_eq_true, if_false])
theorem run_number (i : Int) : callF P wf (k + 1) 0 [.int i] S = some (.bl true, S) := by
  rw [call_fin (b := b_0) (ρ := [some (.int i)]) rfl rfl rfl, b_0]
  try walk_at "ev"
theorem run_tuple_of {xs : List D} {n : Int} (h : (xs.length : Int) = n) : callF P wf (k + 1) 1 [.tup xs, .int n] S = some (.bl true, S) := by
  rw [call_fin (b := b_1) (ρ := [some (.tup xs), some (.int n)]) rfl rfl rfl, b_1]
  try walk_at "ev"
  rw [h]
  simp
theorem run_is_fan {lo : Int} {o : Option Int} (h : FanO lo o) : callF P wf (k + 2) 4 [.tup [.int lo, oI o]] S = some (.bl true, S) := by
  obtain ⟨h1, h2, h3⟩ := h
  rw [call_fin (b := b_4) (ρ := [some (.tup [.int lo, oI o]), none, none]) rfl rfl rfl, b_4]
  try walk_at "ev"
  rw [run_tuple_of (by simp)]
  try walk_at "ev"
  rw [run_number]
  try walk_at "ev"
  rw [decide_eq_true h1]
  try walk_at "ev"
  rw [decide_eq_true h2]
  try walk_at "ev"
  cases o with
  | none =>
    simp only [oI]
    try walk_at "ev"
  | some i =>
    have := h3 i rfl
    simp only [oI]
    try walk_at "ev"
    rw [run_number]
    try walk_at "ev"
    have hm : (if lo > 1 then lo else 1) ≤ i := by split <;> omega
    rw [decide_eq_true hm]
    try walk_at "ev"
    rw [decide_eq_true (show i ≤ 4 by omega)]
def LET : Str := "abcdefghijklmnopqrstuvwxyz"
theorem pool_len : ∀ s ∈ POOL, 1 ≤ s.length ∧ s.length ≤ 8 := by decide +kernel
theorem pool_let : ∀ s ∈ POOL, ∀ c ∈ s.cps.toList, c ∈ (Str.ofString "abcdefghijklmnopqrstuvwxyz").cps.toList := by decide +kernel
theorem run_is_name {s : Str} (hs : s ∈ POOL) : ∃ S', callF P wf (k + 1) 3 [.str s] S = some (.bl true, S') ∧ Kp S S' := by
  obtain ⟨l1, l2⟩ := pool_len s hs
  have hsz : s.cps.toList.length = s.length := by simp [Str.length]
  have hz : (signs s).length < 100000 := by unfold signs; rw [List.length_map, hsz]; omega
  obtain ⟨S', e1, e2, k1⟩ := all_true (S := S) (s := ⟨signs s, []⟩) (step := stepC (evE (callF P wf k) c_3_1) (fun _ S => some (none, S)) (.one 1) (wipeE [some (.str s), none] [1])) (ok_nil rfl) (fun x hx S1 _ => by
    obtain ⟨c, hc, rfl⟩ := List.mem_map.mp hx
    refine ⟨S1, ?_, Kp.refl _⟩
    unfold stepC
    simp only [wipeE, List.set_cons_succ, List.set_cons_zero]
    try walk_at "ev"
    unfold c_3_1
    try walk_at "ev"
    have z : cmpD S1 .In (.str ⟨#[c]⟩) (.str "abcdefghijklmnopqrstuvwxyz") = some true := by
      simp only [cmpD, inD]
      rw [decide_eq_true (pool_let s hs c hc)]
    rw [z]
    try walk_at "ev") hz
  refine ⟨S', ?_, k1⟩
  rw [call_fin (b := b_3) (ρ := [some (.str s), none]) rfl rfl rfl, b_3]
  try walk_at "ev"
  rw [len_str (by omega)]
  try walk_at "ev"
  rw [decide_eq_true (show (1 : Int) ≤ (s.length : Int) by omega)]
  try walk_at "ev"
  rw [decide_eq_true (show (s.length : Int) ≤ 8 by omega)]
  try walk_at "ev"
  rw [show srcD S (.str s) = some (⟨signs s, []⟩, S) from rfl]
  try walk_at "ev"
  rw [e1]
  try walk_at "ev"
  rw [e2]
  try walk_at "ev"
theorem in_ks {x : Str} {ks : List Str} (hk : ∀ s ∈ ks, s ∈ POOL) (hx : x ∈ ks) : cmpD S .In (.str x) (.tup (tx ks)) = some true := by
  have e : pyD 60 S (.tup (tx ks)) = some (.tuple (ks.map .str)) := by
    simp only [pyD, tx]
    rw [List.map_map, optAll_map (g := fun s => .str s) fun s hs => py_str (pool_ok _ (hk s hs))]
    rfl
  simp only [cmpD, inD, py_str (pool_ok _ (hk x hx)), e, Option.some.injEq]
  rw [List.any_map, List.any_eq_true]
  exact ⟨x, hx, by simp [PyData.eqv]⟩
theorem run_is_rule {p : Str × Str} {ks : List Str} (hk : ∀ s ∈ ks, s ∈ POOL) (h1 : p.1 ∈ ks) (h2 : p.2 ∈ ks) (h3 : p.1 ≠ p.2) : callF P wf (k + 2) 8 [.tup (tx ks), pr p] S = some (.bl true, S) := by
  rw [call_fin (b := b_8) (ρ := [some (.tup (tx ks)), some (pr p), none, none]) rfl rfl rfl, b_8]
  try walk_at "ev"
  rw [pr, run_tuple_of (by simp)]
  try walk_at "ev"
  rw [in_ks hk h1]
  try walk_at "ev"
  rw [in_ks hk h2]
  try walk_at "ev"
  rw [cmp_ne_str (pool_ok _ (hk _ h1)) (pool_ok _ (hk _ h2))]
  try walk_at "ev"
  simp [h3]
theorem run_is_door {d : Dr} {ks : List Str} (hk : ∀ s ∈ ks, s ∈ POOL) (h : DrOk ks d) : ∃ S', callF P wf (k + 3) 10 [.tup (tx ks), dr d] S = some (.bl true, S') ∧ Kp S S' := by
  obtain ⟨S', e, kk⟩ := run_is_name (wf := wf) (k := k + 1) (S := S) h.n
  refine ⟨S', ?_, kk⟩
  rw [call_fin (b := b_10) (ρ := [some (.tup (tx ks)), some (dr d), none, none, none, none, none]) rfl rfl rfl, b_10]
  try walk_at "ev"
  rw [dr, run_tuple_of (by simp)]
  try walk_at "ev"
  rw [e]
  try walk_at "ev"
  rw [in_ks hk h.s]
  try walk_at "ev"
  rw [in_ks hk h.g]
  try walk_at "ev"
  rw [run_is_fan h.o]
  try walk_at "ev"
  rw [run_is_fan h.i]
  try walk_at "ev"
theorem pw_tx {ws : List Str} (hp : ∀ s ∈ ws, s ∈ POOL) (h : ws.Pairwise LtS) : (tx ws).Pairwise fun x y => ∀ S, cmpD S .Lt x y = some true := by
  unfold tx
  rw [List.pairwise_map]
  exact h.imp_of_mem fun {a b} ha hb hab S => lt_str (pool_ok _ (hp a ha)) (pool_ok _ (hp b hb)) hab
theorem run_are_kinds {b : Bk} (hb : BkOk b) : ∃ S', callF P wf (k + 2) 6 [.tup (tx b.ks)] S = some (.bl true, S') ∧ Kp S S' := by
  have n1 := hb.n1
  have n2 := hb.n2
  have hlen : (tx b.ks).length = b.ks.length := by simp [tx]
  obtain ⟨S1, e1, e2, k1⟩ := all_true (S := S) (s := ⟨tx b.ks, []⟩) (step := stepC (evE (callF P wf (k + 1)) c_6_1) (fun _ S => some (none, S)) (.one 1) (wipeE [some (.tup (tx b.ks)), none] [1])) (ok_nil rfl) (fun x hx S1 _ => by
    obtain ⟨s, hs, rfl⟩ := List.mem_map.mp hx
    obtain ⟨S', e, kk⟩ := run_is_name (wf := wf) (k := k) (S := S1) (hb.kp s hs)
    refine ⟨S', ?_, kk⟩
    unfold stepC
    simp only [wipeE, List.set_cons_succ, List.set_cons_zero]
    try walk_at "ev"
    unfold c_6_1
    try walk_at "ev"
    rw [e]
    try walk_at "ev") (by rw [hlen]; omega)
  obtain ⟨S2, e3, k2⟩ := run_rising (wf := wf) (k := k) (S := S1) (xs := tx b.ks) (by rw [hlen]; omega) (pw_tx hb.kp hb.kup)
  refine ⟨S2, ?_, k1.trans k2⟩
  rw [call_fin (b := b_6) (ρ := [some (.tup (tx b.ks)), none]) rfl rfl rfl, b_6]
  try walk_at "ev"
  rw [decide_eq_true (show (1 : Int) ≤ ((tx b.ks).length : Int) by rw [hlen]; omega)]
  try walk_at "ev"
  rw [decide_eq_true (show ((tx b.ks).length : Int) ≤ 6 by rw [hlen]; omega)]
  try walk_at "ev"
  rw [show srcD S (.tup (tx b.ks)) = some (⟨tx b.ks, []⟩, S) from rfl]
  try walk_at "ev"
  rw [e1]
  try walk_at "ev"
  rw [e2]
  try walk_at "ev"
  rw [e3]
  try walk_at "ev"
theorem run_are_rules {b : Bk} (hb : BkOk b) : ∃ S', callF P wf (k + 3) 7 [.tup (tx b.ks), .tup (b.rs.map pr)] S = some (.bl true, S') ∧ Kp S S' := by
  have rn := hb.rn
  obtain ⟨S1, e1, e2, k1⟩ := all_true (S := S) (s := ⟨b.rs.map pr, []⟩) (step := stepC (evE (callF P wf (k + 2)) c_7_1) (fun _ S => some (none, S)) (.one 2) (wipeE [some (.tup (tx b.ks)), some (.tup (b.rs.map pr)), none] [2])) (ok_nil rfl) (fun x hx S1 _ => by
    obtain ⟨p, hp, rfl⟩ := List.mem_map.mp hx
    have hm := hb.r.mem p hp
    refine ⟨S1, ?_, Kp.refl _⟩
    unfold stepC
    simp only [wipeE, List.set_cons_succ, List.set_cons_zero]
    try walk_at "ev"
    unfold c_7_1
    try walk_at "ev"
    rw [run_is_rule hb.kp hm.1 hm.2.1 hm.2.2]
    try walk_at "ev") (by rw [List.length_map]; omega)
  have pw : (b.rs.map pr).Pairwise fun x y => ∀ S, cmpD S .Lt x y = some true := by
    rw [List.pairwise_map]
    exact hb.rup.imp_of_mem fun {a c} ha hc hac S => lt_pr ⟨pool_ok _ (hb.kp _ (hb.r.mem a ha).1), pool_ok _ (hb.kp _ (hb.r.mem a ha).2.1)⟩ ⟨pool_ok _ (hb.kp _ (hb.r.mem c hc).1), pool_ok _ (hb.kp _ (hb.r.mem c hc).2.1)⟩ hac
  obtain ⟨S2, e3, k2⟩ := run_rising (wf := wf) (k := k + 1) (S := S1) (xs := b.rs.map pr) (by rw [List.length_map]; omega) pw
  refine ⟨S2, ?_, k1.trans k2⟩
  rw [call_fin (b := b_7) (ρ := [some (.tup (tx b.ks)), some (.tup (b.rs.map pr)), none]) rfl rfl rfl, b_7]
  try walk_at "ev"
  rw [decide_eq_false (show ¬ (10 : Int) < ((b.rs.map pr).length : Int) by rw [List.length_map]; omega)]
  try walk_at "ev"
  rw [show srcD S (.tup (b.rs.map pr)) = some (⟨b.rs.map pr, []⟩, S) from rfl]
  try walk_at "ev"
  rw [e1]
  try walk_at "ev"
  rw [e2]
  try walk_at "ev"
  rw [e3]
  try walk_at "ev"
theorem run_are_doors {b : Bk} (hb : BkOk b) : ∃ S', callF P wf (k + 4) 9 [.tup (tx b.ks), .tup (b.ds.map dr)] S = some (.bl true, S') ∧ Kp S S' := by
  have dn := hb.dn
  obtain ⟨S1, e1, e2, k1⟩ := all_true (S := S) (s := ⟨b.ds.map dr, []⟩) (step := stepC (evE (callF P wf (k + 3)) c_9_2) (fun _ S => some (none, S)) (.one 2) (wipeE [some (.tup (tx b.ks)), some (.tup (b.ds.map dr)), none] [2])) (ok_nil rfl) (fun x hx S1 _ => by
    obtain ⟨d, hd, rfl⟩ := List.mem_map.mp hx
    obtain ⟨S', e, kk⟩ := run_is_door (wf := wf) (k := k) (S := S1) hb.kp (hb.d d hd)
    refine ⟨S', ?_, kk⟩
    unfold stepC
    simp only [wipeE, List.set_cons_succ, List.set_cons_zero]
    try walk_at "ev"
    unfold c_9_2
    try walk_at "ev"
    rw [e]
    try walk_at "ev") (by rw [List.length_map]; omega)
  obtain ⟨S2, hS2⟩ : ∃ S2 : Sto, S2 = S1 ++ [.lst (tx (b.ds.map (·.n)))] := ⟨_, rfl⟩
  have g2 : S2[S1.length]? = some (.lst (tx (b.ds.map (·.n)))) := by rw [hS2]; exact get_new
  have e4 : compL ⟨b.ds.map dr, []⟩ S1.length (stepC (evE (callF P wf (k + 3)) c_9_1) (fun _ S => some (none, S)) (.one 2) (wipeE [some (.tup (tx b.ks)), some (.tup (b.ds.map dr)), none] [2])) (b.ds.map dr) (S1 ++ [.lst []]) = some ((), S2) := by
    rw [compL_map (f := fun d => match d with | .tup (x :: _) => x | _ => d) rfl (b.ds.map dr) [] _ get_new (by simp; omega), new_set, hS2, List.nil_append, List.map_map, tx, List.map_map]
    · rfl
    · intro x hx S
      obtain ⟨d, _, rfl⟩ := List.mem_map.mp hx
      unfold stepC
      simp only [wipeE, dr, List.set_cons_succ, List.set_cons_zero]
      try walk_at "ev"
      unfold c_9_1
      try walk_at "ev"
      rw [ixD_tup atI_zero]
      try walk_at "ev"
  have hpool : ∀ s ∈ b.ds.map (·.n), s ∈ POOL := fun s hs => by
    obtain ⟨d, hd, rfl⟩ := List.mem_map.mp hs
    exact (hb.d d hd).n
  obtain ⟨S3, e3, k3⟩ := run_risingL (wf := wf) (k := k + 2) (S := S2) (xs := tx (b.ds.map (·.n))) (n := S1.length) (by simp [tx]; omega) g2 (pw_tx hpool hb.dup)
  refine ⟨S3, ?_, k1.trans ((by rw [hS2]; exact Kp.new : Kp S1 S2).trans k3)⟩
  rw [call_fin (b := b_9) (ρ := [some (.tup (tx b.ks)), some (.tup (b.ds.map dr)), none]) rfl rfl rfl, b_9]
  try walk_at "ev"
  rw [decide_eq_false (show ¬ (6 : Int) < ((b.ds.map dr).length : Int) by rw [List.length_map]; omega)]
  try walk_at "ev"
  rw [show srcD S (.tup (b.ds.map dr)) = some (⟨b.ds.map dr, []⟩, S) from rfl]
  try walk_at "ev"
  rw [e1]
  try walk_at "ev"
  rw [e2]
  try walk_at "ev"
  rw [show srcD S1 (.tup (b.ds.map dr)) = some (⟨b.ds.map dr, []⟩, S1) from rfl]
  try walk_at "ev"
  rw [e4]
  try walk_at "ev"
  rw [e3]
  try walk_at "ev"
theorem run_is_book {b : Bk} (hb : BkOk b) : ∃ S', callF P wf (k + 5) 5 [bk b] S = some (.bl true, S') ∧ Kp S S' := by
  obtain ⟨S1, e1, k1⟩ := run_are_kinds (wf := wf) (k := k + 2) (S := S) hb
  obtain ⟨S2, e2, k2⟩ := run_are_rules (wf := wf) (k := k + 1) (S := S1) hb
  obtain ⟨S3, e3, k3⟩ := run_are_doors (wf := wf) (k := k) (S := S2) hb
  refine ⟨S3, ?_, k1.trans (k2.trans k3)⟩
  rw [call_fin (b := b_5) (ρ := [some (bk b), none, none, none]) rfl rfl rfl, b_5]
  try walk_at "ev"
  rw [bk, run_tuple_of (by simp)]
  try walk_at "ev"
  rw [e1]
  try walk_at "ev"
  rw [e2]
  try walk_at "ev"
  rw [e3]
  try walk_at "ev"
end Lw
end
section
set_option linter.all false
set_option maxRecDepth 100000
set_option maxHeartbeats 4000000
namespace Lw
open PySem L2 Ev
variable {wf k : Nat} {S : Sto}
abbrev OkT (s : Str) : Prop := PyData.strOk s = true
theorem okT_app {a b : Str} (ha : OkT a) (hb : OkT b) : OkT (a ++ b) := by
  have e : (a ++ b).cps = a.cps ++ b.cps := rfl
  unfold OkT PyData.strOk at *
  rw [e, Array.all_append, ha, hb]
  rfl
theorem okT_join {sep : Str} (hs : OkT sep) : ∀ {ts : List Str}, (∀ t ∈ ts, OkT t) → OkT (Str.join sep ts)
  | [], _ => by
    show PyData.strOk Str.empty = true
    decide +kernel
  | [x], h => h x (by simp)
  | x :: y :: r, h => okT_app (okT_app (h x (by simp)) hs) (okT_join hs (ts := y :: r) fun t ht => h t (by simp [ht]))
theorem okT_tuple {ts : List Str} (h : ∀ t ∈ ts, OkT t) : OkT (tupleText ts) := by
  unfold tupleText
  refine okT_app (okT_app (by decide +kernel) (okT_join (by decide +kernel) h)) ?_
  split <;> decide +kernel
def OkS (p : PyData) : Prop := OkT p.shown
theorem OkS.tup {ps : List PyData} (h : ∀ p ∈ ps, OkS p) : OkS (.tuple ps) := by
  show OkT (PyData.shown (.tuple ps))
  simp only [PyData.shown, shownAll_map]
  exact okT_tuple fun t ht => by
    obtain ⟨p, hp, rfl⟩ := List.mem_map.mp ht
    exact h p hp
theorem OkS.str {s : Str} (h : s ∈ POOL) : OkS (.str s) := by
  have : ∀ s ∈ POOL, OkT (PyData.shown (.str s)) := by
    simp only [PyData.shown, OkT]
    decide +kernel
  exact this s h
theorem OkS.int {i : Int} (h1 : 0 ≤ i) (h2 : i ≤ 4) : OkS (.int i) := by
  have : i = 0 ∨ i = 1 ∨ i = 2 ∨ i = 3 ∨ i = 4 := by omega
  rcases this with rfl | rfl | rfl | rfl | rfl <;> (simp only [OkS, OkT, PyData.shown]; decide +kernel)
theorem OkS.o {lo : Int} {o : Option Int} (h : FanO lo o) : OkS (oP o) := by
  cases o with
  | none => simp only [OkS, OkT, oP, PyData.shown]; decide +kernel
  | some i => have := h.2.2 i rfl; exact OkS.int (by omega) (by omega)
theorem ok_shown {b : Bk} (hb : BkOk b) : OkT (bkP b).shown := by
  have two : ∀ {x y : PyData}, OkS x → OkS y → OkS (.tuple [x, y]) := fun {x y} h1 h2 => OkS.tup fun p hp => by
    simp only [List.mem_cons, List.not_mem_nil, or_false] at hp
    rcases hp with rfl | rfl <;> assumption
  refine OkS.tup (ps := [.tuple (b.ks.map .str), .tuple (b.rs.map prP), .tuple (b.ds.map drP)]) fun p hp => ?_
  simp only [List.mem_cons, List.not_mem_nil, or_false] at hp
  rcases hp with rfl | rfl | rfl
  · exact OkS.tup fun p hp => by
      obtain ⟨s, hs, rfl⟩ := List.mem_map.mp hp
      exact OkS.str (hb.kp s hs)
  · exact OkS.tup fun p hp => by
      obtain ⟨s, hs, rfl⟩ := List.mem_map.mp hp
      exact two (OkS.str (hb.kp _ (hb.r.mem s hs).1)) (OkS.str (hb.kp _ (hb.r.mem s hs).2.1))
  · exact OkS.tup fun p hp => by
      obtain ⟨d, hd, rfl⟩ := List.mem_map.mp hp
      have ok := hb.d d hd
      refine OkS.tup fun p hp => ?_
      simp only [List.mem_cons, List.not_mem_nil, or_false] at hp
      rcases hp with rfl | rfl | rfl | rfl | rfl
      · exact OkS.str ok.n
      · exact OkS.str (hb.kp _ ok.s)
      · exact OkS.str (hb.kp _ ok.g)
      · exact two (OkS.int ok.o.1 ok.o.2.1) (OkS.o ok.o)
      · exact two (OkS.int ok.i.1 ok.i.2.1) (OkS.o ok.i)
/-! ### the steps' shares -/
/-- a step: five parts, its share without a divisor -/
structure StOk (x : D) : Prop where
  ex : ∃ (a b w : D) (n d : Nat), x = .tup [a, b, .int n, .int d, w] ∧ 1 ≤ n ∧ 1 ≤ d ∧ Nat.gcd n d = 1 ∧ n ≤ 4 ∧ d ≤ 4
  pl : Pl 3 x
theorem pl_str {n : Nat} {s : Str} (h : s ∈ POOL) : Pl n (.str s) := .str n s (pool_ok s h)
theorem st_ok {x y side nm : Str} {h l : Int} (hx : x ∈ POOL) (hy : y ∈ POOL) (hs : PyData.strOk side = true) (hn : nm ∈ POOL) (h1 : 1 ≤ h) (h2 : h ≤ 4) (l1 : 1 ≤ l) (l2 : l ≤ 4) : StOk (stp x y h l side nm) := by
  have g0 : 0 < Nat.gcd h.toNat l.toNat := Nat.gcd_pos_of_pos_left _ (by omega)
  have d1 : (redN h.toNat l.toNat).1 ≤ h.toNat := Nat.div_le_self _ _
  have d2 : (redN h.toNat l.toNat).2 ≤ l.toNat := Nat.div_le_self _ _
  have e1 : 1 ≤ (redN h.toNat l.toNat).1 := Nat.div_pos (Nat.le_of_dvd (by omega) (Nat.gcd_dvd_left _ _)) g0
  have e2 : 1 ≤ (redN h.toNat l.toNat).2 := Nat.div_pos (Nat.le_of_dvd (by omega) (Nat.gcd_dvd_right _ _)) g0
  have e3 : Nat.gcd (redN h.toNat l.toNat).1 (redN h.toNat l.toNat).2 = 1 := by
    have all : ∀ a b : Fin 5, 0 < a.val → Nat.gcd (redN a.val b.val).1 (redN a.val b.val).2 = 1 := by decide +kernel
    exact all ⟨h.toNat, by omega⟩ ⟨l.toNat, by omega⟩ (by show 0 < h.toNat; omega)
  refine ⟨⟨_, _, _, _, _, rfl, e1, e2, e3, by omega, by omega⟩, .tup 2 _ (by simp) fun z hz => ?_⟩
  simp only [List.mem_cons, List.not_mem_nil, or_false] at hz
  rcases hz with rfl | rfl | rfl | rfl | rfl
  · exact pl_str hx
  · exact pl_str hy
  · exact .int _ _
  · exact .int _ _
  · refine .tup 1 _ (by simp) fun z hz => ?_
    simp only [List.mem_cons, List.not_mem_nil, or_false] at hz
    rcases hz with rfl | rfl
    · exact .str _ _ hs
    · exact pl_str hn
theorem stM_ok {b : Bk} (hb : BkOk b) : (∀ x ∈ stM b, StOk x) ∧ (stM b).length ≤ 30 := by
  have side : ∀ {x y nm sd : Str} {o : Option Int} {l l' : Int}, x ∈ POOL → y ∈ POOL → nm ∈ POOL → PyData.strOk sd = true → FanO l' o → 0 ≤ l → l ≤ 4 → (∀ z ∈ stIf x y o l sd nm, StOk z) ∧ (stIf x y o l sd nm).length ≤ 1 := by
    intro x y nm sd o l l' hx hy hn hs hf h1 h2
    unfold stIf
    cases o with
    | none => simp
    | some h =>
      have := hf.2.2 h rfl
      by_cases hc : 0 < l
      · simp only [if_pos hc, List.mem_singleton, List.length_singleton, Nat.le_refl, and_true]
        rintro z rfl
        exact st_ok hx hy hs hn (by omega) (by omega) (by omega) (by omega)
      · simp [hc]
  have doors : ∀ ds : List Dr, (∀ d ∈ ds, DrOk b.ks d) → (∀ x ∈ ds.flatMap fun d => stO d ++ stI d, StOk x) ∧ (ds.flatMap fun d => stO d ++ stI d).length ≤ 2 * ds.length := by
    intro ds
    induction ds with
    | nil => intro _; simp
    | cons d r ih =>
      intro hd
      have ok := hd d (by simp)
      obtain ⟨i1, i2⟩ := ih fun x hx => hd x (by simp [hx])
      obtain ⟨a1, a2⟩ := side (sd := "out") (hb.kp _ ok.s) (hb.kp _ ok.g) ok.n (by decide +kernel) ok.i ok.o.1 ok.o.2.1
      obtain ⟨c1, c2⟩ := side (sd := "into") (hb.kp _ ok.g) (hb.kp _ ok.s) ok.n (by decide +kernel) ok.o ok.i.1 ok.i.2.1
      rw [List.flatMap_cons]
      refine ⟨fun x hx => ?_, ?_⟩
      · simp only [List.mem_append] at hx
        rcases hx with (hx | hx) | hx
        · exact a1 x hx
        · exact c1 x hx
        · exact i1 x hx
      · have a2' : (stO d).length ≤ 1 := a2
        have c2' : (stI d).length ≤ 1 := c2
        simp only [List.length_append, List.length_cons]
        omega
  obtain ⟨d1, d2⟩ := doors b.ds hb.d
  refine ⟨fun x hx => ?_, ?_⟩
  · rcases List.mem_append.mp hx with hx | hx
    · obtain ⟨p, hp, rfl⟩ := List.mem_map.mp hx
      have hm := hb.r.mem p hp
      refine ⟨⟨_, _, _, 1, 1, rfl, by omega, by omega, by decide, by omega, by omega⟩, .tup 2 _ (by simp) fun z hz => ?_⟩
      simp only [List.mem_cons, List.not_mem_nil, or_false] at hz
      rcases hz with rfl | rfl | rfl | rfl | rfl
      · exact pl_str (hb.kp _ hm.1)
      · exact pl_str (hb.kp _ hm.2.1)
      · exact .int _ _
      · exact .int _ _
      · refine .tup 1 _ (by simp) fun z hz => ?_
        simp only [List.mem_cons, List.not_mem_nil, or_false] at hz
        subst hz
        exact .str _ _ (by decide +kernel)
    · exact d1 x hx
  · have := hb.rn
    have := hb.dn
    simp only [stM, List.length_append, List.length_map]
    omega
theorem stM_pl {b : Bk} (hb : BkOk b) : Pl 4 (.tup (stM b)) := .tup 3 _ (by have := (stM_ok hb).2; omega) fun x hx => ((stM_ok hb).1 x hx).pl
end Lw
end
section
set_option linter.all false
set_option maxRecDepth 100000
set_option maxHeartbeats 4000000
namespace Lw
open PySem L2 Ev
variable {wf k : Nat} {S : Sto}
local macro_rules | `(tactic| walk_at "ev") => `(tactic| simp -implicitDefEqProofs (discharger := first | omega | assumption | decide) only [evTs, evT, evE, evEs, evC, evO, evI, List.map_cons, List.map_nil, List.getElem?_cons_zero, List.getElem?_cons_succ, List.set_cons_zero, List.set_cons_succ, bnd_some, bnd_none, binD_add, binD_sub, binD_mulr, binD_fdiv, binD_mod, set_one, Option.map_some, cmp_lt, cmp_gt, cmp_le, cmp_ge, cmp_eqi, tru_bl, len_tup, List.length_cons, List.length_nil, b2_max, b2_min, fin_ret, fin_nx, atI_zero, atI_one, atI_two, set_many, setAll, List.cons_append, List.nil_append, ii_t, ii_b, ii_s, ii_i, is_t, is_b, is_s, it_t, isn_i, isn_s, isnn, Bool.not_true, Bool.not_false, if_true, Bool.false_eq_true, if_false])
theorem gcd_k {n d kk : Nat} (hk : 2 ≤ kk) (hg : Nat.gcd n d = 1) : ¬ (n % kk = 0 ∧ d % kk = 0) := by
  rintro ⟨h1, h2⟩
  have h3 : kk ∣ Nat.gcd n d := Nat.dvd_gcd (Nat.dvd_of_mod_eq_zero h1) (Nat.dvd_of_mod_eq_zero h2)
  rw [hg] at h3
  have := Nat.le_of_dvd (by omega) h3
  omega
section
variable {r0 r1 r2 r3 r4 r5 r6 r7 r10 r11 : Option D}
theorem k_step {n d kk : Nat} (hk : 2 ≤ kk) (hg : Nat.gcd n d = 1) : stepC (evE (callF P wf k) c_29_2) (evO (callF P wf k) q_29_1) (.one 11) (wipeE [r0, r1, r2, r3, r4, r5, r6, r7, some (.int n), some (.int d), r10, r11] [11]) (.int kk) S = some (none, S) := by
  have hn := gcd_k hk hg
  unfold stepC
  simp only [wipeE, List.set_cons_succ, List.set_cons_zero]
  try walk_at "ev"
  unfold q_29_1
  try walk_at "ev"
  by_cases h1 : n % kk = 0
  · have h2 : ¬ d % kk = 0 := fun z => hn ⟨h1, z⟩
    have e1 : ((n : Int) % (kk : Int) == 0) = true := by rw [beq_iff_eq]; omega
    have e2 : ((d : Int) % (kk : Int) == 0) = false := by rw [beq_eq_false_iff_ne]; omega
    rw [e1]
    try walk_at "ev"
    rw [e2]
    try walk_at "ev"
  · have e1 : ((n : Int) % (kk : Int) == 0) = false := by rw [beq_eq_false_iff_ne]; omega
    rw [e1]
    try walk_at "ev"
theorem share_turn {x : D} (hx : StOk x) {r8 r9 : Option D} : ∃ u6 u7 u8 u9 u10 S', stepF (.many [6, 7, 8, 9, 10]) (evTs (callF P wf k) wf l_29_3) x [r0, r1, r2, r3, r4, r5, r6, r7, r8, r9, r10, r11] S = some (.nx [r0, r1, r2, r3, r4, r5, u6, u7, u8, u9, u10, r11], S') ∧ Kp S S' := by
  obtain ⟨a, b, w, n, d, rfl, h1, h2, hg, _, _⟩ := hx.ex
  refine ⟨some a, some b, some (.int n), some (.int d), some w, S ++ [.lst []], ?_, Kp.new⟩
  have hc : compL ⟨rangeD 2 3, []⟩ S.length (stepC (evE (callF P wf k) c_29_2) (evO (callF P wf k) q_29_1) (.one 11) (wipeE [r0, r1, r2, r3, r4, r5, some a, some b, some (.int n), some (.int d), some w, r11] [11])) (rangeD 2 3) (S ++ [.lst []]) = some ((), S ++ [.lst []]) := by
    have hr : rangeD 2 3 = [.int ((2 : Nat) : Int), .int ((3 : Nat) : Int), .int ((4 : Nat) : Int)] := rfl
    rw [hr, compL_drop rfl (k_step (by omega) hg), compL_drop rfl (k_step (by omega) hg), compL_drop rfl (k_step (by omega) hg), compL_nil rfl]
  unfold stepF l_29_3
  try walk_at "ev"
  rw [rng2_of (by omega) (by omega) (by omega) (by omega)]
  try walk_at "ev"
  rw [show ((5 : Int) - 2).toNat = 3 from rfl, hc]
  try walk_at "ev"
  rw [len_ref (itemsAt_lst get_new)]
  try walk_at "ev"
  rw [show decide ((0 : Int) < ((0 : Nat) : Int)) = false by decide]
  try walk_at "ev"
  rw [decide_eq_false (show ¬ (n : Int) < 1 by omega)]
  try walk_at "ev"
  rw [decide_eq_false (show ¬ (d : Int) < 1 by omega)]
  try walk_at "ev"
theorem shares_loop {s : Src} (hs : s.held = []) : ∀ (xs : List D) (S : Sto) (r6 r7 r8 r9 r10 : Option D), (∀ x ∈ xs, StOk x) → ∃ u6 u7 u8 u9 u10 S', forL s (stepF (.many [6, 7, 8, 9, 10]) (evTs (callF P wf k) wf l_29_3)) xs [r0, r1, r2, r3, r4, r5, r6, r7, r8, r9, r10, r11] S = some (.nx [r0, r1, r2, r3, r4, r5, u6, u7, u8, u9, u10, r11], S') ∧ Kp S S'
  | [], S, r6, r7, r8, r9, r10, _ => ⟨r6, r7, r8, r9, r10, S, forL_nil hs, Kp.refl S⟩
  | x :: xs, S, r6, r7, r8, r9, r10, h => by
    obtain ⟨u6, u7, u8, u9, u10, S1, e1, k1⟩ := share_turn (wf := wf) (k := k) (S := S) (r0 := r0) (r1 := r1) (r2 := r2) (r3 := r3) (r4 := r4) (r5 := r5) (r6 := r6) (r7 := r7) (r10 := r10) (r11 := r11) (h x (by simp)) (r8 := r8) (r9 := r9)
    obtain ⟨w6, w7, w8, w9, w10, S2, e2, k2⟩ := shares_loop hs xs S1 u6 u7 u8 u9 u10 fun y hy => h y (by simp [hy])
    exact ⟨w6, w7, w8, w9, w10, S2, by rw [forL_cons hs e1, e2], k1.trans k2⟩
end
theorem law_turn {dk fd a : Nat} {r0 t : D} {r2 r3 r4 r5 r6 r7 r8 r9 r10 r11 : Option D} (hw : 4000 ≤ wf) (ha : a < 900000) (h : Deck dk fd a S) :
    ∃ u3 u4 u5 u6 u7 u8 u9 u10 S', stepF (.one 2) (evTs (callF P wf (k + 10)) wf l_29_4) t [some r0, some (.ref dk), r2, r3, r4, r5, r6, r7, r8, r9, r10, r11] S = some (.nx [some r0, some (.ref dk), some t, u3, u4, u5, u6, u7, u8, u9, u10, r11], S') ∧ Deck dk fd (a + 300) S' := by
  obtain ⟨b, S1, e1, hb, d1, _⟩ := run_book (wf := wf) (k := k + 5) (S := S) (by omega) h
  obtain ⟨S2, e2, k2⟩ := run_steps (wf := wf) (k := k + 7) (S := S1) hw hb
  obtain ⟨S3, e3, k3⟩ := run_lsteps (wf := wf) (k := k + 8) (S := S2) hb
  obtain ⟨S4, e4, k4⟩ := run_same (wf := wf) (k := k + 5) 4 (.tup (stM b)) S3 (stM_pl hb)
  obtain ⟨S5, e5, k5⟩ := run_steps (wf := wf) (k := k + 7) (S := S4) hw hb
  obtain ⟨S6, e6, k6⟩ := run_same (wf := wf) (k := k + 5) 4 (.tup (stM b)) S5 (stM_pl hb)
  obtain ⟨S7, e7, k7⟩ := run_is_book (wf := wf) (k := k + 5) (S := S6) hb
  obtain ⟨u6, u7, u8, u9, u10, S8, e8, k8⟩ := shares_loop (wf := wf) (k := k + 10) (s := ⟨stM b, []⟩) (r0 := some r0) (r1 := some (.ref dk)) (r2 := some t) (r3 := some (bk b)) (r4 := some (.str (bkP b).shown)) (r5 := some (.tup (stM b))) (r11 := r11) rfl (stM b) S7 r6 r7 r8 r9 r10 (stM_ok hb).1
  have kk : Kp S1 S8 := k2.trans (k3.trans (k4.trans (k5.trans (k6.trans (k7.trans k8)))))
  refine ⟨some (bk b), some (.str (bkP b).shown), some (.tup (stM b)), u6, u7, u8, u9, u10, S8, ?_, kk.deck d1⟩
  unfold stepF l_29_4
  try walk_at "ev"
  rw [e1]
  try walk_at "ev"
  rw [repr_bk hb]
  try walk_at "ev"
  rw [e2]
  try walk_at "ev"
  rw [e3]
  try walk_at "ev"
  rw [e4]
  try walk_at "ev"
  rw [e5]
  try walk_at "ev"
  rw [e6]
  try walk_at "ev"
  rw [repr_bk hb]
  try walk_at "ev"
  rw [cmp_ne_str (ok_shown hb) (ok_shown hb)]
  simp only [beq_self_eq_true]
  try walk_at "ev"
  rw [e7]
  try walk_at "ev"
  rw [show cmpD S7 .IsNot (.bl true) (.bl true) = some false from rfl]
  try walk_at "ev"
  rw [show srcD S7 (.tup (stM b)) = some (⟨stM b, []⟩, S7) from rfl]
  try walk_at "ev"
  rw [e8]
  try walk_at "ev"
theorem law_loop {dk fd : Nat} {r0 : D} {r11 : Option D} {s : Src} (hw : 4000 ≤ wf) (hs : s.held = []) : ∀ (xs : List D) (a : Nat) (S : Sto) (r2 r3 r4 r5 r6 r7 r8 r9 r10 : Option D), a + 300 * xs.length < 900000 → Deck dk fd a S →
    ∃ ρ S', forL s (stepF (.one 2) (evTs (callF P wf (k + 10)) wf l_29_4)) xs [some r0, some (.ref dk), r2, r3, r4, r5, r6, r7, r8, r9, r10, r11] S = some (.nx ρ, S')
  | [], a, S, r2, r3, r4, r5, r6, r7, r8, r9, r10, _, _ => ⟨_, S, forL_nil hs⟩
  | x :: xs, a, S, r2, r3, r4, r5, r6, r7, r8, r9, r10, hl, h => by
    simp only [List.length_cons] at hl
    obtain ⟨u3, u4, u5, u6, u7, u8, u9, u10, S1, e1, d1⟩ := law_turn (wf := wf) (k := k) (S := S) (t := x) (r0 := r0) (r2 := r2) (r3 := r3) (r4 := r4) (r5 := r5) (r6 := r6) (r7 := r7) (r8 := r8) (r9 := r9) (r10 := r10) (r11 := r11) hw (by omega) h
    obtain ⟨ρ, S2, e2⟩ := law_loop hw hs xs (a + 300) S1 (some x) u3 u4 u5 u6 u7 u8 u9 u10 (by omega) d1
    exact ⟨ρ, S2, by rw [forL_cons hs e1, e2]⟩
end Lw
end
section
set_option linter.all false
set_option maxRecDepth 100000
set_option maxHeartbeats 4000000
namespace Lw
open PySem L2 Ev
variable {wf k : Nat} {S : Sto}
local macro_rules | `(tactic| walk_at "ev") => `(tactic| simp -implicitDefEqProofs (discharger := first | omega | assumption | decide) only [evTs, evT, evE, evEs, evC, evO, evI, List.map_cons, List.map_nil, List.getElem?_cons_zero, List.getElem?_cons_succ, List.set_cons_zero, List.set_cons_succ, bnd_some, bnd_none, binD_add, binD_sub, binD_mulr, binD_fdiv, binD_mod, set_one, Option.map_some, cmp_lt, cmp_gt, cmp_le, cmp_ge, cmp_eqi, tru_bl, len_tup, List.length_cons, List.length_nil, b2_max, b2_min, fin_ret, fin_nx, atI_zero, atI_one, atI_two, set_many, setAll, List.cons_append, List.nil_append, Bool.not_true, Bool.not_false, if_true, Bool.false_eq_true, if_false])
section
variable {x : D} {fd : Nat} {r2 r3 r5 : Option D}
theorem rest_while : ∀ (fuel : Nat) (found : List Int) (rest : Int) (S : Sto), 3000 - found.length < fuel → S[fd]? = some (.lst (found.map D.int)) →
    ∃ found' rest' S', whileL (evC (callF P wf k) c_18_1) (evTs (callF P wf k) wf l_18_2) fuel [some x, some (.ref fd), r2, r3, some (.int rest), r5] S = some (.nx [some x, some (.ref fd), r2, r3, some (.int rest'), r5], S') ∧ S'[fd]? = some (.lst (List.map D.int found')) ∧ (found'.length ≤ found.length ∨ found'.length ≤ 3000) ∧ Fr fd S S'
  | 0, _, _, _, h, _ => by omega
  | fuel + 1, found, rest, S, h, hf => by
    conv => enter [1, found', 1, rest', 1, S', 1, 1]; unfold whileL c_18_1
    try walk_at "ev"
    by_cases h1 : 0 < rest
    · rw [decide_eq_true h1]
      try walk_at "ev"
      rw [len_ref (itemsAt_lst hf)]
      try walk_at "ev"
      by_cases h2 : found.length < 3000
      · rw [decide_eq_true (show (((found.map D.int).length : Nat) : Int) < 3000 by rw [List.length_map]; omega)]
        obtain ⟨S1, hS1⟩ : ∃ S1, S1 = S.set fd (.lst (found.map D.int ++ [.int (rest % 1000000)])) := ⟨_, rfl⟩
        have g1 : S1[fd]? = some (.lst ((found ++ [rest % 1000000]).map D.int)) := by rw [hS1, List.map_append]; exact get_set hf
        obtain ⟨f', r', S', e, q1, q2, q3⟩ := rest_while fuel (found ++ [rest % 1000000]) (rest / 1000000) S1 (by rw [List.length_append]; simp only [List.length_cons, List.length_nil]; omega) g1
        refine ⟨f', r', S', ?_, q1, ?_, Fr.trans (hS1 ▸ Fr.set) q3⟩
        · rw [show evTs (callF P wf k) wf l_18_2 [some x, some (.ref fd), r2, r3, some (.int rest), r5] S = some (.nx [some x, some (.ref fd), r2, r3, some (.int (rest / 1000000)), r5], S1) from ?_]
          · try walk_at "ev"
            exact e
          · unfold l_18_2
            try walk_at "ev"
            rw [isL_of (itemsAt_lst hf)]
            try walk_at "ev"
            rw [m2_append hf (by rw [List.length_map]; omega), ← hS1]
            try walk_at "ev"
        · rw [List.length_append] at q2
          simp only [List.length_cons, List.length_nil] at q2
          omega
      · rw [decide_eq_false (show ¬ (((found.map D.int).length : Nat) : Int) < 3000 by rw [List.length_map]; omega)]
        try walk_at "ev"
        exact ⟨found, rest, S, rfl, hf, .inl (Nat.le_refl _), Fr.refl _ _⟩
    · rw [decide_eq_false h1]
      try walk_at "ev"
      exact ⟨found, rest, S, rfl, hf, .inl (Nat.le_refl _), Fr.refl _ _⟩
theorem six_loop {i : Nat} (hi : i < 63) {rest : Int} {s : Src} (hs : s.held = []) {n : Nat} : ∀ (js : List Nat) (acc : List Int) (S : Sto), (∀ j ∈ js, j < 6) → acc.length + js.length ≤ 6 → S[n]? = some (.lst (acc.map D.int)) →
    ∃ acc' S', compL s n (stepC (evE (callF P wf (k + 1)) c_18_3) (fun _ S1 => some (none, S1)) (.one 5) [some x, some (.ref fd), r2, some (.int i), some (.int rest), none]) (js.map fun (j : Nat) => D.int (0 + (j : Int))) S = some ((), S') ∧ S'[n]? = some (.lst (List.map D.int acc')) ∧ acc'.length ≤ 6 ∧ Fr n S S'
  | [], acc, S, _, hl, hn => ⟨acc, S, compL_nil hs, hn, by simpa using hl, Fr.refl _ _⟩
  | j :: js, acc, S, hj, hl, hn => by
    have hj0 := hj j (by simp)
    simp only [List.length_cons] at hl
    have e1 : stepC (evE (callF P wf (k + 1)) c_18_3) (fun _ S1 => some (none, S1)) (.one 5) [some x, some (.ref fd), r2, some (.int i), some (.int rest), none] (D.int (0 + (j : Int))) S = some (some (.int (mixed rest (6 * (i : Int) + (0 + (j : Int))))), S) := by
      unfold stepC c_18_3
      try walk_at "ev"
      rw [run_mixed _ _ (by omega)]
      try walk_at "ev"
    obtain ⟨acc', S', q1, q2, q3, q4⟩ := six_loop hi hs js (acc ++ [mixed rest (6 * (i : Int) + (0 + (j : Int)))]) (S.set n (.lst (acc.map D.int ++ [.int (mixed rest (6 * (i : Int) + (0 + (j : Int))))]))) (fun y hy => hj y (by simp [hy])) (by rw [List.length_append]; simp only [List.length_cons, List.length_nil]; omega) (by rw [List.map_append]; exact get_set hn)
    exact ⟨acc', S', by rw [List.map_cons, compL_keep hs e1 hn (by rw [List.length_map]; omega), q1], q2, q3, Fr.set.trans q4⟩
end
end Lw
end
section
set_option linter.all false
set_option maxRecDepth 100000
set_option maxHeartbeats 4000000
namespace Lw
open PySem L2 Ev
variable {wf k : Nat} {S : Sto}
local macro_rules | `(tactic| walk_at "ev") => `(tactic| simp -implicitDefEqProofs (discharger := first | omega | assumption | decide) only [evTs, evT, evE, evEs, evC, evO, evI, List.map_cons, List.map_nil, List.getElem?_cons_zero, List.getElem?_cons_succ, List.set_cons_zero, List.set_cons_succ, bnd_some, bnd_none, binD_add, binD_sub, binD_mulr, binD_fdiv, binD_mod, set_one, Option.map_some, cmp_lt, cmp_gt, cmp_le, cmp_ge, cmp_eqi, tru_bl, len_tup, List.length_cons, List.length_nil, b2_max, b2_min, fin_ret, fin_nx, atI_zero, atI_one, atI_two, set_many, setAll, List.cons_append, List.nil_append, Bool.not_true, Bool.not_false, if_true, Bool.false_eq_true, if_false])
theorem binD_pow18 : binD S .Pow (.int 10) (.int 18) = some (.int (10 ^ 18), S) := by
  show (if (0 : Int) ≤ 18 ∧ (18 : Int) ≤ 1000000 ∧ (10 : Int).natAbs < 2 ^ 64 then some (D.int ((10 : Int) ^ (18 : Int).toNat), S) else none) = _
  rw [if_pos (by decide)]
  rfl
theorem deck_turn {ns found : List Int} {fd i : Nat} {whole : Int} {r3 r4 r5 : Option D} (hw : 4000 ≤ wf) (hi : i < 63) (hin : i < ns.length) (h0 : S[0]? = some (.fz (ns.map D.int))) (hf0 : fd ≠ 0) (hf : S[fd]? = some (.lst (found.map D.int))) (hl : found.length ≤ 3000 + 6 * i) :
    ∃ found' whole' u4 S', stepF (.one 3) (evTs (callF P wf (k + 1)) wf l_18_4) (.int (0 + (i : Int))) [some (.ref 0), some (.ref fd), some (.int whole), r3, r4, r5] S = some (.nx [some (.ref 0), some (.ref fd), some (.int whole'), some (.int i), u4, r5], S') ∧ S'[0]? = some (.fz (ns.map D.int)) ∧ S'[fd]? = some (.lst (List.map D.int found')) ∧ found'.length ≤ 3000 + 6 * (i + 1) := by
  have hg : (ns.map D.int)[i]? = some (.int (ns[i]'hin)) := by rw [List.getElem?_map, List.getElem?_eq_getElem hin]; rfl
  have hz : (0 : Int) + (i : Int) = (i : Int) := by omega
  rw [hz]
  obtain ⟨c, hc⟩ : ∃ c, c = ns[i]'hin := ⟨_, rfl⟩
  rw [← hc] at hg
  unfold stepF l_18_4
  try walk_at "ev"
  rw [ixD_ref (itemsAt_fz h0) (atI_nat' hg rfl)]
  try walk_at "ev"
  rw [binD_pow18]
  try walk_at "ev"
  by_cases h1 : (10 : Int) ^ 18 ≤ c
  · rw [decide_eq_true h1]
    obtain ⟨found', rest', S1, e1, g1, g2, g3⟩ := rest_while (wf := wf) (k := k + 1) (x := .ref 0) (r2 := some (.int whole)) (r3 := some (.int i)) (r5 := r5) wf found c S (by omega) hf
    try walk_at "ev"
    rw [e1]
    try walk_at "ev"
    have h0' := g3.get h0 (by omega)
    rw [ixD_ref (itemsAt_fz h0') (atI_nat' hg rfl)]
    try walk_at "ev"
    exact ⟨found', _, some (.int rest'), S1, rfl, h0', g1, by omega⟩
  · rw [decide_eq_false h1]
    obtain ⟨acc, S1, e1, g1, g2, g3⟩ := six_loop (wf := wf) (k := k) (x := .ref 0) (fd := fd) (r2 := some (.int whole)) (rest := c) (s := ⟨rangeD 0 6, []⟩) (n := S.length) hi rfl (List.range 6) [] (S ++ [.lst []]) (fun j hj => List.mem_range.mp hj) (by decide) get_new
    try walk_at "ev"
    rw [isL_of (itemsAt_lst hf)]
    try walk_at "ev"
    rw [rng1_of (by decide) (by decide)]
    try walk_at "ev"
    simp only [wipeE, List.set_cons_succ, List.set_cons_zero]
    rw [show compL ⟨rangeD 0 (6 : Int).toNat, []⟩ S.length _ (rangeD 0 (6 : Int).toNat) (S ++ [.lst []]) = _ from e1]
    try walk_at "ev"
    have hfl := get_lt hf
    have h0l := get_lt h0
    have hf1 : S1[fd]? = some (.lst (found.map D.int)) := g3.get ((List.getElem?_append_left hfl).trans hf) (by omega)
    have h01 : S1[0]? = some (.fz (ns.map D.int)) := g3.get ((List.getElem?_append_left h0l).trans h0) (by omega)
    rw [m2_extend hf1 g1 (by rw [List.length_map, List.length_map]; omega)]
    try walk_at "ev"
    have h02 : (S1.set fd (.lst (found.map D.int ++ acc.map D.int)))[0]? = some (.fz (ns.map D.int)) := by rw [List.getElem?_set_ne hf0]; exact h01
    rw [ixD_ref (itemsAt_fz h02) (atI_nat' hg rfl)]
    try walk_at "ev"
    exact ⟨found ++ acc, _, some (.int c), _, rfl, h02, by rw [List.map_append]; exact get_set hf1, by rw [List.length_append]; omega⟩
theorem deck_loop {ns : List Int} {fd : Nat} {s : Src} {r5 : Option D} (hw : 4000 ≤ wf) (hs : s.held = []) (hf0 : fd ≠ 0) : ∀ (n i : Nat) (found : List Int) (whole : Int) (r3 r4 : Option D) (S : Sto), i + n ≤ 63 → i + n ≤ ns.length → S[0]? = some (.fz (ns.map D.int)) → S[fd]? = some (.lst (found.map D.int)) → found.length ≤ 3000 + 6 * i →
    ∃ found' whole' u3 u4 S', forL s (stepF (.one 3) (evTs (callF P wf (k + 1)) wf l_18_4)) ((List.range' i n).map fun (j : Nat) => D.int (0 + (j : Int))) [some (.ref 0), some (.ref fd), some (.int whole), r3, r4, r5] S = some (.nx [some (.ref 0), some (.ref fd), some (.int whole'), u3, u4, r5], S') ∧ S'[fd]? = some (.lst (List.map D.int found')) ∧ found'.length ≤ 4000
  | 0, i, found, whole, r3, r4, S, h1, h2, h0, hf, hl => ⟨found, whole, r3, r4, S, forL_nil hs, hf, by omega⟩
  | n + 1, i, found, whole, r3, r4, S, h1, h2, h0, hf, hl => by
    obtain ⟨f1, w1, u4, S1, e1, q1, q2, q3⟩ := deck_turn (wf := wf) (k := k) (whole := whole) (r3 := r3) (r4 := r4) (r5 := r5) hw (show i < 63 by omega) (show i < ns.length by omega) h0 hf0 hf hl
    obtain ⟨f2, w2, v3, v4, S2, e2, q4, q5⟩ := deck_loop hw hs hf0 n (i + 1) f1 w1 (some (.int i)) u4 S1 (by omega) (by omega) q1 q2 q3
    exact ⟨f2, w2, v3, v4, S2, by rw [List.range'_succ, List.map_cons, forL_cons hs e1, e2], q4, q5⟩
theorem run_deck {ns : List Int} (hw : 4000 ≤ wf) (h0 : S[0]? = some (.fz (ns.map D.int))) : ∃ dk fd S', callF P wf (k + 2) 18 [.ref 0] S = some (.ref dk, S') ∧ Deck dk fd 0 S' := by
  have hne : S.length ≠ 0 := by have := get_lt h0; omega
  have h1 : (S ++ [.lst []])[0]? = some (.fz (ns.map D.int)) := (List.getElem?_append_left (get_lt h0)).trans h0
  generalize hm : (if (63 : Int) < (ns.length : Int) then 63 else (ns.length : Int)) = m
  have hm1 : 0 ≤ m ∧ m ≤ 63 ∧ m ≤ ns.length := by
    by_cases hc : (63 : Int) < (ns.length : Int)
    · rw [if_pos hc] at hm; omega
    · rw [if_neg hc] at hm; omega
  obtain ⟨f, w, u3, u4, S1, e1, g1, g2⟩ := deck_loop (wf := wf) (k := k) (ns := ns) (fd := S.length) (s := ⟨rangeD 0 m.toNat, []⟩) (r5 := none) hw rfl hne m.toNat 0 [] (ns.length : Int) none none (S ++ [.lst []]) (by omega) (by omega) h1 get_new (by simp)
  rw [← List.range_eq_range'] at e1
  rw [call_fin (b := b_18) (ρ := [some (.ref 0), none, none, none, none, none]) rfl rfl rfl, b_18]
  try walk_at "ev"
  rw [newL_of (by simp)]
  try walk_at "ev"
  rw [len_ref (itemsAt_fz h1)]
  try walk_at "ev"
  rw [len_ref (itemsAt_fz h1)]
  simp only [List.length_map]
  try walk_at "ev"
  rw [hm]
  rw [rng1_of (by omega) (by omega)]
  try walk_at "ev"
  rw [show forL ⟨rangeD 0 m.toNat, []⟩ _ (rangeD 0 m.toNat) _ _ = _ from e1]
  try walk_at "ev"
  rw [newL_of (by simp)]
  try walk_at "ev"
  have := get_lt g1
  exact ⟨S1.length, S.length, _, rfl, by omega, 0, w, f, by omega, by omega, get_new, (List.getElem?_append_left this).trans g1, by omega⟩
theorem run_law {ns : List Int} (hw : 4000 ≤ wf) : ∃ S', callF P wf 60 29 [.ref 0] [.fz (ns.map D.int)] = some (.bl true, S') := by
  obtain ⟨dk, fd, S1, e1, d1⟩ := run_deck (wf := wf) (k := 57) (S := [.fz (ns.map D.int)]) (ns := ns) hw rfl
  obtain ⟨ρ, S2, e2⟩ := law_loop (wf := wf) (k := 49) (r0 := .ref 0) (r11 := none) (s := ⟨rangeD 0 8, []⟩) hw rfl (rangeD 0 8) 0 S1 none none none none none none none none none (by decide) d1
  rw [call_fin (b := b_29) (ρ := [some (.ref 0), none, none, none, none, none, none, none, none, none, none, none]) rfl rfl rfl, b_29]
  try walk_at "ev"
  rw [e1]
  try walk_at "ev"
  rw [rng1_of (by decide) (by decide)]
  try walk_at "ev"
  rw [show forL ⟨rangeD 0 (8 : Int).toNat, []⟩ _ (rangeD 0 (8 : Int).toNat) _ _ = _ from e2]
  try walk_at "ev"
  exact ⟨S2, rfl⟩
end Lw
end
section
set_option Elab.async false
set_option linter.all false
set_option maxRecDepth 100000
set_option maxHeartbeats 0
namespace Lw
open PySem PySem.Spec PyProof.Rows L2 Ev
def top (i : Nat) : Stmt := PySem.Challenge.pw_fankinds_k15_steps.main.body.getD i (.Pass ⟨0, 0, 0, 0⟩)
def tab : Tab where
  fns := ["is_number", "is_tuple_of", "is_rising", "is_name", "is_fan", "is_book", "are_kinds", "are_rules", "is_rule", "are_doors", "is_door", "other_side", "end_of", "fan_at", "reduced", "steps_of", "door_steps", "_law_mixed", "_law_deck", "_law_next", "_law_pick", "_law_same", "_law_words", "_law_fan", "_law_rules", "_law_doors", "_law_book", "_law_share", "_law_steps", "law"]
  blts := ["all", "bool", "int", "isinstance", "len", "max", "min", "range", "repr", "sorted", "str", "tuple", "zip"]
  consts := [("KINDS", .int 6), ("RULES", .int 10), ("DOORS", .int 6), ("FAN", .int 4), ("LONGEST_NAME", .int 8), ("LETTERS", .str "abcdefghijklmnopqrstuvwxyz"), ("SIDES", .tup [.str "out", .str "into"])]
def N_0 : List Str := ["thing"]
def ps_0 : List Str := ["thing"]
theorem sc_0 : FnScope N_0 ps_0 (defScope (top 7)) := ⟨rfl, rfl, rfl, by decide +kernel, rfl, by decide +kernel, by decide +kernel⟩
theorem er_0 : mkTs ((defBody (top 7)).map (erT tab N_0 (defScope (top 7)) 40)) = b_0 := by kernel_rfl
def d_0 : He.DefD := ⟨("is_number", none), "is_number", "is_number", defArgs (top 7), defBody (top 7), defScope (top 7), [], []⟩
def N_1 : List Str := ["thing", "many"]
def ps_1 : List Str := ["thing", "many"]
theorem sc_1 : FnScope N_1 ps_1 (defScope (top 8)) := ⟨rfl, rfl, rfl, by decide +kernel, rfl, by decide +kernel, by decide +kernel⟩
theorem er_1 : mkTs ((defBody (top 8)).map (erT tab N_1 (defScope (top 8)) 40)) = b_1 := by kernel_rfl
def d_1 : He.DefD := ⟨("is_tuple_of", none), "is_tuple_of", "is_tuple_of", defArgs (top 8), defBody (top 8), defScope (top 8), [], []⟩
def N_2 : List Str := ["things", "one", "other"]
def ps_2 : List Str := ["things"]
theorem sc_2 : FnScope N_2 ps_2 (defScope (top 9)) := ⟨rfl, rfl, rfl, by decide +kernel, rfl, by decide +kernel, by decide +kernel⟩
theorem er_2 : mkTs ((defBody (top 9)).map (erT tab N_2 (defScope (top 9)) 40)) = b_2 := by kernel_rfl
def d_2 : He.DefD := ⟨("is_rising", none), "is_rising", "is_rising", defArgs (top 9), defBody (top 9), defScope (top 9), [], []⟩
def N_3 : List Str := ["thing", "letter"]
def ps_3 : List Str := ["thing"]
theorem sc_3 : FnScope N_3 ps_3 (defScope (top 10)) := ⟨rfl, rfl, rfl, by decide +kernel, rfl, by decide +kernel, by decide +kernel⟩
theorem er_3 : mkTs ((defBody (top 10)).map (erT tab N_3 (defScope (top 10)) 40)) = b_3 := by kernel_rfl
def d_3 : He.DefD := ⟨("is_name", none), "is_name", "is_name", defArgs (top 10), defBody (top 10), defScope (top 10), [], []⟩
def N_4 : List Str := ["thing", "low", "high"]
def ps_4 : List Str := ["thing"]
theorem sc_4 : FnScope N_4 ps_4 (defScope (top 11)) := ⟨rfl, rfl, rfl, by decide +kernel, rfl, by decide +kernel, by decide +kernel⟩
theorem er_4 : mkTs ((defBody (top 11)).map (erT tab N_4 (defScope (top 11)) 40)) = b_4 := by kernel_rfl
def d_4 : He.DefD := ⟨("is_fan", none), "is_fan", "is_fan", defArgs (top 11), defBody (top 11), defScope (top 11), [], []⟩
def N_5 : List Str := ["thing", "kinds", "rules", "doors"]
def ps_5 : List Str := ["thing"]
theorem sc_5 : FnScope N_5 ps_5 (defScope (top 14)) := ⟨rfl, rfl, rfl, by decide +kernel, rfl, by decide +kernel, by decide +kernel⟩
theorem er_5 : mkTs ((defBody (top 14)).map (erT tab N_5 (defScope (top 14)) 40)) = b_5 := by kernel_rfl
def d_5 : He.DefD := ⟨("is_book", none), "is_book", "is_book", defArgs (top 14), defBody (top 14), defScope (top 14), [], []⟩
def N_6 : List Str := ["thing", "kind"]
def ps_6 : List Str := ["thing"]
theorem sc_6 : FnScope N_6 ps_6 (defScope (top 15)) := ⟨rfl, rfl, rfl, by decide +kernel, rfl, by decide +kernel, by decide +kernel⟩
theorem er_6 : mkTs ((defBody (top 15)).map (erT tab N_6 (defScope (top 15)) 40)) = b_6 := by kernel_rfl
def d_6 : He.DefD := ⟨("are_kinds", none), "are_kinds", "are_kinds", defArgs (top 15), defBody (top 15), defScope (top 15), [], []⟩
def N_7 : List Str := ["kinds", "thing", "rule"]
def ps_7 : List Str := ["kinds", "thing"]
theorem sc_7 : FnScope N_7 ps_7 (defScope (top 16)) := ⟨rfl, rfl, rfl, by decide +kernel, rfl, by decide +kernel, by decide +kernel⟩
theorem er_7 : mkTs ((defBody (top 16)).map (erT tab N_7 (defScope (top 16)) 40)) = b_7 := by kernel_rfl
def d_7 : He.DefD := ⟨("are_rules", none), "are_rules", "are_rules", defArgs (top 16), defBody (top 16), defScope (top 16), [], []⟩
def N_8 : List Str := ["kinds", "thing", "low", "high"]
def ps_8 : List Str := ["kinds", "thing"]
theorem sc_8 : FnScope N_8 ps_8 (defScope (top 17)) := ⟨rfl, rfl, rfl, by decide +kernel, rfl, by decide +kernel, by decide +kernel⟩
theorem er_8 : mkTs ((defBody (top 17)).map (erT tab N_8 (defScope (top 17)) 40)) = b_8 := by kernel_rfl
def d_8 : He.DefD := ⟨("is_rule", none), "is_rule", "is_rule", defArgs (top 17), defBody (top 17), defScope (top 17), [], []⟩
def N_9 : List Str := ["kinds", "thing", "door"]
def ps_9 : List Str := ["kinds", "thing"]
theorem sc_9 : FnScope N_9 ps_9 (defScope (top 18)) := ⟨rfl, rfl, rfl, by decide +kernel, rfl, by decide +kernel, by decide +kernel⟩
theorem er_9 : mkTs ((defBody (top 18)).map (erT tab N_9 (defScope (top 18)) 40)) = b_9 := by kernel_rfl
def d_9 : He.DefD := ⟨("are_doors", none), "are_doors", "are_doors", defArgs (top 18), defBody (top 18), defScope (top 18), [], []⟩
def N_10 : List Str := ["kinds", "thing", "name", "start", "goal", "out", "into"]
def ps_10 : List Str := ["kinds", "thing"]
theorem sc_10 : FnScope N_10 ps_10 (defScope (top 19)) := ⟨rfl, rfl, rfl, by decide +kernel, rfl, by decide +kernel, by decide +kernel⟩
theorem er_10 : mkTs ((defBody (top 19)).map (erT tab N_10 (defScope (top 19)) 40)) = b_10 := by kernel_rfl
def d_10 : He.DefD := ⟨("is_door", none), "is_door", "is_door", defArgs (top 19), defBody (top 19), defScope (top 19), [], []⟩
def N_11 : List Str := ["side"]
def ps_11 : List Str := ["side"]
theorem sc_11 : FnScope N_11 ps_11 (defScope (top 20)) := ⟨rfl, rfl, rfl, by decide +kernel, rfl, by decide +kernel, by decide +kernel⟩
theorem er_11 : mkTs ((defBody (top 20)).map (erT tab N_11 (defScope (top 20)) 40)) = b_11 := by kernel_rfl
def d_11 : He.DefD := ⟨("other_side", none), "other_side", "other_side", defArgs (top 20), defBody (top 20), defScope (top 20), [], []⟩
def N_12 : List Str := ["door", "side"]
def ps_12 : List Str := ["door", "side"]
theorem sc_12 : FnScope N_12 ps_12 (defScope (top 21)) := ⟨rfl, rfl, rfl, by decide +kernel, rfl, by decide +kernel, by decide +kernel⟩
theorem er_12 : mkTs ((defBody (top 21)).map (erT tab N_12 (defScope (top 21)) 40)) = b_12 := by kernel_rfl
def d_12 : He.DefD := ⟨("end_of", none), "end_of", "end_of", defArgs (top 21), defBody (top 21), defScope (top 21), [], []⟩
def N_13 : List Str := ["door", "side"]
def ps_13 : List Str := ["door", "side"]
theorem sc_13 : FnScope N_13 ps_13 (defScope (top 22)) := ⟨rfl, rfl, rfl, by decide +kernel, rfl, by decide +kernel, by decide +kernel⟩
theorem er_13 : mkTs ((defBody (top 22)).map (erT tab N_13 (defScope (top 22)) 40)) = b_13 := by kernel_rfl
def d_13 : He.DefD := ⟨("fan_at", none), "fan_at", "fan_at", defArgs (top 22), defBody (top 22), defScope (top 22), [], []⟩
def N_14 : List Str := ["n", "d", "common", "rest"]
def ps_14 : List Str := ["n", "d"]
theorem sc_14 : FnScope N_14 ps_14 (defScope (top 24)) := ⟨rfl, rfl, rfl, by decide +kernel, rfl, by decide +kernel, by decide +kernel⟩
theorem er_14 : mkTs ((defBody (top 24)).map (erT tab N_14 (defScope (top 24)) 40)) = b_14 := by kernel_rfl
def d_14 : He.DefD := ⟨("reduced", none), "reduced", "reduced", defArgs (top 24), defBody (top 24), defScope (top 24), [], []⟩
def N_15 : List Str := ["book", "steps", "door", "low", "high"]
def ps_15 : List Str := ["book"]
theorem sc_15 : FnScope N_15 ps_15 (defScope (top 26)) := ⟨rfl, rfl, rfl, by decide +kernel, rfl, by decide +kernel, by decide +kernel⟩
theorem er_15 : mkTs ((defBody (top 26)).map (erT tab N_15 (defScope (top 26)) 40)) = b_15 := by kernel_rfl
def d_15 : He.DefD := ⟨("steps_of", none), "steps_of", "steps_of", defArgs (top 26), defBody (top 26), defScope (top 26), [], []⟩
def N_16 : List Str := ["door", "steps", "side", "far", "fewest", "most", "n", "d"]
def ps_16 : List Str := ["door"]
theorem sc_16 : FnScope N_16 ps_16 (defScope (top 27)) := ⟨rfl, rfl, rfl, by decide +kernel, rfl, by decide +kernel, by decide +kernel⟩
theorem er_16 : mkTs ((defBody (top 27)).map (erT tab N_16 (defScope (top 27)) 40)) = b_16 := by kernel_rfl
def d_16 : He.DefD := ⟨("door_steps", none), "door_steps", "door_steps", defArgs (top 27), defBody (top 27), defScope (top 27), [], []⟩
def N_17 : List Str := ["_law_cell", "_law_at", "_law_one"]
def ps_17 : List Str := ["_law_cell", "_law_at"]
theorem sc_17 : FnScope N_17 ps_17 (defScope (top 29)) := ⟨rfl, rfl, rfl, by decide +kernel, rfl, by decide +kernel, by decide +kernel⟩
theorem er_17 : mkTs ((defBody (top 29)).map (erT tab N_17 (defScope (top 29)) 40)) = b_17 := by kernel_rfl
def d_17 : He.DefD := ⟨("_law_mixed", none), "_law_mixed", "_law_mixed", defArgs (top 29), defBody (top 29), defScope (top 29), [], []⟩
def N_18 : List Str := ["_law_script", "_law_found", "_law_whole", "_law_k", "_law_rest", "_law_at"]
def ps_18 : List Str := ["_law_script"]
theorem sc_18 : FnScope N_18 ps_18 (defScope (top 30)) := ⟨rfl, rfl, rfl, by decide +kernel, rfl, by decide +kernel, by decide +kernel⟩
theorem er_18 : mkTs ((defBody (top 30)).map (erT tab N_18 (defScope (top 30)) 40)) = b_18 := by kernel_rfl
def d_18 : He.DefD := ⟨("_law_deck", none), "_law_deck", "_law_deck", defArgs (top 30), defBody (top 30), defScope (top 30), [], []⟩
def N_19 : List Str := ["_law_deck_here", "_law_many", "_law_at"]
def ps_19 : List Str := ["_law_deck_here", "_law_many"]
theorem sc_19 : FnScope N_19 ps_19 (defScope (top 31)) := ⟨rfl, rfl, rfl, by decide +kernel, rfl, by decide +kernel, by decide +kernel⟩
theorem er_19 : mkTs ((defBody (top 31)).map (erT tab N_19 (defScope (top 31)) 40)) = b_19 := by kernel_rfl
def d_19 : He.DefD := ⟨("_law_next", none), "_law_next", "_law_next", defArgs (top 31), defBody (top 31), defScope (top 31), [], []⟩
def N_20 : List Str := ["_law_deck_here", "_law_things"]
def ps_20 : List Str := ["_law_deck_here", "_law_things"]
theorem sc_20 : FnScope N_20 ps_20 (defScope (top 32)) := ⟨rfl, rfl, rfl, by decide +kernel, rfl, by decide +kernel, by decide +kernel⟩
theorem er_20 : mkTs ((defBody (top 32)).map (erT tab N_20 (defScope (top 32)) 40)) = b_20 := by kernel_rfl
def d_20 : He.DefD := ⟨("_law_pick", none), "_law_pick", "_law_pick", defArgs (top 32), defBody (top 32), defScope (top 32), [], []⟩
def N_21 : List Str := ["_law_thing", "_law_due", "_law_k"]
def ps_21 : List Str := ["_law_thing", "_law_due"]
theorem sc_21 : FnScope N_21 ps_21 (defScope (top 33)) := ⟨rfl, rfl, rfl, by decide +kernel, rfl, by decide +kernel, by decide +kernel⟩
theorem er_21 : mkTs ((defBody (top 33)).map (erT tab N_21 (defScope (top 33)) 40)) = b_21 := by kernel_rfl
def d_21 : He.DefD := ⟨("_law_same", none), "_law_same", "_law_same", defArgs (top 33), defBody (top 33), defScope (top 33), [], []⟩
def N_22 : List Str := ["_law_deck_here", "_law_many", "_law_pool", "_law_found", "_law_k"]
def ps_22 : List Str := ["_law_deck_here", "_law_many"]
theorem sc_22 : FnScope N_22 ps_22 (defScope (top 34)) := ⟨rfl, rfl, rfl, by decide +kernel, rfl, by decide +kernel, by decide +kernel⟩
theorem er_22 : mkTs ((defBody (top 34)).map (erT tab N_22 (defScope (top 34)) 40)) = b_22 := by kernel_rfl
def d_22 : He.DefD := ⟨("_law_words", none), "_law_words", "_law_words", defArgs (top 34), defBody (top 34), defScope (top 34), [], []⟩
def N_23 : List Str := ["_law_deck_here", "_law_low", "_law_high"]
def ps_23 : List Str := ["_law_deck_here"]
theorem sc_23 : FnScope N_23 ps_23 (defScope (top 35)) := ⟨rfl, rfl, rfl, by decide +kernel, rfl, by decide +kernel, by decide +kernel⟩
theorem er_23 : mkTs ((defBody (top 35)).map (erT tab N_23 (defScope (top 35)) 40)) = b_23 := by kernel_rfl
def d_23 : He.DefD := ⟨("_law_fan", none), "_law_fan", "_law_fan", defArgs (top 35), defBody (top 35), defScope (top 35), [], []⟩
def N_24 : List Str := ["_law_deck_here", "_law_kinds", "_law_limit", "_law_found", "_law_k", "_law_pair"]
def ps_24 : List Str := ["_law_deck_here", "_law_kinds", "_law_limit"]
theorem sc_24 : FnScope N_24 ps_24 (defScope (top 36)) := ⟨rfl, rfl, rfl, by decide +kernel, rfl, by decide +kernel, by decide +kernel⟩
theorem er_24 : mkTs ((defBody (top 36)).map (erT tab N_24 (defScope (top 36)) 40)) = b_24 := by kernel_rfl
def d_24 : He.DefD := ⟨("_law_rules", none), "_law_rules", "_law_rules", defArgs (top 36), defBody (top 36), defScope (top 36), [], []⟩
def N_25 : List Str := ["_law_deck_here", "_law_kinds", "_law_limit", "_law_names", "_law_found", "_law_name"]
def ps_25 : List Str := ["_law_deck_here", "_law_kinds", "_law_limit"]
theorem sc_25 : FnScope N_25 ps_25 (defScope (top 37)) := ⟨rfl, rfl, rfl, by decide +kernel, rfl, by decide +kernel, by decide +kernel⟩
theorem er_25 : mkTs ((defBody (top 37)).map (erT tab N_25 (defScope (top 37)) 40)) = b_25 := by kernel_rfl
def d_25 : He.DefD := ⟨("_law_doors", none), "_law_doors", "_law_doors", defArgs (top 37), defBody (top 37), defScope (top 37), [], []⟩
def N_26 : List Str := ["_law_deck_here", "_law_kinds", "_law_rules_here", "_law_doors_here", "_law_some"]
def ps_26 : List Str := ["_law_deck_here", "_law_kinds", "_law_rules_here", "_law_doors_here"]
theorem sc_26 : FnScope N_26 ps_26 (defScope (top 38)) := ⟨rfl, rfl, rfl, by decide +kernel, rfl, by decide +kernel, by decide +kernel⟩
theorem er_26 : mkTs ((defBody (top 38)).map (erT tab N_26 (defScope (top 38)) 40)) = b_26 := by kernel_rfl
def d_26 : He.DefD := ⟨("_law_book", none), "_law_book", "_law_book", defArgs (top 38), defBody (top 38), defScope (top 38), [], []⟩
def N_27 : List Str := ["_law_top", "_law_bottom", "_law_turn", "_law_one", "_law_other"]
def ps_27 : List Str := ["_law_top", "_law_bottom"]
theorem sc_27 : FnScope N_27 ps_27 (defScope (top 39)) := ⟨rfl, rfl, rfl, by decide +kernel, rfl, by decide +kernel, by decide +kernel⟩
theorem er_27 : mkTs ((defBody (top 39)).map (erT tab N_27 (defScope (top 39)) 40)) = b_27 := by kernel_rfl
def d_27 : He.DefD := ⟨("_law_share", none), "_law_share", "_law_share", defArgs (top 39), defBody (top 39), defScope (top 39), [], []⟩
def N_28 : List Str := ["_law_book_here", "_law_found", "_law_name", "_law_start", "_law_goal", "_law_out", "_law_into", "_law_low", "_law_high"]
def ps_28 : List Str := ["_law_book_here"]
theorem sc_28 : FnScope N_28 ps_28 (defScope (top 40)) := ⟨rfl, rfl, rfl, by decide +kernel, rfl, by decide +kernel, by decide +kernel⟩
theorem er_28 : mkTs ((defBody (top 40)).map (erT tab N_28 (defScope (top 40)) 40)) = b_28 := by kernel_rfl
def d_28 : He.DefD := ⟨("_law_steps", none), "_law_steps", "_law_steps", defArgs (top 40), defBody (top 40), defScope (top 40), [], []⟩
def N_29 : List Str := ["_law_script", "_law_deck_here", "_law_turn", "_law_book_here", "_law_kept", "_law_found", "_law_one", "_law_other", "_law_top", "_law_bottom", "_law_why", "_law_k"]
def ps_29 : List Str := ["_law_script"]
theorem sc_29 : FnScope N_29 ps_29 (defScope (top 41)) := ⟨rfl, rfl, rfl, by decide +kernel, rfl, by decide +kernel, by decide +kernel⟩
theorem er_29 : mkTs ((defBody (top 41)).map (erT tab N_29 (defScope (top 41)) 40)) = b_29 := by kernel_rfl
def d_29 : He.DefD := ⟨("law", none), "law", "law", defArgs (top 41), defBody (top 41), defScope (top 41), [], []⟩
def fn : List He.DefD := [d_0, d_1, d_2, d_3, d_4, d_5, d_6, d_7, d_8, d_9, d_10, d_11, d_12, d_13, d_14, d_15, d_16, d_17, d_18, d_19, d_20, d_21, d_22, d_23, d_24, d_25, d_26, d_27, d_28, d_29]
def fa : List He.Fa := [.glo "is_number", .glo "is_tuple_of", .glo "is_rising", .glo "is_name", .glo "is_fan", .glo "is_book", .glo "are_kinds", .glo "are_rules", .glo "is_rule", .glo "are_doors", .glo "is_door", .glo "other_side", .glo "end_of", .glo "fan_at", .glo "reduced", .glo "steps_of", .glo "door_steps", .glo "_law_mixed", .glo "_law_deck", .glo "_law_next", .glo "_law_pick", .glo "_law_same", .glo "_law_words", .glo "_law_fan", .glo "_law_rules", .glo "_law_doors", .glo "_law_book", .glo "_law_share", .glo "_law_steps", .glo "law", .glo "SIDES", .free "all", .free "bool", .free "int", .free "isinstance", .free "len", .free "max", .free "min", .free "range", .free "repr", .free "sorted", .free "str", .free "tuple", .free "zip", .int "KINDS" 6, .int "RULES" 10, .int "DOORS" 6, .int "FAN" 4, .int "LONGEST_NAME" 8, .str "LETTERS" "abcdefghijklmnopqrstuvwxyz"]
def ex (K : PySem.W.Frag) : Bool := K.all (fun p => decide (p.2.cls ≠ .type "list")) && He.tupB K "SIDES" [.str "out", .str "into"]
abbrev R : PySem.W.OpenRow := PySem.W.OpenLaw.row PySem.Challenge.rw_fankinds_k15_steps
def loose0 : List PySem.Str := ["KINDS", "RULES", "DOORS", "FAN", "LETTERS", "LONGEST_NAME", "is_number", "is_tuple_of", "is_rising", "is_name", "is_fan", "SIDES", "is_book", "are_kinds", "are_rules", "is_rule", "are_doors", "is_door", "other_side", "end_of", "fan_at", "reduced", "steps_of", "door_steps", "_law_mixed", "_law_deck", "_law_next", "_law_pick", "_law_same", "_law_words"]
def loose1 : List PySem.Str := ["_law_fan", "_law_rules", "_law_doors", "_law_book", "_law_share", "_law_steps"]
def loose : List PySem.Str := loose0 ++ loose1
abbrev hk : PySem.W.Hook := He.hookX 4 fa fn [] [] ex
def ob (s : PySem.W.SharedT) : He.AlX := He.obsX 4 fa fn [] [] ex (HandSHeadRun.getT s)
theorem ob_eq (s : PySem.W.SharedT) : ob s = hk.obs s.abs := He.obsX_eq (HandSHeadRun.getT_eq s)
theorem run (w : World) : HandSHeadRun.RunEq R (PySem.W.view R.prog [41]) hk ob 3000 loose w := by
  intro os
  kernel_rfl
section
variable {K : PySem.W.Frag} {h : Heap} {mg : Str → Option Value}
theorem nolist (c : ex K = true) : ∀ a o, K.lookup a = some o → o.cls ≠ .type "list" := by
  intro a o e
  have c1 : K.all (fun p => decide (p.2.cls ≠ .type "list")) = true := by
    unfold ex at c
    simp only [Bool.and_eq_true] at c
    exact c.1
  exact of_decide_eq_true (List.all_eq_true.mp c1 (a, o) (He.lookup_mem e))
theorem ok_0 (X : K.In h) (G : h.Ns mainGlobals mg) (c : He.SaysD fa fn K) : DefOk tab 40 P K mg 0 "is_number" := by
  obtain ⟨fd, F⟩ := c.def_ 0 (d := d_0) rfl
  exact ⟨_, fd, _, _, _, N_0, ps_0, F, sc_0, F.bindsN (fun _ _ _ _ _ _ us hl => match us, hl with | [_], _ => rfl), He.glo_ok X G (c.fact 0 (f := .glo "is_number") rfl), F.kp, by
    show P[0]? = some ⟨_, _, mkTs ((defBody (top 7)).map (erT tab N_0 (defScope (top 7)) 40))⟩
    rw [er_0]; rfl⟩
theorem ok_1 (X : K.In h) (G : h.Ns mainGlobals mg) (c : He.SaysD fa fn K) : DefOk tab 40 P K mg 1 "is_tuple_of" := by
  obtain ⟨fd, F⟩ := c.def_ 1 (d := d_1) rfl
  exact ⟨_, fd, _, _, _, N_1, ps_1, F, sc_1, F.bindsN (fun _ _ _ _ _ _ us hl => match us, hl with | [_, _], _ => rfl), He.glo_ok X G (c.fact 1 (f := .glo "is_tuple_of") rfl), F.kp, by
    show P[1]? = some ⟨_, _, mkTs ((defBody (top 8)).map (erT tab N_1 (defScope (top 8)) 40))⟩
    rw [er_1]; rfl⟩
theorem ok_2 (X : K.In h) (G : h.Ns mainGlobals mg) (c : He.SaysD fa fn K) : DefOk tab 40 P K mg 2 "is_rising" := by
  obtain ⟨fd, F⟩ := c.def_ 2 (d := d_2) rfl
  exact ⟨_, fd, _, _, _, N_2, ps_2, F, sc_2, F.bindsN (fun _ _ _ _ _ _ us hl => match us, hl with | [_], _ => rfl), He.glo_ok X G (c.fact 2 (f := .glo "is_rising") rfl), F.kp, by
    show P[2]? = some ⟨_, _, mkTs ((defBody (top 9)).map (erT tab N_2 (defScope (top 9)) 40))⟩
    rw [er_2]; rfl⟩
theorem ok_3 (X : K.In h) (G : h.Ns mainGlobals mg) (c : He.SaysD fa fn K) : DefOk tab 40 P K mg 3 "is_name" := by
  obtain ⟨fd, F⟩ := c.def_ 3 (d := d_3) rfl
  exact ⟨_, fd, _, _, _, N_3, ps_3, F, sc_3, F.bindsN (fun _ _ _ _ _ _ us hl => match us, hl with | [_], _ => rfl), He.glo_ok X G (c.fact 3 (f := .glo "is_name") rfl), F.kp, by
    show P[3]? = some ⟨_, _, mkTs ((defBody (top 10)).map (erT tab N_3 (defScope (top 10)) 40))⟩
    rw [er_3]; rfl⟩
theorem ok_4 (X : K.In h) (G : h.Ns mainGlobals mg) (c : He.SaysD fa fn K) : DefOk tab 40 P K mg 4 "is_fan" := by
  obtain ⟨fd, F⟩ := c.def_ 4 (d := d_4) rfl
  exact ⟨_, fd, _, _, _, N_4, ps_4, F, sc_4, F.bindsN (fun _ _ _ _ _ _ us hl => match us, hl with | [_], _ => rfl), He.glo_ok X G (c.fact 4 (f := .glo "is_fan") rfl), F.kp, by
    show P[4]? = some ⟨_, _, mkTs ((defBody (top 11)).map (erT tab N_4 (defScope (top 11)) 40))⟩
    rw [er_4]; rfl⟩
theorem ok_5 (X : K.In h) (G : h.Ns mainGlobals mg) (c : He.SaysD fa fn K) : DefOk tab 40 P K mg 5 "is_book" := by
  obtain ⟨fd, F⟩ := c.def_ 5 (d := d_5) rfl
  exact ⟨_, fd, _, _, _, N_5, ps_5, F, sc_5, F.bindsN (fun _ _ _ _ _ _ us hl => match us, hl with | [_], _ => rfl), He.glo_ok X G (c.fact 5 (f := .glo "is_book") rfl), F.kp, by
    show P[5]? = some ⟨_, _, mkTs ((defBody (top 14)).map (erT tab N_5 (defScope (top 14)) 40))⟩
    rw [er_5]; rfl⟩
theorem ok_6 (X : K.In h) (G : h.Ns mainGlobals mg) (c : He.SaysD fa fn K) : DefOk tab 40 P K mg 6 "are_kinds" := by
  obtain ⟨fd, F⟩ := c.def_ 6 (d := d_6) rfl
  exact ⟨_, fd, _, _, _, N_6, ps_6, F, sc_6, F.bindsN (fun _ _ _ _ _ _ us hl => match us, hl with | [_], _ => rfl), He.glo_ok X G (c.fact 6 (f := .glo "are_kinds") rfl), F.kp, by
    show P[6]? = some ⟨_, _, mkTs ((defBody (top 15)).map (erT tab N_6 (defScope (top 15)) 40))⟩
    rw [er_6]; rfl⟩
theorem ok_7 (X : K.In h) (G : h.Ns mainGlobals mg) (c : He.SaysD fa fn K) : DefOk tab 40 P K mg 7 "are_rules" := by
  obtain ⟨fd, F⟩ := c.def_ 7 (d := d_7) rfl
  exact ⟨_, fd, _, _, _, N_7, ps_7, F, sc_7, F.bindsN (fun _ _ _ _ _ _ us hl => match us, hl with | [_, _], _ => rfl), He.glo_ok X G (c.fact 7 (f := .glo "are_rules") rfl), F.kp, by
    show P[7]? = some ⟨_, _, mkTs ((defBody (top 16)).map (erT tab N_7 (defScope (top 16)) 40))⟩
    rw [er_7]; rfl⟩
theorem ok_8 (X : K.In h) (G : h.Ns mainGlobals mg) (c : He.SaysD fa fn K) : DefOk tab 40 P K mg 8 "is_rule" := by
  obtain ⟨fd, F⟩ := c.def_ 8 (d := d_8) rfl
  exact ⟨_, fd, _, _, _, N_8, ps_8, F, sc_8, F.bindsN (fun _ _ _ _ _ _ us hl => match us, hl with | [_, _], _ => rfl), He.glo_ok X G (c.fact 8 (f := .glo "is_rule") rfl), F.kp, by
    show P[8]? = some ⟨_, _, mkTs ((defBody (top 17)).map (erT tab N_8 (defScope (top 17)) 40))⟩
    rw [er_8]; rfl⟩
theorem ok_9 (X : K.In h) (G : h.Ns mainGlobals mg) (c : He.SaysD fa fn K) : DefOk tab 40 P K mg 9 "are_doors" := by
  obtain ⟨fd, F⟩ := c.def_ 9 (d := d_9) rfl
  exact ⟨_, fd, _, _, _, N_9, ps_9, F, sc_9, F.bindsN (fun _ _ _ _ _ _ us hl => match us, hl with | [_, _], _ => rfl), He.glo_ok X G (c.fact 9 (f := .glo "are_doors") rfl), F.kp, by
    show P[9]? = some ⟨_, _, mkTs ((defBody (top 18)).map (erT tab N_9 (defScope (top 18)) 40))⟩
    rw [er_9]; rfl⟩
theorem ok_10 (X : K.In h) (G : h.Ns mainGlobals mg) (c : He.SaysD fa fn K) : DefOk tab 40 P K mg 10 "is_door" := by
  obtain ⟨fd, F⟩ := c.def_ 10 (d := d_10) rfl
  exact ⟨_, fd, _, _, _, N_10, ps_10, F, sc_10, F.bindsN (fun _ _ _ _ _ _ us hl => match us, hl with | [_, _], _ => rfl), He.glo_ok X G (c.fact 10 (f := .glo "is_door") rfl), F.kp, by
    show P[10]? = some ⟨_, _, mkTs ((defBody (top 19)).map (erT tab N_10 (defScope (top 19)) 40))⟩
    rw [er_10]; rfl⟩
theorem ok_11 (X : K.In h) (G : h.Ns mainGlobals mg) (c : He.SaysD fa fn K) : DefOk tab 40 P K mg 11 "other_side" := by
  obtain ⟨fd, F⟩ := c.def_ 11 (d := d_11) rfl
  exact ⟨_, fd, _, _, _, N_11, ps_11, F, sc_11, F.bindsN (fun _ _ _ _ _ _ us hl => match us, hl with | [_], _ => rfl), He.glo_ok X G (c.fact 11 (f := .glo "other_side") rfl), F.kp, by
    show P[11]? = some ⟨_, _, mkTs ((defBody (top 20)).map (erT tab N_11 (defScope (top 20)) 40))⟩
    rw [er_11]; rfl⟩
theorem ok_12 (X : K.In h) (G : h.Ns mainGlobals mg) (c : He.SaysD fa fn K) : DefOk tab 40 P K mg 12 "end_of" := by
  obtain ⟨fd, F⟩ := c.def_ 12 (d := d_12) rfl
  exact ⟨_, fd, _, _, _, N_12, ps_12, F, sc_12, F.bindsN (fun _ _ _ _ _ _ us hl => match us, hl with | [_, _], _ => rfl), He.glo_ok X G (c.fact 12 (f := .glo "end_of") rfl), F.kp, by
    show P[12]? = some ⟨_, _, mkTs ((defBody (top 21)).map (erT tab N_12 (defScope (top 21)) 40))⟩
    rw [er_12]; rfl⟩
theorem ok_13 (X : K.In h) (G : h.Ns mainGlobals mg) (c : He.SaysD fa fn K) : DefOk tab 40 P K mg 13 "fan_at" := by
  obtain ⟨fd, F⟩ := c.def_ 13 (d := d_13) rfl
  exact ⟨_, fd, _, _, _, N_13, ps_13, F, sc_13, F.bindsN (fun _ _ _ _ _ _ us hl => match us, hl with | [_, _], _ => rfl), He.glo_ok X G (c.fact 13 (f := .glo "fan_at") rfl), F.kp, by
    show P[13]? = some ⟨_, _, mkTs ((defBody (top 22)).map (erT tab N_13 (defScope (top 22)) 40))⟩
    rw [er_13]; rfl⟩
theorem ok_14 (X : K.In h) (G : h.Ns mainGlobals mg) (c : He.SaysD fa fn K) : DefOk tab 40 P K mg 14 "reduced" := by
  obtain ⟨fd, F⟩ := c.def_ 14 (d := d_14) rfl
  exact ⟨_, fd, _, _, _, N_14, ps_14, F, sc_14, F.bindsN (fun _ _ _ _ _ _ us hl => match us, hl with | [_, _], _ => rfl), He.glo_ok X G (c.fact 14 (f := .glo "reduced") rfl), F.kp, by
    show P[14]? = some ⟨_, _, mkTs ((defBody (top 24)).map (erT tab N_14 (defScope (top 24)) 40))⟩
    rw [er_14]; rfl⟩
theorem ok_15 (X : K.In h) (G : h.Ns mainGlobals mg) (c : He.SaysD fa fn K) : DefOk tab 40 P K mg 15 "steps_of" := by
  obtain ⟨fd, F⟩ := c.def_ 15 (d := d_15) rfl
  exact ⟨_, fd, _, _, _, N_15, ps_15, F, sc_15, F.bindsN (fun _ _ _ _ _ _ us hl => match us, hl with | [_], _ => rfl), He.glo_ok X G (c.fact 15 (f := .glo "steps_of") rfl), F.kp, by
    show P[15]? = some ⟨_, _, mkTs ((defBody (top 26)).map (erT tab N_15 (defScope (top 26)) 40))⟩
    rw [er_15]; rfl⟩
theorem ok_16 (X : K.In h) (G : h.Ns mainGlobals mg) (c : He.SaysD fa fn K) : DefOk tab 40 P K mg 16 "door_steps" := by
  obtain ⟨fd, F⟩ := c.def_ 16 (d := d_16) rfl
  exact ⟨_, fd, _, _, _, N_16, ps_16, F, sc_16, F.bindsN (fun _ _ _ _ _ _ us hl => match us, hl with | [_], _ => rfl), He.glo_ok X G (c.fact 16 (f := .glo "door_steps") rfl), F.kp, by
    show P[16]? = some ⟨_, _, mkTs ((defBody (top 27)).map (erT tab N_16 (defScope (top 27)) 40))⟩
    rw [er_16]; rfl⟩
theorem ok_17 (X : K.In h) (G : h.Ns mainGlobals mg) (c : He.SaysD fa fn K) : DefOk tab 40 P K mg 17 "_law_mixed" := by
  obtain ⟨fd, F⟩ := c.def_ 17 (d := d_17) rfl
  exact ⟨_, fd, _, _, _, N_17, ps_17, F, sc_17, F.bindsN (fun _ _ _ _ _ _ us hl => match us, hl with | [_, _], _ => rfl), He.glo_ok X G (c.fact 17 (f := .glo "_law_mixed") rfl), F.kp, by
    show P[17]? = some ⟨_, _, mkTs ((defBody (top 29)).map (erT tab N_17 (defScope (top 29)) 40))⟩
    rw [er_17]; rfl⟩
theorem ok_18 (X : K.In h) (G : h.Ns mainGlobals mg) (c : He.SaysD fa fn K) : DefOk tab 40 P K mg 18 "_law_deck" := by
  obtain ⟨fd, F⟩ := c.def_ 18 (d := d_18) rfl
  exact ⟨_, fd, _, _, _, N_18, ps_18, F, sc_18, F.bindsN (fun _ _ _ _ _ _ us hl => match us, hl with | [_], _ => rfl), He.glo_ok X G (c.fact 18 (f := .glo "_law_deck") rfl), F.kp, by
    show P[18]? = some ⟨_, _, mkTs ((defBody (top 30)).map (erT tab N_18 (defScope (top 30)) 40))⟩
    rw [er_18]; rfl⟩
theorem ok_19 (X : K.In h) (G : h.Ns mainGlobals mg) (c : He.SaysD fa fn K) : DefOk tab 40 P K mg 19 "_law_next" := by
  obtain ⟨fd, F⟩ := c.def_ 19 (d := d_19) rfl
  exact ⟨_, fd, _, _, _, N_19, ps_19, F, sc_19, F.bindsN (fun _ _ _ _ _ _ us hl => match us, hl with | [_, _], _ => rfl), He.glo_ok X G (c.fact 19 (f := .glo "_law_next") rfl), F.kp, by
    show P[19]? = some ⟨_, _, mkTs ((defBody (top 31)).map (erT tab N_19 (defScope (top 31)) 40))⟩
    rw [er_19]; rfl⟩
theorem ok_20 (X : K.In h) (G : h.Ns mainGlobals mg) (c : He.SaysD fa fn K) : DefOk tab 40 P K mg 20 "_law_pick" := by
  obtain ⟨fd, F⟩ := c.def_ 20 (d := d_20) rfl
  exact ⟨_, fd, _, _, _, N_20, ps_20, F, sc_20, F.bindsN (fun _ _ _ _ _ _ us hl => match us, hl with | [_, _], _ => rfl), He.glo_ok X G (c.fact 20 (f := .glo "_law_pick") rfl), F.kp, by
    show P[20]? = some ⟨_, _, mkTs ((defBody (top 32)).map (erT tab N_20 (defScope (top 32)) 40))⟩
    rw [er_20]; rfl⟩
theorem ok_21 (X : K.In h) (G : h.Ns mainGlobals mg) (c : He.SaysD fa fn K) : DefOk tab 40 P K mg 21 "_law_same" := by
  obtain ⟨fd, F⟩ := c.def_ 21 (d := d_21) rfl
  exact ⟨_, fd, _, _, _, N_21, ps_21, F, sc_21, F.bindsN (fun _ _ _ _ _ _ us hl => match us, hl with | [_, _], _ => rfl), He.glo_ok X G (c.fact 21 (f := .glo "_law_same") rfl), F.kp, by
    show P[21]? = some ⟨_, _, mkTs ((defBody (top 33)).map (erT tab N_21 (defScope (top 33)) 40))⟩
    rw [er_21]; rfl⟩
theorem ok_22 (X : K.In h) (G : h.Ns mainGlobals mg) (c : He.SaysD fa fn K) : DefOk tab 40 P K mg 22 "_law_words" := by
  obtain ⟨fd, F⟩ := c.def_ 22 (d := d_22) rfl
  exact ⟨_, fd, _, _, _, N_22, ps_22, F, sc_22, F.bindsN (fun _ _ _ _ _ _ us hl => match us, hl with | [_, _], _ => rfl), He.glo_ok X G (c.fact 22 (f := .glo "_law_words") rfl), F.kp, by
    show P[22]? = some ⟨_, _, mkTs ((defBody (top 34)).map (erT tab N_22 (defScope (top 34)) 40))⟩
    rw [er_22]; rfl⟩
theorem ok_23 (X : K.In h) (G : h.Ns mainGlobals mg) (c : He.SaysD fa fn K) : DefOk tab 40 P K mg 23 "_law_fan" := by
  obtain ⟨fd, F⟩ := c.def_ 23 (d := d_23) rfl
  exact ⟨_, fd, _, _, _, N_23, ps_23, F, sc_23, F.bindsN (fun _ _ _ _ _ _ us hl => match us, hl with | [_], _ => rfl), He.glo_ok X G (c.fact 23 (f := .glo "_law_fan") rfl), F.kp, by
    show P[23]? = some ⟨_, _, mkTs ((defBody (top 35)).map (erT tab N_23 (defScope (top 35)) 40))⟩
    rw [er_23]; rfl⟩
theorem ok_24 (X : K.In h) (G : h.Ns mainGlobals mg) (c : He.SaysD fa fn K) : DefOk tab 40 P K mg 24 "_law_rules" := by
  obtain ⟨fd, F⟩ := c.def_ 24 (d := d_24) rfl
  exact ⟨_, fd, _, _, _, N_24, ps_24, F, sc_24, F.bindsN (fun _ _ _ _ _ _ us hl => match us, hl with | [_, _, _], _ => rfl), He.glo_ok X G (c.fact 24 (f := .glo "_law_rules") rfl), F.kp, by
    show P[24]? = some ⟨_, _, mkTs ((defBody (top 36)).map (erT tab N_24 (defScope (top 36)) 40))⟩
    rw [er_24]; rfl⟩
theorem ok_25 (X : K.In h) (G : h.Ns mainGlobals mg) (c : He.SaysD fa fn K) : DefOk tab 40 P K mg 25 "_law_doors" := by
  obtain ⟨fd, F⟩ := c.def_ 25 (d := d_25) rfl
  exact ⟨_, fd, _, _, _, N_25, ps_25, F, sc_25, F.bindsN (fun _ _ _ _ _ _ us hl => match us, hl with | [_, _, _], _ => rfl), He.glo_ok X G (c.fact 25 (f := .glo "_law_doors") rfl), F.kp, by
    show P[25]? = some ⟨_, _, mkTs ((defBody (top 37)).map (erT tab N_25 (defScope (top 37)) 40))⟩
    rw [er_25]; rfl⟩
theorem ok_26 (X : K.In h) (G : h.Ns mainGlobals mg) (c : He.SaysD fa fn K) : DefOk tab 40 P K mg 26 "_law_book" := by
  obtain ⟨fd, F⟩ := c.def_ 26 (d := d_26) rfl
  exact ⟨_, fd, _, _, _, N_26, ps_26, F, sc_26, F.bindsN (fun _ _ _ _ _ _ us hl => match us, hl with | [_, _, _, _], _ => rfl), He.glo_ok X G (c.fact 26 (f := .glo "_law_book") rfl), F.kp, by
    show P[26]? = some ⟨_, _, mkTs ((defBody (top 38)).map (erT tab N_26 (defScope (top 38)) 40))⟩
    rw [er_26]; rfl⟩
theorem ok_27 (X : K.In h) (G : h.Ns mainGlobals mg) (c : He.SaysD fa fn K) : DefOk tab 40 P K mg 27 "_law_share" := by
  obtain ⟨fd, F⟩ := c.def_ 27 (d := d_27) rfl
  exact ⟨_, fd, _, _, _, N_27, ps_27, F, sc_27, F.bindsN (fun _ _ _ _ _ _ us hl => match us, hl with | [_, _], _ => rfl), He.glo_ok X G (c.fact 27 (f := .glo "_law_share") rfl), F.kp, by
    show P[27]? = some ⟨_, _, mkTs ((defBody (top 39)).map (erT tab N_27 (defScope (top 39)) 40))⟩
    rw [er_27]; rfl⟩
theorem ok_28 (X : K.In h) (G : h.Ns mainGlobals mg) (c : He.SaysD fa fn K) : DefOk tab 40 P K mg 28 "_law_steps" := by
  obtain ⟨fd, F⟩ := c.def_ 28 (d := d_28) rfl
  exact ⟨_, fd, _, _, _, N_28, ps_28, F, sc_28, F.bindsN (fun _ _ _ _ _ _ us hl => match us, hl with | [_], _ => rfl), He.glo_ok X G (c.fact 28 (f := .glo "_law_steps") rfl), F.kp, by
    show P[28]? = some ⟨_, _, mkTs ((defBody (top 40)).map (erT tab N_28 (defScope (top 40)) 40))⟩
    rw [er_28]; rfl⟩
theorem ok_29 (X : K.In h) (G : h.Ns mainGlobals mg) (c : He.SaysD fa fn K) : DefOk tab 40 P K mg 29 "law" := by
  obtain ⟨fd, F⟩ := c.def_ 29 (d := d_29) rfl
  exact ⟨_, fd, _, _, _, N_29, ps_29, F, sc_29, F.bindsN (fun _ _ _ _ _ _ us hl => match us, hl with | [_], _ => rfl), He.glo_ok X G (c.fact 29 (f := .glo "law") rfl), F.kp, by
    show P[29]? = some ⟨_, _, mkTs ((defBody (top 41)).map (erT tab N_29 (defScope (top 41)) 40))⟩
    rw [er_29]; rfl⟩
theorem oks (X : K.In h) (G : h.Ns mainGlobals mg) (c : He.SaysD fa fn K) : ∀ i x, tab.fns[i]? = some x → DefOk tab 40 P K mg i x := fun i x e => match i, e with
  | 0, e => by cases (show some _ = some x from e); exact ok_0 X G c
  | 1, e => by cases (show some _ = some x from e); exact ok_1 X G c
  | 2, e => by cases (show some _ = some x from e); exact ok_2 X G c
  | 3, e => by cases (show some _ = some x from e); exact ok_3 X G c
  | 4, e => by cases (show some _ = some x from e); exact ok_4 X G c
  | 5, e => by cases (show some _ = some x from e); exact ok_5 X G c
  | 6, e => by cases (show some _ = some x from e); exact ok_6 X G c
  | 7, e => by cases (show some _ = some x from e); exact ok_7 X G c
  | 8, e => by cases (show some _ = some x from e); exact ok_8 X G c
  | 9, e => by cases (show some _ = some x from e); exact ok_9 X G c
  | 10, e => by cases (show some _ = some x from e); exact ok_10 X G c
  | 11, e => by cases (show some _ = some x from e); exact ok_11 X G c
  | 12, e => by cases (show some _ = some x from e); exact ok_12 X G c
  | 13, e => by cases (show some _ = some x from e); exact ok_13 X G c
  | 14, e => by cases (show some _ = some x from e); exact ok_14 X G c
  | 15, e => by cases (show some _ = some x from e); exact ok_15 X G c
  | 16, e => by cases (show some _ = some x from e); exact ok_16 X G c
  | 17, e => by cases (show some _ = some x from e); exact ok_17 X G c
  | 18, e => by cases (show some _ = some x from e); exact ok_18 X G c
  | 19, e => by cases (show some _ = some x from e); exact ok_19 X G c
  | 20, e => by cases (show some _ = some x from e); exact ok_20 X G c
  | 21, e => by cases (show some _ = some x from e); exact ok_21 X G c
  | 22, e => by cases (show some _ = some x from e); exact ok_22 X G c
  | 23, e => by cases (show some _ = some x from e); exact ok_23 X G c
  | 24, e => by cases (show some _ = some x from e); exact ok_24 X G c
  | 25, e => by cases (show some _ = some x from e); exact ok_25 X G c
  | 26, e => by cases (show some _ = some x from e); exact ok_26 X G c
  | 27, e => by cases (show some _ = some x from e); exact ok_27 X G c
  | 28, e => by cases (show some _ = some x from e); exact ok_28 X G c
  | 29, e => by cases (show some _ = some x from e); exact ok_29 X G c
  | n + 30, e => by cases (show none = some x from e)
theorem oblt (X : K.In h) (G : h.Ns mainGlobals mg) (c : He.SaysD fa fn K) : ∀ x, tab.blts.contains x = true → mg x = none := fun x e => by
  have e : x ∈ tab.blts := by simpa using e
  simp only [tab, List.mem_cons, List.not_mem_nil, or_false] at e
  rcases e with rfl | rfl | rfl | rfl | rfl | rfl | rfl | rfl | rfl | rfl | rfl | rfl | rfl
  · exact He.free_ok X G (c.fact 31 (f := .free "all") rfl)
  · exact He.free_ok X G (c.fact 32 (f := .free "bool") rfl)
  · exact He.free_ok X G (c.fact 33 (f := .free "int") rfl)
  · exact He.free_ok X G (c.fact 34 (f := .free "isinstance") rfl)
  · exact He.free_ok X G (c.fact 35 (f := .free "len") rfl)
  · exact He.free_ok X G (c.fact 36 (f := .free "max") rfl)
  · exact He.free_ok X G (c.fact 37 (f := .free "min") rfl)
  · exact He.free_ok X G (c.fact 38 (f := .free "range") rfl)
  · exact He.free_ok X G (c.fact 39 (f := .free "repr") rfl)
  · exact He.free_ok X G (c.fact 40 (f := .free "sorted") rfl)
  · exact He.free_ok X G (c.fact 41 (f := .free "str") rfl)
  · exact He.free_ok X G (c.fact 42 (f := .free "tuple") rfl)
  · exact He.free_ok X G (c.fact 43 (f := .free "zip") rfl)
theorem ocon (X : K.In h) (G : h.Ns mainGlobals mg) (c : He.SaysD fa fn K) (cx : ex K = true) : ∀ x d, tab.consts.lookup x = some d → ∃ u v, mg x = some u ∧ RelV v u ∧ ∀ H m, RV K H m d v := fun x d e => by
  have e := lookup_in e
  simp only [tab, List.mem_cons, List.not_mem_nil, or_false, Prod.mk.injEq] at e
  unfold ex at cx
  simp only [Bool.and_eq_true] at cx
  rcases e with ⟨rfl, rfl⟩ | ⟨rfl, rfl⟩ | ⟨rfl, rfl⟩ | ⟨rfl, rfl⟩ | ⟨rfl, rfl⟩ | ⟨rfl, rfl⟩ | ⟨rfl, rfl⟩
  · obtain ⟨t, e⟩ := He.int_ok X G (c.fact 44 (f := .int "KINDS" 6) rfl); exact ⟨_, .int 6, e, ⟨t, rfl⟩, fun _ _ => .int _⟩
  · obtain ⟨t, e⟩ := He.int_ok X G (c.fact 45 (f := .int "RULES" 10) rfl); exact ⟨_, .int 10, e, ⟨t, rfl⟩, fun _ _ => .int _⟩
  · obtain ⟨t, e⟩ := He.int_ok X G (c.fact 46 (f := .int "DOORS" 6) rfl); exact ⟨_, .int 6, e, ⟨t, rfl⟩, fun _ _ => .int _⟩
  · obtain ⟨t, e⟩ := He.int_ok X G (c.fact 47 (f := .int "FAN" 4) rfl); exact ⟨_, .int 4, e, ⟨t, rfl⟩, fun _ _ => .int _⟩
  · obtain ⟨t, e⟩ := He.int_ok X G (c.fact 48 (f := .int "LONGEST_NAME" 8) rfl); exact ⟨_, .int 8, e, ⟨t, rfl⟩, fun _ _ => .int _⟩
  · obtain ⟨t, e⟩ := He.str_ok X G (c.fact 49 (f := .str "LETTERS" "abcdefghijklmnopqrstuvwxyz") rfl); exact ⟨_, .str "abcdefghijklmnopqrstuvwxyz", e, ⟨t, rfl⟩, fun _ _ => .str _⟩
  · exact ⟨_, .ref (He.ga K "SIDES"), He.glo_ok X G (c.fact 30 (f := .glo "SIDES") rfl), rfl, fun H m => .tup (He.tupB_ok cx.2 H) (.cons (.str _) (.cons (.str _) (.nil)))⟩
end
end Lw
open PySem PySem.W PySem.Calls PyProof.Rows
theorem Lw.holds (wf : Nat) (hx : ∀ ns : List Int, ns.length ≤ 63 → ∃ S', Ev.callF Lw.P wf 60 29 [.ref 0] [.fz (ns.map Ev.D.int)] = some (.bl true, S')) : PySem.Challenge.rw_fankinds_k15_steps.Holds := by
  w_on; o_law
  refine HandSHeadRun.head_any (r := OpenLaw.row PySem.Challenge.rw_fankinds_k15_steps) (q := view (OpenLaw.row PySem.Challenge.rw_fankinds_k15_steps).prog [41]) (H := Lw.hk) (ob := Lw.ob) (M := 3000) (loose := Lw.loose) (d := HandSHeadRun.topDef (OpenLaw.row PySem.Challenge.rw_fankinds_k15_steps).prog 41) (kwd := []) Lw.ob_eq
    (by kernel_rfl) (fun s => by kernel_rfl) Lw.run (by kernel_rfl) (by kernel_rfl) (by kernel_rfl) (by rfl) (by first | assumption | decide +kernel) (by decide +kernel) ⟨rfl, rfl, rfl, rfl, rfl, by decide +kernel⟩ ?hw ?hc
  case hw => w_witness2
  case hc =>
    refine Ev.walkG (l := PySem.Challenge.rw_fankinds_k15_steps) (n := 63) (k := 60) (x := "_law_script") rfl (by decide) (by kernel_rfl) ⟨rfl, by decide, by decide⟩ ?F
    intro w mg fa h Y G hmg0
    have hmg : mg ("law" : PySem.Str) = some (.ref fa) := by
      have e : (HandSHeadRun.topDef (OpenLaw.row PySem.Challenge.rw_fankinds_k15_steps).prog 41).name = ("law" : PySem.Str) := by kernel_rfl
      rw [← e]
      exact hmg0
    obtain ⟨K, KX, c⟩ := Y
    obtain ⟨fd, F⟩ := c.t.d.def_ 29 (d := Lw.d_29) rfl
    have e := hmg.symm.trans (He.glo_ok KX G (c.t.d.fact 29 (f := .glo "law") rfl))
    cases e
    have b := L2.FunD.bindsA (ps := ["_law_script"]) F fun _ _ _ _ _ _ us hl => match us, hl with | [_], _ => rfl
    refine ⟨K, fd, Ev.SpG K 1 (Ev.callF Lw.P wf 60 29), KX, fun s u => b s [u] rfl, fun H a ns hl hf => Ev.law_sp hf (hx ns hl), Lw.nolist c.more, fun base _ _ => ?_⟩
    exact (Ev.def_ok (i := 29) (N := Lw.N_29) (ps := Lw.ps_29) (n := 40) (Lw.oblt KX G c.t.d) (Lw.ocon KX G c.t.d c.more) (Ev.all_ok (Lw.oks KX G c.t.d) (Lw.oblt KX G c.t.d) (Lw.ocon KX G c.t.d c.more) 59) F Lw.sc_29 (by
      show Lw.P[29]? = some ⟨_, _, Ev.mkTs ((L2.defBody (Lw.top 41)).map (Ev.erT Lw.tab Lw.N_29 (L2.defScope (Lw.top 41)) 40))⟩
      rw [Lw.er_29]; rfl)).1
end
set_option maxRecDepth 100000
theorem PySem.Challenge.cw_fankinds_k15_steps_holds : PySem.Challenge.rw_fankinds_k15_steps.Holds := by
  exact Lw.holds 4000 fun _ _ => Lw.run_law (Nat.le_refl _)
