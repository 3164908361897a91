import PyProof.Rows.All
import Wide.All
import OpenK.AllK
import Wide.FinOn
import HandS.CallLocal
import HandS.CallSlots
import HandS.ClsMeth
import HandS.Conv
import HandS.Deep
import HandS.Defaults
import HandS.Dict
import HandS.ExcField
import HandS.ExcInit
import HandS.ExcIs
import HandS.FStr
import HandS.ForExc
import HandS.ForMost
import HandS.IsInst
import HandS.Iter
import HandS.OwnEq
import HandS.RaiseMore
import HandS.SetBool
import HandS.SetKeys
import HandS.Small
import HandS.Star
import HandS.StrMore
import HandS.Style
import HandS.TryOnly
import HandS.TupAny
import HandS.Walk
import HandS.WordsDict
import HandS.WrittenGet
import KE.GoesMore
import KE.KCallOwn
import KE.KExcIs
import KE.KUnpackStar
import KE.SortData
import PyProof.Draws
import PyProof.ListStr
import PyProof.NeKinds
import PyProof.Rows.SetFrom
import PyProof.StrLawsTight
import PySem.Challenge.RW_menuhome_k11_whole_actions_by_digits
set_option Elab.async false
set_option linter.all false
set_option maxRecDepth 100000
/-! A layer of values over the hand layer: what a def does, as a function of plain data and of a store of the few things that change. -/
namespace Fl
open PySem PySem.Spec L2
open PyProof.Rows hiding St

/-- a value as data: what never changes is a tree; what may change is the number of a cell of the store -/
inductive Val where
  | non | bl (b : Bool) | int (i : Int) | str (x : Str)
  | tup (xs : List Val) | lst (xs : List Val) | wls (xs : List Val) | dct (kvs : List (Str × Val))
  | obj (c : Str) (fs : List (Str × Val)) | ref (i : Nat) | glb (a : Addr) | cls (c : Str)
  deriving Inhabited

/-- where classes stand: of plain things (inl), of errors (inr); in an except suite: the slot of the error's name, the error, its dict, its fields -/
structure Ads where
  cls : Sum Str Str → Option Addr
  hold : Option (Nat × Addr × Addr × List (Str × Val))
instance : CoeFun Ads fun _ => Sum Str Str → Option Addr := ⟨Ads.cls⟩
inductive Cel where
  | lst (xs : List Val) | dct (kvs : List (Str × Val)) | ins (c : Str) (fs : List (Str × Val)) | lck (kvs : List (Str × Val))
  deriving Inhabited
/-- true: it may change; false: it stays as it is from now on -/
abbrev Store := List (Bool × Cel)
abbrev Env := List (Option Val)
inductive Res (α : Type) where
  | ok (a : α) (S : Store) | exc (c : Str) (fs : List (Str × Val)) (S : Store) | stuck
abbrev EF := Env → Store → Res Val
abbrev AF := Env → Store → Res (List Val)
@[reducible] def Res.bind {α β : Type} (r : Res α) (k : α → Store → Res β) : Res β :=
  match r with
  | .ok a S => k a S
  | .exc c fs S => .exc c fs S
  | .stuck => .stuck

/-- where the cells stand; what else stands apart, seen by nobody -/
structure Rts where
  l : List Addr
  z : List (Addr × HO)
def Rts.add (ρ : Rts) (p : Addr) : Rts := ⟨ρ.l ++ [p], ρ.z⟩
def Rts.hid (ρ : Rts) (p : Addr) (o : HO) : Rts := ⟨ρ.l, (p, o) :: ρ.z⟩
/-- a dict that is walked is locked: what it holds is the same -/
def bare : HO → HO
  | .frz _ (.dK ks) => .dK ks
  | o => o
section
variable (K : PySem.W.Frag) (ad : Ads)
mutual
inductive Rp (F : Hp) (ρ : Rts) : Val → V → Prop
  | non : Rp F ρ .non .non
  | bl (b : Bool) : Rp F ρ (.bl b) (.bl b)
  | int (i : Int) : Rp F ρ (.int i) (.int i)
  | str (x : Str) : Rp F ρ (.str x) (.str x)
  | tup {xs : List Val} {a : Addr} {vs : List V} : SqT K F a vs → Rps F ρ xs vs → Rp F ρ (.tup xs) (.ref a)
  | lst {xs : List Val} {a : Addr} {vs : List V} : F a = some (.lst vs) → Rps F ρ xs vs → Rp F ρ (.lst xs) (.ref a)
  | wls {xs : List Val} {a : Addr} {vs : List V} : SqL K F a vs → Rps F ρ xs vs → Rp F ρ (.wls xs) (.ref a)
  | obj {c : Str} {C a dx : Addr} {fs : List (Str × Val)} {vs : List (Str × V)} : ad (.inl c) = some C → F a = some (.ins C dx vs) → Rpf F ρ fs vs → Rp F ρ (.obj c fs) (.ref a)
  | ref {i : Nat} {a : Addr} : ρ.l[i]? = some a → Rp F ρ (.ref i) (.ref a)
  | glb (a : Addr) : Rp F ρ (.glb a) (.ref a)
  | cls {c : Str} {C : Addr} : ad (.inl c) = some C → Rp F ρ (.cls c) (.ref C)
inductive Rps (F : Hp) (ρ : Rts) : List Val → List V → Prop
  | nil : Rps F ρ [] []
  | cons {x : Val} {v : V} {xs : List Val} {vs : List V} : Rp F ρ x v → Rps F ρ xs vs → Rps F ρ (x :: xs) (v :: vs)
inductive Rpf (F : Hp) (ρ : Rts) : List (Str × Val) → List (Str × V) → Prop
  | nil : Rpf F ρ [] []
  | cons {f : Str} {x : Val} {v : V} {xs : List (Str × Val)} {vs : List (Str × V)} : Rp F ρ x v → Rpf F ρ xs vs → Rpf F ρ ((f, x) :: xs) ((f, v) :: vs)
inductive Rpk (F : Hp) (ρ : Rts) : List (Str × Val) → List (Key × V) → Prop
  | nil : Rpk F ρ [] []
  | cons {f : Str} {x : Val} {v : V} {xs : List (Str × Val)} {vs : List (Key × V)} : Rp F ρ x v → Rpk F ρ xs vs → Rpk F ρ ((f, x) :: xs) ((Sum.inr f, v) :: vs)
end

abbrev Sub (F H : Hp) : Prop := Same F H
/-- the same, but for a lock -/
def LkE (o o' : HO) : Prop := o' = o
def Rc (F : Hp) (ρ : Rts) : Cel → HO → Prop
  | .lst xs, o => ∃ vs, o = .lst vs ∧ Rps K ad F ρ xs vs
  | .dct kvs, o => ∃ ks, o = .dK ks ∧ Rpk K ad F ρ kvs ks
  | .ins c fs, o => ∃ C dx vs, o = .ins C dx vs ∧ ad (.inl c) = some C ∧ Rpf K ad F ρ fs vs
  | .lck kvs, o => ∃ od ks, o = .frz od (.dK ks) ∧ Rpk K ad F ρ kvs ks
/-- a cell that is locked: just that; another that stays: but for a lock -/
def LkC : Cel → HO → HO → Prop
  | .lck _, o, o' => o' = o
  | _, o, o' => LkE o o'
structure RS0 (F : Hp) (ρ : Rts) (S : Store) (H : Hp) : Prop where
  sub : Sub F H
  len : ρ.l.length = S.length
  cel : ∀ (i : Nat) (b : Bool) (c : Cel), S[i]? = some (b, c) → ∃ a o, ρ.l[i]? = some a ∧ Rc K ad F ρ c o ∧ (b = true → H a = some o ∧ F a = none) ∧ (b = false → ∃ o', F a = some o' ∧ LkC c o o')
  inj : ρ.l.Nodup
  prv : ∀ p ∈ ρ.z, H p.1 = some p.2 ∧ F p.1 = none ∧ p.1 ∉ ρ.l
  prn : (ρ.z.map (·.1)).Nodup
structure RE (F : Hp) (ρ : Rts) (env : Env) (σ : L2.St) : Prop where
  len : env.length = σ.length
  at_ : ∀ (i : Nat) (v : Val), env[i]? = some (some v) → ∃ v', σ[i]? = some (some v') ∧ Rp K ad F ρ v v'
  hold : ∀ i a dx fs, ad.hold = some (i, a, dx, fs) → env[i]? = some none → σ[i]? = some (some (.ref a)) ∧ (fs = [] ∨ ∃ vs, F dx = some (.xd vs) ∧ Rpf K ad F ρ fs vs)
structure RS (F : Hp) (ρ : Rts) (env : Env) (S : Store) (σ : L2.St) (H : Hp) : Prop where
  s : RS0 K ad F ρ S H
  e : RE K ad F ρ env σ
/-- what is laid stays laid -/
structure Le0 (F : Hp) (ρ : Rts) (F' : Hp) (ρ' : Rts) : Prop where
  f : ∀ a o, F a = some o → ∃ o', F' a = some o' ∧ LkE o o'
  r : ∀ (i : Nat) (a : Addr), ρ.l[i]? = some a → ρ'.l[i]? = some a
/-- later: more is laid; what stands apart is as it was -/
structure Le (F : Hp) (ρ : Rts) (F' : Hp) (ρ' : Rts) : Prop extends Le0 F ρ F' ρ' where
  z : ρ'.z = ρ.z
end

section
variable {K : PySem.W.Frag} {ad : Ads} {F F' F'' : Hp} {ρ ρ' ρ'' : Rts}
theorem LkE.refl {o : HO} : LkE o o := rfl
theorem LkE.trans {a b c : HO} (h : LkE a b) (k : LkE b c) : LkE a c := Eq.trans k h
theorem LkE.other {o o' : HO} (h : LkE o o') (_ : ∀ ks, bare o ≠ .dK ks) : o' = o := h
theorem LkE.dict {o o' : HO} {ks : List (Key × V)} (h : LkE o o') (n : bare o = .dK ks) : bare o' = .dK ks := by rw [show o' = o from h]; exact n
theorem LkC.refl : ∀ {c : Cel} {o : HO}, LkC c o o
  | .lck _, _ => rfl
  | .lst _, _ => LkE.refl
  | .dct _, _ => LkE.refl
  | .ins _ _, _ => LkE.refl
theorem LkC.e : ∀ {c : Cel} {o o' : HO}, LkC c o o' → LkE o o'
  | .lck _, _, _, h => h
  | .lst _, _, _, h => h
  | .dct _, _, _, h => h
  | .ins _ _, _, _, h => h
theorem bare_frz_lst {o : Obj} {xs : List V} {ks : List (Key × V)} : bare (.frz o (.lst xs)) ≠ .dK ks := by intro h; cases h
theorem bare_frz_tup {o : Obj} {xs : List V} {ks : List (Key × V)} : bare (.frz o (.tup xs)) ≠ .dK ks := by intro h; cases h
theorem bare_lst {xs : List V} {ks : List (Key × V)} : bare (.lst xs) ≠ .dK ks := by intro h; cases h
theorem bare_tup {xs : List V} {ks : List (Key × V)} : bare (.tup xs) ≠ .dK ks := by intro h; cases h
theorem bare_xd {xs : List (Str × V)} {ks : List (Key × V)} : bare (.xd xs) ≠ .dK ks := by intro h; cases h
theorem bare_ins {C dx : Addr} {xs : List (Str × V)} {ks : List (Key × V)} : bare (.ins C dx xs) ≠ .dK ks := by intro h; cases h
theorem Le0.at (l : Le0 F ρ F' ρ') {a : Addr} {o : HO} (h : F a = some o) (n : ∀ ks, bare o ≠ .dK ks) : F' a = some o := by
  obtain ⟨o', h1, h2⟩ := l.f a o h
  rw [h2.other n] at h1
  exact h1
theorem Le.refl : Le F ρ F ρ := ⟨⟨fun _ o h => ⟨o, h, .refl⟩, fun _ _ h => h⟩, rfl⟩
theorem Le0.trans (a : Le0 F ρ F' ρ') (b : Le0 F' ρ' F'' ρ'') : Le0 F ρ F'' ρ'' := ⟨fun x o h => by
  obtain ⟨o1, h1, k1⟩ := a.f x o h
  obtain ⟨o2, h2, k2⟩ := b.f x o1 h1
  exact ⟨o2, h2, k1.trans k2⟩, fun i x h => b.r i x (a.r i x h)⟩
theorem Le.trans (a : Le F ρ F' ρ') (b : Le F' ρ' F'' ρ'') : Le F ρ F'' ρ'' := ⟨a.toLe0.trans b.toLe0, b.z.trans a.z⟩
theorem Le0.same (h : Same F F') (r : ∀ (i : Nat) (a : Addr), ρ.l[i]? = some a → ρ'.l[i]? = some a) : Le0 F ρ F' ρ' := ⟨fun a o e => ⟨o, h a o e, .refl⟩, r⟩
theorem Le.same (h : Same F F') (r : ∀ (i : Nat) (a : Addr), ρ.l[i]? = some a → ρ'.l[i]? = some a) (z : ρ'.z = ρ.z := by rfl) : Le F ρ F' ρ' := ⟨.same h r, z⟩
theorem sqT_mono {a : Addr} {vs : List V} (l : Le0 F ρ F' ρ') (q : SqT K F a vs) : SqT K F' a vs := by
  rcases q with (q | ⟨o, q⟩) | q
  · exact .inl (.inl (l.at q fun _ => bare_tup))
  · exact .inl (.inr ⟨o, l.at q fun _ => bare_frz_tup⟩)
  · exact .inr q
theorem sqL_mono {a : Addr} {vs : List V} (l : Le0 F ρ F' ρ') (q : SqL K F a vs) : SqL K F' a vs := by
  rcases q with (q | ⟨o, q⟩) | q
  · exact .inl (.inl (l.at q fun _ => bare_lst))
  · exact .inl (.inr ⟨o, l.at q fun _ => bare_frz_lst⟩)
  · exact .inr q
mutual
theorem Rp.mono0 (l : Le0 F ρ F' ρ') : ∀ {x : Val} {v : V}, Rp K ad F ρ x v → Rp K ad F' ρ' x v
  | _, _, .non => .non
  | _, _, .bl b => .bl b
  | _, _, .int i => .int i
  | _, _, .str x => .str x
  | _, _, .tup h r => .tup (sqT_mono l h) (Rps.mono0 l r)
  | _, _, .lst h r => .lst (l.at h fun _ => bare_lst) (Rps.mono0 l r)
  | _, _, .wls h r => .wls (sqL_mono l h) (Rps.mono0 l r)
  | _, _, .obj e h r => .obj e (l.at h fun _ => bare_ins) (Rpf.mono0 l r)
  | _, _, .ref h => .ref (l.r _ _ h)
  | _, _, .glb a => .glb a
  | _, _, .cls e => .cls e
theorem Rps.mono0 (l : Le0 F ρ F' ρ') : ∀ {x : List Val} {v : List V}, Rps K ad F ρ x v → Rps K ad F' ρ' x v
  | _, _, .nil => .nil
  | _, _, .cons a b => .cons (Rp.mono0 l a) (Rps.mono0 l b)
theorem Rpf.mono0 (l : Le0 F ρ F' ρ') : ∀ {x : List (Str × Val)} {v : List (Str × V)}, Rpf K ad F ρ x v → Rpf K ad F' ρ' x v
  | _, _, .nil => .nil
  | _, _, .cons a b => .cons (Rp.mono0 l a) (Rpf.mono0 l b)
theorem Rpk.mono0 (l : Le0 F ρ F' ρ') : ∀ {x : List (Str × Val)} {v : List (Key × V)}, Rpk K ad F ρ x v → Rpk K ad F' ρ' x v
  | _, _, .nil => .nil
  | _, _, .cons a b => .cons (Rp.mono0 l a) (Rpk.mono0 l b)
end
theorem Rp.mono (l : Le F ρ F' ρ') {x : Val} {v : V} (h : Rp K ad F ρ x v) : Rp K ad F' ρ' x v := h.mono0 l.toLe0
theorem Rps.mono (l : Le F ρ F' ρ') {x : List Val} {v : List V} (h : Rps K ad F ρ x v) : Rps K ad F' ρ' x v := h.mono0 l.toLe0
theorem Rpf.mono (l : Le F ρ F' ρ') {x : List (Str × Val)} {v : List (Str × V)} (h : Rpf K ad F ρ x v) : Rpf K ad F' ρ' x v := h.mono0 l.toLe0
theorem Rpk.mono (l : Le F ρ F' ρ') {x : List (Str × Val)} {v : List (Key × V)} (h : Rpk K ad F ρ x v) : Rpk K ad F' ρ' x v := h.mono0 l.toLe0
theorem Rps.length : ∀ {x : List Val} {v : List V}, Rps K ad F ρ x v → x.length = v.length
  | _, _, .nil => rfl
  | _, _, .cons _ b => congrArg (· + 1) (Rps.length b)
theorem Rps.get : ∀ {x : List Val} {v : List V} {i : Nat} {y : Val}, Rps K ad F ρ x v → x[i]? = some y → ∃ u, v[i]? = some u ∧ Rp K ad F ρ y u
  | _, _, _, _, .nil, e => by simp at e
  | _, _, 0, _, .cons r _, e => by simp at e; subst e; exact ⟨_, rfl, r⟩
  | _, _, i + 1, _, .cons _ t, e => by
    obtain ⟨u, h1, h2⟩ := Rps.get (i := i) t (by simpa using e)
    exact ⟨u, by simpa using h1, h2⟩
theorem Rps.get' : ∀ {x : List Val} {v : List V} {i : Nat} {u : V}, Rps K ad F ρ x v → v[i]? = some u → ∃ y, x[i]? = some y ∧ Rp K ad F ρ y u
  | _, _, _, _, .nil, e => by simp at e
  | _, _, 0, _, .cons r _, e => by simp at e; subst e; exact ⟨_, rfl, r⟩
  | _, _, i + 1, _, .cons _ t, e => by
    obtain ⟨u, h1, h2⟩ := Rps.get' (i := i) t (by simpa using e)
    exact ⟨u, by simpa using h1, h2⟩
theorem Rps.append : ∀ {x y : List Val} {v u : List V}, Rps K ad F ρ x v → Rps K ad F ρ y u → Rps K ad F ρ (x ++ y) (v ++ u)
  | _, _, _, _, .nil, s => s
  | _, _, _, _, .cons r t, s => .cons r (Rps.append t s)
theorem Rps.take : ∀ {x : List Val} {v : List V} (n : Nat), Rps K ad F ρ x v → Rps K ad F ρ (x.take n) (v.take n)
  | _, _, 0, _ => by simpa using Rps.nil
  | _, _, _ + 1, .nil => by simpa using Rps.nil
  | _, _, n + 1, .cons r t => .cons r (Rps.take n t)
theorem Rps.drop : ∀ {x : List Val} {v : List V} (n : Nat), Rps K ad F ρ x v → Rps K ad F ρ (x.drop n) (v.drop n)
  | _, _, 0, r => r
  | _, _, _ + 1, .nil => by simpa using Rps.nil
  | _, _, n + 1, .cons _ t => Rps.drop n t
theorem Rps.set {y : Val} {u : V} (r : Rp K ad F ρ y u) : ∀ {x : List Val} {v : List V} (i : Nat), Rps K ad F ρ x v → Rps K ad F ρ (x.set i y) (v.set i u)
  | _, _, _, .nil => .nil
  | _, _, 0, .cons _ t => .cons r t
  | _, _, i + 1, .cons q t => .cons q (Rps.set r i t)
theorem Rps.reverse {x : List Val} {v : List V} (r : Rps K ad F ρ x v) : Rps K ad F ρ x.reverse v.reverse := by
  induction x generalizing v with
  | nil => cases r; exact .nil
  | cons a t ih =>
    cases r with
    | cons h k =>
      rw [List.reverse_cons, List.reverse_cons]
      exact (ih k).append (.cons h .nil)
theorem Rps.eraseIdx : ∀ {x : List Val} {v : List V} (i : Nat), Rps K ad F ρ x v → Rps K ad F ρ (x.eraseIdx i) (v.eraseIdx i)
  | _, _, _, .nil => .nil
  | _, _, 0, .cons _ t => t
  | _, _, i + 1, .cons q t => .cons q (Rps.eraseIdx i t)
theorem Rps.dropLast {x : List Val} {v : List V} (r : Rps K ad F ρ x v) : Rps K ad F ρ x.dropLast v.dropLast := by
  rw [List.dropLast_eq_take, List.dropLast_eq_take, r.length]
  exact r.take _
theorem Rpf.length : ∀ {x : List (Str × Val)} {v : List (Str × V)}, Rpf K ad F ρ x v → x.length = v.length
  | _, _, .nil => rfl
  | _, _, .cons _ b => congrArg (· + 1) (Rpf.length b)
theorem Rpf.lookup {f : Str} : ∀ {x : List (Str × Val)} {v : List (Str × V)} {y : Val}, Rpf K ad F ρ x v → x.lookup f = some y → ∃ u, v.lookup f = some u ∧ Rp K ad F ρ y u
  | _, _, _, .nil, e => by simp at e
  | _, _, y, .cons (f := g) (x := a) (v := b) r t, e => by
    by_cases h : (f == g) = true
    · simp only [List.lookup, h] at e ⊢
      cases e
      exact ⟨_, rfl, r⟩
    · simp only [List.lookup, h] at e ⊢
      exact Rpf.lookup t e
theorem Rpf.lookup_none {f : Str} : ∀ {x : List (Str × Val)} {v : List (Str × V)}, Rpf K ad F ρ x v → x.lookup f = none → v.lookup f = none
  | _, _, .nil, e => by simp
  | _, _, .cons (f := g) (x := a) (v := b) r t, e => by
    by_cases h : (f == g) = true
    · simp only [List.lookup, h] at e
      cases e
    · simp only [List.lookup, h] at e ⊢
      exact Rpf.lookup_none t e
/-- a field stored -/
def putV (f : Str) (v : Val) : List (Str × Val) → List (Str × Val)
  | [] => [(f, v)]
  | (g, y) :: r => if g = f then (f, v) :: r else (g, y) :: putV f v r
theorem Rpf.put {f : Str} {y : Val} {u : V} (r : Rp K ad F ρ y u) : ∀ {x : List (Str × Val)} {v : List (Str × V)}, Rpf K ad F ρ x v → Rpf K ad F ρ (putV f y x) (putF f u v)
  | _, _, .nil => .cons r .nil
  | _, _, .cons (f := g) q t => by
    unfold putV putF
    by_cases h : g = f
    · rw [if_pos h, if_pos h]; subst h; exact .cons r t
    · rw [if_neg h, if_neg h]; exact .cons q (Rpf.put r t)

theorem Sub.tup {H : Hp} {a : Addr} {vs : List V} (s : Same F H) (h : SqT K F a vs) : SqT K H a vs := by
  rcases h with (h | ⟨o, h⟩) | h
  · exact .inl (.inl (s _ _ h))
  · exact .inl (.inr ⟨o, s _ _ h⟩)
  · exact .inr h
theorem same_upd {p : Addr} {o : HO} (h : F p = none) : Same F (upd F p o) := fun b u e => by
  rw [upd_ne (ne_of_none e h)]; exact e
theorem RE.mono0 {env : Env} {σ : L2.St} (l : Le0 F ρ F' ρ') (r : RE K ad F ρ env σ) : RE K ad F' ρ' env σ :=
  ⟨r.len, fun i v e => let ⟨v', h, q⟩ := r.at_ i v e; ⟨v', h, q.mono0 l⟩, fun i a dx fs e1 e2 => (r.hold i a dx fs e1 e2).imp id fun h => h.imp id fun ⟨vs, h1, h2⟩ => ⟨vs, l.at h1 fun _ => bare_xd, h2.mono0 l⟩⟩
theorem RE.mono {env : Env} {σ : L2.St} (l : Le F ρ F' ρ') (r : RE K ad F ρ env σ) : RE K ad F' ρ' env σ := r.mono0 l.toLe0
theorem Rc.mono0 (l : Le0 F ρ F' ρ') : ∀ {c : Cel} {o : HO}, Rc K ad F ρ c o → Rc K ad F' ρ' c o
  | .lst _, _, ⟨vs, e, r⟩ => ⟨vs, e, r.mono0 l⟩
  | .dct _, _, ⟨vs, e, r⟩ => ⟨vs, e, r.mono0 l⟩
  | .ins _ _, _, ⟨C, dx, vs, e, h, r⟩ => ⟨C, dx, vs, e, h, r.mono0 l⟩
  | .lck _, _, h => by
    obtain ⟨od, ks, e, r⟩ := h
    exact ⟨od, ks, e, r.mono0 l⟩
theorem Rc.mono (l : Le F ρ F' ρ') {c : Cel} {o : HO} (h : Rc K ad F ρ c o) : Rc K ad F' ρ' c o := h.mono0 l.toLe0

theorem RS0.tr {S : Store} {H : Hp} (r : RS0 K ad F ρ S H) (i : Nat) (a : Addr) (e : ρ.l[i]? = some a) : H a ≠ none := fun z => by
  have hi : i < S.length := by rw [← r.len]; exact (List.getElem?_eq_some_iff.mp e).1
  obtain ⟨a', o, e1, _, h1, h2⟩ := r.cel i _ _ (List.getElem?_eq_getElem hi)
  rw [e] at e1; cases e1
  cases hb : (S[i]).1 with
  | true => rw [(h1 hb).1] at z; cases z
  | false =>
    obtain ⟨o', q, _⟩ := h2 hb
    have := Same.free r.sub z
    rw [q] at this; cases this
/-- a new thing that never changes is laid -/
theorem RS0.lay {S : Store} {H : Hp} {p : Addr} {o : HO} (r : RS0 K ad F ρ S H) (hp : H p = none) : RS0 K ad (upd F p o) ρ S (upd H p o) ∧ Le F ρ (upd F p o) ρ := by
  have fp := Same.free r.sub hp
  have l : Le F ρ (upd F p o) ρ := Le.same (same_upd fp) fun _ _ h => h
  refine ⟨⟨fun a u e => ?_, r.len, fun i b c e => ?_, r.inj, fun q hq => ?_, r.prn⟩, l⟩
  · by_cases h : a = p
    · subst h
      rw [upd_same] at e ⊢
      exact e
    · rw [upd_ne h] at e ⊢
      exact r.sub a u e
  · obtain ⟨a, u, e1, e3, e2, e4⟩ := r.cel i b c e
    have hne : a ≠ p := fun z => r.tr i a e1 (by rw [z]; exact hp)
    exact ⟨a, u, e1, e3.mono l, fun hb => ⟨by rw [upd_ne hne]; exact (e2 hb).1, by rw [upd_ne hne]; exact (e2 hb).2⟩, fun hb => let ⟨o', q1, q2⟩ := e4 hb; ⟨o', by rw [upd_ne hne]; exact q1, q2⟩⟩
  · obtain ⟨q1, q2, q3⟩ := r.prv q hq
    have hne : q.1 ≠ p := ne_of_none q1 hp
    exact ⟨by rw [upd_ne hne]; exact q1, by rw [upd_ne hne]; exact q2, q3⟩
/-- a new cell -/
theorem RS0.cell {S : Store} {H : Hp} {p : Addr} {o : HO} {c : Cel} (r : RS0 K ad F ρ S H) (hp : H p = none) (hc : Rc K ad F ρ c o) : RS0 K ad F (ρ.add p) (S ++ [(true, c)]) (upd H p o) ∧ Le F ρ F (ρ.add p) := by
  have fp := Same.free r.sub hp
  have l : Le F ρ F (ρ.add p) := Le.same (Same.refl _) fun i a h => by show (ρ.l ++ [p])[i]? = some a; rw [List.getElem?_append_left (List.getElem?_eq_some_iff.mp h).1]; exact h
  have nm : p ∉ ρ.l := fun hm => by
    obtain ⟨i, hi, e⟩ := List.getElem_of_mem hm
    exact r.tr i p (by rw [List.getElem?_eq_getElem hi, e]) hp
  refine ⟨⟨fun a u e => ?_, by simp [Rts.add, r.len], fun i b d e => ?_, List.nodup_append.mpr ⟨r.inj, by simp, fun a ha b hb => by
    have : b = p := by simpa using hb
    subst this
    intro z; subst z; exact nm ha⟩, fun q hq => ?_, r.prn⟩, l⟩
  · have hne : a ≠ p := ne_of_none e fp
    rw [upd_ne hne]
    exact r.sub a u e
  · by_cases hi : i < S.length
    · rw [List.getElem?_append_left hi] at e
      obtain ⟨a, u, e1, e3, e2, e4⟩ := r.cel i b d e
      have hne : a ≠ p := fun z => r.tr i a e1 (by rw [z]; exact hp)
      exact ⟨a, u, l.r _ _ e1, e3.mono l, fun hb => ⟨by rw [upd_ne hne]; exact (e2 hb).1, (e2 hb).2⟩, e4⟩
    · have hi2 : i = S.length := by
        have := (List.getElem?_eq_some_iff.mp e).1
        simp at this
        omega
      subst hi2
      simp at e
      obtain ⟨e1, e2⟩ := e
      subst e1 e2
      exact ⟨p, o, by rw [← r.len]; simp [Rts.add], hc.mono l, fun _ => ⟨upd_same, fp⟩, fun z => nomatch z⟩
  · obtain ⟨q1, q2, q3⟩ := r.prv q hq
    have hne : q.1 ≠ p := ne_of_none q1 hp
    refine ⟨by rw [upd_ne hne]; exact q1, q2, fun hm => ?_⟩
    rcases List.mem_append.mp hm with hm | hm
    · exact q3 hm
    · exact hne (by simpa using hm)
/-- a cell is changed -/
theorem RS0.put {S : Store} {H : Hp} {i : Nat} {a : Addr} {o : HO} {c c0 : Cel} (r : RS0 K ad F ρ S H) (hi : S[i]? = some (true, c0)) (ha : ρ.l[i]? = some a) (hc : Rc K ad F ρ c o) : RS0 K ad F ρ (S.set i (true, c)) (upd H a o) := by
  obtain ⟨a', u, e1, e3, e2, _⟩ := r.cel i _ _ hi
  have e4 := (e2 rfl).2
  rw [ha] at e1; cases e1
  refine ⟨fun b v e => ?_, by rw [List.length_set]; exact r.len, fun j b d e => ?_, r.inj, fun q hq => ?_, r.prn⟩
  · have hne : b ≠ a := ne_of_none e e4
    rw [upd_ne hne]
    exact r.sub b v e
  · by_cases h : j = i
    · subst h
      have hl := (List.getElem?_eq_some_iff.mp hi).1
      rw [List.getElem?_set_self hl] at e
      cases e
      exact ⟨a, o, ha, hc, fun _ => ⟨upd_same, e4⟩, fun z => nomatch z⟩
    · rw [List.getElem?_set_ne (Ne.symm h)] at e
      obtain ⟨a2, v, f1, f3, f2, f4⟩ := r.cel j b d e
      have hne : a2 ≠ a := fun z => by
        subst z
        obtain ⟨h1, q1⟩ := List.getElem?_eq_some_iff.mp f1
        obtain ⟨h2, q2⟩ := List.getElem?_eq_some_iff.mp ha
        exact h ((List.getElem_inj r.inj).mp (q1.trans q2.symm))
      exact ⟨a2, v, f1, f3, fun hb => ⟨by rw [upd_ne hne]; exact (f2 hb).1, (f2 hb).2⟩, f4⟩
  · obtain ⟨q1, q2, q3⟩ := r.prv q hq
    have hne : q.1 ≠ a := fun z => q3 (by rw [z]; exact List.mem_of_getElem? ha)
    exact ⟨by rw [upd_ne hne]; exact q1, q2, q3⟩
/-- a cell changes no more -/
theorem RS0.frz {S : Store} {H : Hp} {i : Nat} {c : Cel} (r : RS0 K ad F ρ S H) (hi : S[i]? = some (true, c)) : ∃ a o, ρ.l[i]? = some a ∧ Rc K ad F ρ c o ∧ RS0 K ad (upd F a o) ρ (S.set i (false, c)) H ∧ Le F ρ (upd F a o) ρ := by
  obtain ⟨a, o, e1, e3, e2, _⟩ := r.cel i _ _ hi
  have e4 := (e2 rfl).2
  have l : Le F ρ (upd F a o) ρ := Le.same (same_upd e4) fun _ _ h => h
  refine ⟨a, o, e1, e3, ⟨fun b v e => ?_, by rw [List.length_set]; exact r.len, fun j b d e => ?_, r.inj, fun q hq => ?_, r.prn⟩, l⟩
  · by_cases h : b = a
    · subst h
      rw [upd_same] at e
      cases e
      exact (e2 rfl).1
    · rw [upd_ne h] at e
      exact r.sub b v e
  · by_cases h : j = i
    · subst h
      have hl := (List.getElem?_eq_some_iff.mp hi).1
      rw [List.getElem?_set_self hl] at e
      cases e
      exact ⟨a, o, e1, e3.mono l, (by intro z; cases z), (by intro _; exact ⟨o, upd_same, LkC.refl⟩)⟩
    · rw [List.getElem?_set_ne (Ne.symm h)] at e
      obtain ⟨a2, v, f1, f3, f2, f4⟩ := r.cel j b d e
      have hne : a2 ≠ a := fun z => by
        subst z
        obtain ⟨h1, q1⟩ := List.getElem?_eq_some_iff.mp f1
        obtain ⟨h2, q2⟩ := List.getElem?_eq_some_iff.mp e1
        exact h ((List.getElem_inj r.inj).mp (q1.trans q2.symm))
      exact ⟨a2, v, f1, f3.mono l, fun hb => ⟨(f2 hb).1, by rw [upd_ne hne]; exact (f2 hb).2⟩, fun hb => by rw [upd_ne hne]; exact f4 hb⟩
  · obtain ⟨q1, q2, q3⟩ := r.prv q hq
    have hne : q.1 ≠ a := fun z => q3 (by rw [z]; exact List.mem_of_getElem? e1)
    exact ⟨q1, by rw [upd_ne hne]; exact q2, q3⟩
/-- a thing that stands apart -/
theorem RS0.hide {S : Store} {H : Hp} {p : Addr} {o : HO} (r : RS0 K ad F ρ S H) (hp : H p = none) : RS0 K ad F (ρ.hid p o) S (upd H p o) ∧ Le0 F ρ F (ρ.hid p o) := by
  have fp := Same.free r.sub hp
  have l : Le0 F ρ F (ρ.hid p o) := Le0.same (Same.refl _) fun i a h => h
  refine ⟨⟨fun a u e => ?_, r.len, fun i b d e => ?_, r.inj, fun q hq => ?_, ?_⟩, l⟩
  · rw [upd_ne (ne_of_none e fp)]
    exact r.sub a u e
  · obtain ⟨a, u, e1, e3, e2, e4⟩ := r.cel i b d e
    have hne : a ≠ p := fun z => r.tr i a e1 (by rw [z]; exact hp)
    exact ⟨a, u, e1, e3.mono0 l, fun hb => ⟨by rw [upd_ne hne]; exact (e2 hb).1, (e2 hb).2⟩, e4⟩
  · rcases List.mem_cons.mp hq with rfl | hq
    · refine ⟨upd_same, fp, fun hm => ?_⟩
      obtain ⟨i, hi, e⟩ := List.getElem_of_mem hm
      have hi : i < ρ.l.length := hi
      have e : ρ.l[i] = p := e
      exact r.tr i p (by rw [List.getElem?_eq_getElem hi, e]) hp
    · obtain ⟨q1, q2, q3⟩ := r.prv q hq
      exact ⟨by rw [upd_ne (ne_of_none q1 hp)]; exact q1, q2, q3⟩
  · refine List.nodup_cons.mpr ⟨fun hm => ?_, r.prn⟩
    obtain ⟨q, hq, e⟩ := List.mem_map.mp hm
    have := (r.prv q hq).1
    rw [e, hp] at this
    cases this
/-- it changes -/
theorem RS0.rehide {S : Store} {H : Hp} {p : Addr} {o o' : HO} (r : RS0 K ad F (ρ.hid p o) S H) : RS0 K ad F (ρ.hid p o') S (upd H p o') := by
  obtain ⟨h1, h2, h3⟩ := r.prv (p, o) List.mem_cons_self
  refine ⟨fun a u e => ?_, r.len, fun i b d e => ?_, r.inj, fun q hq => ?_, r.prn⟩
  · rw [upd_ne (ne_of_none e h2)]
    exact r.sub a u e
  · obtain ⟨a, u, e1, e3, e2, e4⟩ := r.cel i b d e
    have hne : a ≠ p := fun z => h3 (by show p ∈ ρ.l; rw [← z]; exact List.mem_of_getElem? e1)
    exact ⟨a, u, e1, Rc.mono0 (F := F) (ρ := ρ.hid p o) (ρ' := ρ.hid p o') (Le0.same (Same.refl _) fun i a h => h) e3, fun hb => ⟨by rw [upd_ne hne]; exact (e2 hb).1, (e2 hb).2⟩, e4⟩
  · rcases List.mem_cons.mp hq with rfl | hq
    · exact ⟨upd_same, h2, h3⟩
    · obtain ⟨q1, q2, q3⟩ := r.prv q (List.mem_cons_of_mem _ hq)
      have hne : q.1 ≠ p := fun z => (List.nodup_cons.mp r.prn).1 (List.mem_map.mpr ⟨q, hq, z⟩)
      exact ⟨by rw [upd_ne hne]; exact q1, q2, q3⟩
/-- it is seen no more, and free to be laid -/
theorem RS0.drop {S : Store} {H : Hp} {p : Addr} {o : HO} (r : RS0 K ad F (ρ.hid p o) S H) : RS0 K ad (upd F p o) ρ S H ∧ Le0 F (ρ.hid p o) (upd F p o) ρ := by
  obtain ⟨h1, h2, h3⟩ := r.prv (p, o) List.mem_cons_self
  have l : Le0 F (ρ.hid p o) (upd F p o) ρ := Le0.same (same_upd h2) fun i a h => h
  refine ⟨⟨fun a u e => ?_, r.len, fun i b d e => ?_, r.inj, fun q hq => ?_, (List.nodup_cons.mp r.prn).2⟩, l⟩
  · by_cases h : a = p
    · subst h
      rw [upd_same] at e
      cases e
      exact h1
    · rw [upd_ne h] at e
      exact r.sub a u e
  · obtain ⟨a, u, e1, e3, e2, e4⟩ := r.cel i b d e
    have hne : a ≠ p := fun z => h3 (by show p ∈ ρ.l; rw [← z]; exact List.mem_of_getElem? e1)
    exact ⟨a, u, e1, e3.mono0 l, fun hb => ⟨(e2 hb).1, by rw [upd_ne hne]; exact (e2 hb).2⟩, fun hb => let ⟨o', q1, q2⟩ := e4 hb; ⟨o', by rw [upd_ne hne]; exact q1, q2⟩⟩
  · obtain ⟨q1, q2, q3⟩ := r.prv q (List.mem_cons_of_mem _ hq)
    have hne : q.1 ≠ p := fun z => (List.nodup_cons.mp r.prn).1 (List.mem_map.mpr ⟨q, hq, z⟩)
    exact ⟨q1, by rw [upd_ne hne]; exact q2, q3⟩
/-- .. or becomes a cell -/
theorem RS0.dropC {S : Store} {H : Hp} {p : Addr} {o : HO} {c : Cel} (r : RS0 K ad F (ρ.hid p o) S H) (hc : Rc K ad F (ρ.hid p o) c o) : RS0 K ad F (ρ.add p) (S ++ [(true, c)]) H ∧ Le0 F (ρ.hid p o) F (ρ.add p) := by
  obtain ⟨h1, h2, h3⟩ := r.prv (p, o) List.mem_cons_self
  have h3 : p ∉ ρ.l := h3
  have l : Le0 F (ρ.hid p o) F (ρ.add p) := Le0.same (Same.refl _) fun i a h => by
    have h : ρ.l[i]? = some a := h
    show (ρ.l ++ [p])[i]? = some a
    rw [List.getElem?_append_left (List.getElem?_eq_some_iff.mp h).1]; exact h
  have hlen : ρ.l.length = S.length := r.len
  refine ⟨⟨r.sub, by simp [Rts.add, hlen], fun i b d e => ?_, List.nodup_append.mpr ⟨r.inj, by simp, fun a ha b hb => by
    have : b = p := by simpa using hb
    subst this
    intro z; subst z; exact h3 ha⟩, fun q hq => ?_, (List.nodup_cons.mp r.prn).2⟩, l⟩
  · by_cases hi : i < S.length
    · rw [List.getElem?_append_left hi] at e
      obtain ⟨a, u, e1, e3, e2, e4⟩ := r.cel i b d e
      exact ⟨a, u, l.r _ _ e1, e3.mono0 l, e2, e4⟩
    · have hi2 : i = S.length := by
        have := (List.getElem?_eq_some_iff.mp e).1
        simp at this
        omega
      subst hi2
      simp at e
      obtain ⟨e1, e2⟩ := e
      subst e1 e2
      exact ⟨p, o, by rw [← hlen]; simp [Rts.add], hc.mono0 l, fun _ => ⟨h1, h2⟩, fun z => nomatch z⟩
  · obtain ⟨q1, q2, q3⟩ := r.prv q (List.mem_cons_of_mem _ hq)
    have hne : q.1 ≠ p := fun z => (List.nodup_cons.mp r.prn).1 (List.mem_map.mpr ⟨q, hq, z⟩)
    refine ⟨q1, q2, fun hm => ?_⟩
    rcases List.mem_append.mp hm with hm | hm
    · exact q3 hm
    · exact hne (by simpa using hm)
/-- what a cell holds stands in the heap (a dict perhaps locked) -/
theorem RS0.rd {S : Store} {H : Hp} {i : Nat} {b : Bool} {c : Cel} (r : RS0 K ad F ρ S H) (hi : S[i]? = some (b, c)) : ∃ a o o', ρ.l[i]? = some a ∧ Rc K ad F ρ c o ∧ H a = some o' ∧ LkE o o' := by
  obtain ⟨a, o, e1, e3, e2, e4⟩ := r.cel i _ _ hi
  cases b with
  | true => exact ⟨a, o, o, e1, e3, (e2 rfl).1, .refl⟩
  | false =>
    obtain ⟨o', q1, q2⟩ := e4 rfl
    exact ⟨a, o, o', e1, e3, r.sub _ _ q1, q2.e⟩
end
end Fl
namespace Fl
open PySem PySem.Spec L2
open PyProof.Rows hiding St

section
variable (K : PySem.W.Frag) (ad : Ads)
/-- an exception as data -/
def RpX (F : Hp) (ρ : Rts) (c : Str) (fs : List (Str × Val)) (cls : Value) (d : Option Addr) (H : Hp) : Prop :=
  ∃ C, ad (.inr c) = some C ∧ cls = .ref C ∧ (fs = [] ∨ ∃ dx vs, d = some dx ∧ F dx = some (.xd vs) ∧ Rpf K ad F ρ fs vs)
/-- what is wanted behind a part -/
def Aft {α β : Type} (R : Hp → Rts → α → β → Prop) (W : WX) (F : Hp) (ρ : Rts) (env : Env) (σ : L2.St) (r : Res α) (Q : β → Hp → Prop) : Prop :=
  match r with
  | .ok a S => ∀ F' ρ' b H', Le F ρ F' ρ' → RS K ad F' ρ' env S σ H' → R F' ρ' a b → Q b H'
  | .exc c fs S => ∀ F' ρ' H' cls d, Le F ρ F' ρ' → RS K ad F' ρ' env S σ H' → RpX K ad F' ρ' c fs cls d H' → W cls d σ H'
  | .stuck => False
def tG {α β : Type} (R : Hp → Rts → α → β → Prop) (W : WX) (f : Env → Store → Res α) : L2.St → Hp → (β → Hp → Prop) → Prop := fun σ H Q =>
  ∃ F ρ env S, RS K ad F ρ env S σ H ∧ Aft K ad R W F ρ env σ (f env S) Q
def RB (F : Hp) (ρ : Rts) (a b : Bool) : Prop := a = b
end
structure GE (X : Cx) (ad : Ads) (W : WX) (e : Expr) (f : EF) : Prop where
  run : PE X e (tG X.K ad (Rp X.K ad) W f)
structure GT (X : Cx) (ad : Ads) (W : WX) (e : Expr) (f : Env → Store → Res Bool) : Prop where
  run : PT X e (tG X.K ad RB W f)
structure GW (X : Cx) (ad : Ads) (W : WX) (e : Expr) (f : Env → Store → Res Bool) : Prop where
  run : PW X e (tG X.K ad RB W f)
structure GA (X : Cx) (ad : Ads) (W : WX) (es : List Expr) (f : AF) : Prop where
  run : PA X es (tG X.K ad (Rps X.K ad) W f)
theorem _root_.L2.PE.imp {X : Cx} {e : Expr} {t t' : TE} (h : PE X e t) (i : ∀ σ H Q, t' σ H Q → t σ H Q) : PE X e t' := ⟨fun p s σ H Q I q => h.run p s σ H Q I (i σ H Q q)⟩
theorem _root_.L2.PT.imp {X : Cx} {e : Expr} {t t' : TT} (h : PT X e t) (i : ∀ σ H Q, t' σ H Q → t σ H Q) : PT X e t' := ⟨fun p s σ H Q I q => h.run p s σ H Q I (i σ H Q q)⟩
theorem _root_.L2.PW.imp {X : Cx} {e : Expr} {t t' : TT} (h : PW X e t) (i : ∀ σ H Q, t' σ H Q → t σ H Q) : PW X e t' := ⟨fun w p s σ H Q I q => h.run w p s σ H Q I (i σ H Q q)⟩
theorem _root_.L2.PA.imp {X : Cx} {e : List Expr} {t t' : TA} (h : PA X e t) (i : ∀ σ H Q, t' σ H Q → t σ H Q) : PA X e t' := ⟨fun w p s σ H Q I q => h.run w p s σ H Q I (i σ H Q q)⟩

section
variable {K : PySem.W.Frag} {ad : Ads} {W : WX} {F F' : Hp} {ρ ρ' : Rts} {env : Env} {σ : L2.St} {S : Store} {H : Hp}
theorem Aft.later {α β : Type} {R : Hp → Rts → α → β → Prop} {r : Res α} {Q : β → Hp → Prop} (l : Le F ρ F' ρ') (h : Aft K ad R W F ρ env σ r Q) : Aft K ad R W F' ρ' env σ r Q := by
  cases r with
  | ok a S => exact fun F2 ρ2 b H2 l2 => h F2 ρ2 b H2 (l.trans l2)
  | exc c fs S => exact fun F2 ρ2 H2 cls d l2 => h F2 ρ2 H2 cls d (l.trans l2)
  | stuck => exact h.elim
/-- a part, then the rest -/
theorem Aft.bind {α β γ δ : Type} {R1 : Hp → Rts → α → β → Prop} {R2 : Hp → Rts → γ → δ → Prop} {r : Res α} {g : α → Store → Res γ} {Q : δ → Hp → Prop} {k : β → Hp → Prop}
    (h : Aft K ad R2 W F ρ env σ (r.bind g) Q)
    (hk : ∀ F' ρ' S' a b H', Le F ρ F' ρ' → RS K ad F' ρ' env S' σ H' → R1 F' ρ' a b → Aft K ad R2 W F' ρ' env σ (g a S') Q → k b H') : Aft K ad R1 W F ρ env σ r k := by
  cases r with
  | ok a S => exact fun F' ρ' b H' l rs ra => hk F' ρ' S a b H' l rs ra (Aft.later l h)
  | exc c fs S => exact h
  | stuck => exact h.elim
theorem Aft.mono {α β : Type} {R : Hp → Rts → α → β → Prop} {r : Res α} {Q Q' : β → Hp → Prop} (h : Aft K ad R W F ρ env σ r Q) (i : ∀ b H, Q b H → Q' b H) : Aft K ad R W F ρ env σ r Q' := by
  cases r with
  | ok a S => exact fun F2 ρ2 b H2 l2 rs rr => i _ _ (h F2 ρ2 b H2 l2 rs rr)
  | exc c fs S => exact h
  | stuck => exact h.elim
theorem RS.lay {p : Addr} {o : HO} (r : RS K ad F ρ env S σ H) (hp : H p = none) : RS K ad (upd F p o) ρ env S σ (upd H p o) ∧ Le F ρ (upd F p o) ρ :=
  ⟨⟨(r.s.lay hp).1, r.e.mono (r.s.lay (o := o) hp).2⟩, (r.s.lay hp).2⟩
theorem RS.cell {p : Addr} {o : HO} {c : Cel} (r : RS K ad F ρ env S σ H) (hp : H p = none) (hc : Rc K ad F ρ c o) : RS K ad F (ρ.add p) env (S ++ [(true, c)]) σ (upd H p o) ∧ Le F ρ F (ρ.add p) :=
  ⟨⟨(r.s.cell hp hc).1, r.e.mono (r.s.cell hp hc).2⟩, (r.s.cell hp hc).2⟩
theorem RS.frz {i : Nat} {c : Cel} (r : RS K ad F ρ env S σ H) (hi : S[i]? = some (true, c)) : ∃ a o, ρ.l[i]? = some a ∧ Rc K ad F ρ c o ∧ RS K ad (upd F a o) ρ env (S.set i (false, c)) σ H ∧ Le F ρ (upd F a o) ρ := by
  obtain ⟨a, o, e1, e3, e4, l⟩ := r.s.frz hi
  exact ⟨a, o, e1, e3, ⟨e4, r.e.mono l⟩, l⟩
theorem RS.put {i : Nat} {a : Addr} {o : HO} {c c0 : Cel} (r : RS K ad F ρ env S σ H) (hi : S[i]? = some (true, c0)) (ha : ρ.l[i]? = some a) (hc : Rc K ad F ρ c o) : RS K ad F ρ env (S.set i (true, c)) σ (upd H a o) :=
  ⟨r.s.put hi ha hc, r.e⟩
end

/-! ### values that are read -/
def lstX (S : Store) : Val → Option (List Val)
  | .lst xs => some xs
  | .ref i => match S[i]? with
    | some (_, .lst xs) => some xs
    | _ => none
  | _ => none
def lstOf (S : Store) : Val → Option (List Val)
  | .wls xs => some xs
  | v => lstX S v
def tupOf : Val → Option (List Val)
  | .tup xs => some xs
  | _ => none
def seqOf (S : Store) : Val → Option (List Val)
  | .tup xs => some xs
  | v => lstOf S v
def dctOf (S : Store) : Val → Option (List (Str × Val))
  | .dct xs => some xs
  | .ref i => match S[i]? with
    | some (_, .dct xs) => some xs
    | some (_, .lck xs) => some xs
    | _ => none
  | _ => none
def insOf (S : Store) : Val → Option (Str × List (Str × Val))
  | .obj c fs => some (c, fs)
  | .ref i => match S[i]? with
    | some (_, .ins c fs) => some (c, fs)
    | _ => none
  | _ => none
section
variable {K : PySem.W.Frag} {ad : Ads} {W : WX} {F F' : Hp} {ρ ρ' : Rts} {env : Env} {σ : L2.St} {S : Store} {H : Hp}
theorem RS0.lstX (r : RS0 K ad F ρ S H) {x : Val} {u : V} {xs : List Val} (h : Rp K ad F ρ x u) (e : lstX S x = some xs) : ∃ a vs, u = .ref a ∧ H a = some (.lst vs) ∧ Rps K ad F ρ xs vs := by
  cases x <;> simp only [Fl.lstX] at e <;> try cases e
  · cases h with
    | lst h1 h2 => exact ⟨_, _, rfl, r.sub _ _ h1, h2⟩
  · rename_i i
    split at e
    · rename_i ys hs
      cases e
      cases h with
      | ref h1 =>
        obtain ⟨a, o, o', e1, ⟨vs, e3, e4⟩, e2, e5⟩ := r.rd hs
        rw [h1] at e1; cases e1
        subst e3
        rw [e5.other fun _ => bare_lst] at e2
        exact ⟨_, vs, rfl, e2, e4⟩
    · cases e
theorem RS0.lst (r : RS0 K ad F ρ S H) {x : Val} {u : V} {xs : List Val} (h : Rp K ad F ρ x u) (e : lstOf S x = some xs) : ∃ a vs, u = .ref a ∧ SqL K H a vs ∧ Rps K ad F ρ xs vs := by
  by_cases ht : ∃ ys, x = .wls ys
  · obtain ⟨ys, rfl⟩ := ht
    simp only [lstOf] at e
    cases e
    cases h with
    | wls h1 h2 => exact ⟨_, _, rfl, Same.seq r.sub h1, h2⟩
  · have e' : Fl.lstX S x = some xs := by
      cases x <;> first | exact e | exact absurd ⟨_, rfl⟩ ht
    obtain ⟨a, vs, h1, h2, h3⟩ := r.lstX h e'
    exact ⟨a, vs, h1, SqL.of h2, h3⟩
theorem RS0.tup (r : RS0 K ad F ρ S H) {x : Val} {u : V} {xs : List Val} (h : Rp K ad F ρ x u) (e : tupOf x = some xs) : ∃ a vs, u = .ref a ∧ SqT K H a vs ∧ Rps K ad F ρ xs vs := by
  cases x <;> simp only [tupOf] at e <;> try cases e
  cases h with
  | tup h1 h2 => exact ⟨_, _, rfl, Sub.tup r.sub h1, h2⟩
theorem RS0.seq (r : RS0 K ad F ρ S H) {x : Val} {u : V} {xs : List Val} (h : Rp K ad F ρ x u) (e : seqOf S x = some xs) : ∃ a vs, u = .ref a ∧ (SqL K H a vs ∨ SqT K H a vs) ∧ Rps K ad F ρ xs vs := by
  by_cases ht : ∃ ys, x = .tup ys
  · obtain ⟨ys, rfl⟩ := ht
    simp only [seqOf] at e
    cases e
    obtain ⟨a, vs, h1, h2, h3⟩ := r.tup (xs := xs) h rfl
    exact ⟨a, vs, h1, .inr h2, h3⟩
  · have e' : lstOf S x = some xs := by
      cases x <;> first | exact e | exact absurd ⟨_, rfl⟩ ht
    obtain ⟨a, vs, h1, h2, h3⟩ := r.lst h e'
    exact ⟨a, vs, h1, .inl h2, h3⟩
theorem RS0.ins (r : RS0 K ad F ρ S H) {x : Val} {u : V} {c : Str} {fs : List (Str × Val)} (h : Rp K ad F ρ x u) (e : insOf S x = some (c, fs)) : ∃ a C dx vs, u = .ref a ∧ ad (.inl c) = some C ∧ H a = some (.ins C dx vs) ∧ Rpf K ad F ρ fs vs := by
  cases x <;> simp only [insOf] at e <;> try cases e
  · cases h with
    | obj h1 h2 h3 => exact ⟨_, _, _, _, rfl, h1, r.sub _ _ h2, h3⟩
  · rename_i i
    split at e
    · rename_i hs
      cases e
      cases h with
      | ref h1 =>
        obtain ⟨a, o, o', e1, ⟨C, dx, vs, e3, e4, e5⟩, e2, e6⟩ := r.rd hs
        rw [h1] at e1; cases e1
        subst e3
        rw [e6.other fun _ => bare_ins] at e2
        exact ⟨_, C, dx, vs, rfl, e4, e2, e5⟩
    · cases e
end

/-! ### names, constants -/
def eVar (i : Nat) : EF := fun env S => match env[i]? with
  | some (some v) => .ok v S
  | _ => .stuck
def eC (v : Val) : EF := fun _ S => .ok v S
section
variable {X : Cx} {ad : Ads} {W : WX} {pos : Pos}
theorem g_of {e : Expr} {f : EF} {t : TE} (h : PE X e t) (i : ∀ F ρ env S σ H Q, RS X.K ad F ρ env S σ H → Aft X.K ad (Rp X.K ad) W F ρ env σ (f env S) Q → t σ H Q) : GE X ad W e f :=
  ⟨h.imp fun σ H Q ⟨F, ρ, env, S, rs, q⟩ => i F ρ env S σ H Q rs q⟩
theorem g_var (i : Nat) {x : Str} (hN : X.N[i]? = some x := by rfl) (hv : Vis X.env.scope x := by first | exact Or.inl rfl | exact Or.inr (Or.inl rfl) | exact Or.inr (Or.inr rfl)) (hd : (x == ("__debug__" : Str)) = false := by decide)
    (hcd : (x == ("__classdict__" : Str)) = false := by decide) : GE X ad W (.Name x pos) (eVar i) := by
  refine g_of (pe_var hN hv hd hcd) fun F ρ env S σ H Q rs q => ?_
  unfold eVar at q
  split at q
  · rename_i v e
    obtain ⟨v', h1, h2⟩ := rs.e.at_ _ _ e
    exact ⟨v', h1, q F ρ v' H .refl rs h2⟩
  · exact q.elim
theorem g_int {i : Int} {j} : GE X ad W (.Constant (.int i) j pos) (eC (.int i)) := g_of pe_int fun F ρ env S σ H Q rs q => q F ρ _ H .refl rs (.int i)
theorem g_str {i : Str} {j} : GE X ad W (.Constant (.str i) j pos) (eC (.str i)) := g_of pe_str fun F ρ env S σ H Q rs q => q F ρ _ H .refl rs (.str i)
theorem g_bool {i : Bool} {j} : GE X ad W (.Constant (.bool i) j pos) (eC (.bl i)) := g_of pe_bl fun F ρ env S σ H Q rs q => q F ρ _ H .refl rs (.bl i)
theorem g_non {j} : GE X ad W (.Constant .none j pos) (eC .non) := g_of pe_non fun F ρ env S σ H Q rs q => q F ρ _ H .refl rs .non
/-- a module's constant: v is what it is, as data (no part of the heap that is tracked) -/
theorem g_glob {x : Str} {v : V} {a : Val} (hg : Gl X x) (h : ∃ u, X.mg x = some u ∧ RelV v u) (hr : ∀ F ρ, Rp X.K ad F ρ a v) (hd : (x == ("__debug__" : Str)) = false := by decide) : GE X ad W (.Name x pos) (eC a) := by
  obtain ⟨u, hm, r⟩ := h
  exact g_of (pe_glob hg hm r hd) fun F ρ env S σ H Q rs q => q F ρ _ H .refl rs (hr F ρ)

/-! ### operators -/
/-- what an operator does, by values -/
def OpS (K : PySem.W.Frag) (ad : Ads) (r : R2) (o : Val → Val → Store → Res Val) : Prop :=
  ∀ W F ρ env S σ H x y u v Q, RS K ad F ρ env S σ H → Rp K ad F ρ x u → Rp K ad F ρ y v → Aft K ad (Rp K ad) W F ρ env σ (o x y S) Q → r u v H Q
def e2 (o : Val → Val → Store → Res Val) (fa fb : EF) : EF := fun env S => (fa env S).bind fun x S1 => (fb env S1).bind fun y S2 => o x y S2
theorem two {o : Val → Val → Store → Res Val} {a b : Expr} {fa fb : EF} {r : R2} (hs : OpS X.K ad r o) (ha : GE X ad W a fa) (hb : GE X ad W b fb) {F ρ env S σ H Q} (rs : RS X.K ad F ρ env S σ H)
    (q : Aft X.K ad (Rp X.K ad) W F ρ env σ (e2 o fa fb env S) Q) : tOp r (tG X.K ad (Rp X.K ad) W fa) (tG X.K ad (Rp X.K ad) W fb) σ H Q := by
  refine ⟨F, ρ, env, S, rs, Aft.bind q fun F1 ρ1 S1 x u H1 l1 rs1 rx q1 => ?_⟩
  exact ⟨F1, ρ1, env, S1, rs1, Aft.bind q1 fun F2 ρ2 S2 y v H2 l2 rs2 ry q2 => hs W F2 ρ2 env S2 σ H2 x y u v Q rs2 (rx.mono l2) ry q2⟩
theorem g_op {o : Val → Val → Store → Res Val} {op : Operator} {a b : Expr} {fa fb : EF} {r : R2} (ho : OpR X (binaryOp op) r) (hs : OpS X.K ad r o) (ha : GE X ad W a fa) (hb : GE X ad W b fb) : GE X ad W (.BinOp a op b pos) (e2 o fa fb) :=
  g_of (pe_op ho ha.run hb.run) fun F ρ env S σ H Q rs q => two hs ha hb rs q
theorem g_cmp {o : Val → Val → Store → Res Val} {op : CmpOp} {a b : Expr} {fa fb : EF} {r : R2} (ho : OpR X (compareOp op) r) (hs : OpS X.K ad r o) (hm : behindInMarks op b = false) (ha : GE X ad W a fa) (hb : GE X ad W b fb) : GE X ad W (.Compare a [op] [b] pos) (e2 o fa fb) :=
  g_of (pe_cmpR ho ha.run hb.run hm) fun F ρ env S σ H Q rs q => two hs ha hb rs q
def orR (r r' : R2) : R2 := fun x y H Q => r x y H Q ∨ r' x y H Q
theorem OpR.or {f : Value → Value → Sem Value} {r r' : R2} (h : OpR X f r) (h' : OpR X f r') : OpR X f (orR r r') := fun pins s σ H x y v u Q I rx ry q => q.elim (h pins s σ H x y v u Q I rx ry) (h' pins s σ H x y v u Q I rx ry)
theorem OpS.or {K : PySem.W.Frag} {r r' : R2} {o o' : Val → Val → Store → Res Val} {c : Val → Val → Store → Bool} (h : OpS K ad r o) (h' : OpS K ad r' o') : OpS K ad (orR r r') (fun x y S => if c x y S then o x y S else o' x y S) := by
  intro W F ρ env S σ H x y u v Q rs rx ry q
  by_cases hc : c x y S = true
  · simp only [hc, if_true] at q
    exact .inl (h W F ρ env S σ H x y u v Q rs rx ry q)
  · simp only [hc, if_false] at q
    exact .inr (h' W F ρ env S σ H x y u v Q rs rx ry q)
end
end Fl
namespace Fl
open PySem PySem.Spec L2
open PyProof.Rows hiding St

/-- a new list: as a value that stays, or as a cell -/
def mkL (c : Bool) (xs : List Val) (S : Store) : Res Val := if c then .ok (.ref S.length) (S ++ [(true, .lst xs)]) else .ok (.lst xs) S
section
variable {K : PySem.W.Frag} {ad : Ads} {W : WX} {F F' : Hp} {ρ ρ' : Rts} {env : Env} {σ : L2.St} {S : Store} {H : Hp} {Q : V → Hp → Prop}
theorem Aft.pure {x : Val} {u : V} (h : Aft K ad (Rp K ad) W F ρ env σ (.ok x S) Q) (rs : RS K ad F ρ env S σ H) (r : Rp K ad F ρ x u) : Q u H := h F ρ u H .refl rs r
theorem Aft.lst {c : Bool} {xs : List Val} {vs : List V} (h : Aft K ad (Rp K ad) W F ρ env σ (mkL c xs S) Q) (rs : RS K ad F ρ env S σ H) (r : Rps K ad F ρ xs vs) : ∀ p, H p = none → Q (.ref p) (upd H p (.lst vs)) := fun p hp => by
  cases c with
  | true =>
    obtain ⟨rs', l⟩ := rs.cell (c := .lst xs) (o := .lst vs) hp ⟨vs, rfl, r⟩
    exact h F (ρ.add p) _ _ l rs' (.ref (by rw [← rs.s.len]; simp [Rts.add]))
  | false =>
    obtain ⟨rs', l⟩ := rs.lay (o := .lst vs) hp
    exact h (upd F p (.lst vs)) ρ _ _ l rs' (.lst upd_same (r.mono l))
theorem Aft.tup {xs : List Val} {vs : List V} (h : Aft K ad (Rp K ad) W F ρ env σ (.ok (.tup xs) S) Q) (rs : RS K ad F ρ env S σ H) (r : Rps K ad F ρ xs vs) : ∀ p, H p = none → Q (.ref p) (upd H p (.tup vs)) := fun p hp => by
  obtain ⟨rs', l⟩ := rs.lay (o := .tup vs) hp
  exact h (upd F p (.tup vs)) ρ _ _ l rs' (.tup (.inl (.inl upd_same)) (r.mono l))
/-- a new cell that holds a dict -/
theorem Aft.dctC {ks : List (Str × Val)} {vs : List (Key × V)} (h : Aft K ad (Rp K ad) W F ρ env σ (.ok (.ref S.length) (S ++ [(true, .dct ks)])) Q) (rs : RS K ad F ρ env S σ H) (r : Rpk K ad F ρ ks vs) : ∀ p, H p = none → Q (.ref p) (upd H p (.dK vs)) := fun p hp => by
  obtain ⟨rs', l⟩ := rs.cell (c := .dct ks) (o := .dK vs) hp ⟨vs, rfl, r⟩
  exact h F (ρ.add p) _ _ l rs' (.ref (by rw [← rs.s.len]; simp [Rts.add]))
end

/-! ### arithmetic -/
def vI (C : Int → Int → Bool) (g : Int → Int → Int) (x y : Val) (S : Store) : Res Val := match x, y with
  | .int i, .int j => if C i j then .ok (.int (g i j)) S else .stuck
  | _, _ => .stuck
def vIB (g : Int → Int → Bool) (x y : Val) (S : Store) : Res Val := match x, y with
  | .int i, .int j => .ok (.bl (g i j)) S
  | _, _ => .stuck
def vSub := vI (fun _ _ => true) fun i j => i - j
def vFdiv := vI (fun _ j => decide (0 < j ∧ j < 1073741824)) fun i j => i / j
def vMod := vI (fun _ j => decide (0 < j)) fun i j => i % j
def vPow := vI (fun i j => decide (0 ≤ j ∧ j ≤ 1000000 ∧ i.natAbs < 2 ^ 64)) fun i j => i ^ j.toNat
def vLt := vIB fun i j => decide (i < j)
def vLe := vIB fun i j => decide (i ≤ j)
def vGt := vIB fun i j => decide (j < i)
def vGe := vIB fun i j => decide (j ≤ i)
def vAdd (x y : Val) (S : Store) : Res Val := match x, y with
  | .int i, .int j => .ok (.int (i + j)) S
  | .str a, .str b => if a.length + b.length ≤ sizeLine then .ok (.str (a ++ b)) S else .stuck
  | .tup xs, .tup ys => if xs.length + ys.length ≤ sizeLine then .ok (.tup (xs ++ ys)) S else .stuck
  | x, y => match lstX S x, lstX S y with
    | some xs, some ys => if xs.length + ys.length ≤ sizeLine then .ok (.lst (xs ++ ys)) S else .stuck
    | _, _ => .stuck
/-- xs + ys, held in a cell -/
def vCat (x y : Val) (S : Store) : Res Val := match lstX S x, lstX S y with
    | some xs, some ys => if xs.length + ys.length ≤ sizeLine then mkL true (xs ++ ys) S else .stuck
    | _, _ => .stuck
def vMul (x y : Val) (S : Store) : Res Val := match x, y with
  | .int i, .int j => if (-(2 ^ 64) < i ∧ i < 2 ^ 64) ∨ (-(2 ^ 64) < j ∧ j < 2 ^ 64) then .ok (.int (i * j)) S else .stuck
  | x, .int k => match lstX S x with
    | some xs => if 0 ≤ k ∧ k < 2 ^ 63 ∧ xs.length * k.toNat ≤ sizeLine then .ok (.lst (List.replicate k.toNat xs).flatten) S else .stuck
    | none => .stuck
  | _, _ => .stuck
section
variable {K : PySem.W.Frag} {ad : Ads}
theorem s_I {C : Int → Int → Bool} {D : Int → Int → Prop} {g : Int → Int → Int} (h : ∀ i j, C i j = true → D i j) : OpS K ad (rI D fun i j => .int (g i j)) (vI C g) := by
  intro W F ρ env S σ H x y u v Q rs rx ry q
  cases rx <;> cases ry <;> simp only [vI] at q <;> try exact q.elim
  rename_i i j
  by_cases hc : C i j = true
  · simp only [hc, if_true] at q
    exact ⟨_, _, rfl, rfl, h _ _ hc, q.pure rs (.int _)⟩
  · simp only [hc, if_false] at q
    exact q.elim
theorem s_I0 {g : Int → Int → Int} : OpS K ad (rI0 fun i j => .int (g i j)) (vI (fun _ _ => true) g) := by
  intro W F ρ env S σ H x y u v Q rs rx ry q
  cases rx <;> cases ry <;> simp only [vI] at q <;> try exact q.elim
  exact ⟨_, _, rfl, rfl, Aft.pure q rs (.int _)⟩
theorem s_IB {g : Int → Int → Bool} : OpS K ad (rI0 fun i j => .bl (g i j)) (vIB g) := by
  intro W F ρ env S σ H x y u v Q rs rx ry q
  cases rx <;> cases ry <;> simp only [vIB] at q <;> try exact q.elim
  exact ⟨_, _, rfl, rfl, q.pure rs (.bl _)⟩
abbrev rAddS : R2 := fun x y H Q => ∃ i j, x = .str i ∧ y = .str j ∧ i.length + j.length ≤ sizeLine ∧ Q (.str (i ++ j)) H
abbrev rAddAll (K : PySem.W.Frag) : R2 := orR (rI0 fun i j => .int (i + j)) (orR rAddS (orR (rCatA K) rCat))
theorem o_add {X : Cx} : OpR X (binaryOp .Add) (rAddAll X.K) := OpR.or op_add (OpR.or op_add_str (OpR.or op_catA op_cat))
theorem cat_lists {W F ρ env S σ H x y u v Q} {c : Bool} {xs ys : List Val} (rs : RS K ad F ρ env S σ H) (rx : Rp K ad F ρ x u) (ry : Rp K ad F ρ y v) (ex : lstX S x = some xs) (ey : lstX S y = some ys) (hl : xs.length + ys.length ≤ sizeLine)
    (q : Aft K ad (Rp K ad) W F ρ env σ (mkL c (xs ++ ys) S) Q) : rCat u v H Q := by
  obtain ⟨a, vs, e1, h1, r1⟩ := rs.s.lstX rx ex
  obtain ⟨b, us, e2, h2, r2⟩ := rs.s.lstX ry ey
  subst e1 e2
  exact ⟨a, b, vs, us, rfl, rfl, h1, h2, by rw [← r1.length, ← r2.length]; exact hl, q.lst rs (r1.append r2)⟩
theorem s_add : OpS K ad (rAddAll K) vAdd := by
  intro W F ρ env S σ H x y u v Q rs rx ry q
  unfold vAdd at q
  split at q
  · cases rx; cases ry
    exact .inl ⟨_, _, rfl, rfl, q.pure rs (.int _)⟩
  · cases rx; cases ry
    split at q
    · rename_i hl
      exact .inr (.inl ⟨_, _, rfl, rfl, hl, q.pure rs (.str _)⟩)
    · exact q.elim
  · split at q
    · rename_i xs ys hl
      cases rx with
      | tup h1 r1 =>
        cases ry with
        | tup h2 r2 =>
          refine .inr (.inr (.inl ⟨_, _, _, _, rfl, rfl, Sub.tup rs.s.sub h1, Sub.tup rs.s.sub h2, by rw [← r1.length, ← r2.length]; exact hl, fun e => ?_, fun _ e => ?_, fun _ _ => q.tup rs (r1.append r2)⟩))
          · subst e
            cases r1
            exact q.pure rs (.tup h2 r2)
          · subst e
            cases r2
            exact q.pure rs (.tup h1 (by simpa using r1))
    · exact q.elim
  · split at q
    · rename_i xs ys ex ey
      split at q
      · rename_i hl
        exact .inr (.inr (.inr (cat_lists (c := false) rs rx ry ex ey hl q)))
      · exact q.elim
    · exact q.elim
theorem s_cat : OpS K ad rCat vCat := by
  intro W F ρ env S σ H x y u v Q rs rx ry q
  unfold vCat at q
  split at q
  · rename_i xs ys ex ey
    split at q
    · rename_i hl
      exact cat_lists rs rx ry ex ey hl q
    · exact q.elim
  · exact q.elim
abbrev rMulAll : R2 := orR (rI CMul fun i j => .int (i * j)) rRep
theorem o_mul {X : Cx} : OpR X (binaryOp .Mult) rMulAll := OpR.or op_mul op_rep
theorem Rps.rep {F : Hp} {ρ : Rts} {xs : List Val} {vs : List V} (r : Rps K ad F ρ xs vs) : ∀ n, Rps K ad F ρ (List.replicate n xs).flatten (List.replicate n vs).flatten
  | 0 => .nil
  | n + 1 => by
    rw [List.replicate_succ, List.replicate_succ, List.flatten_cons, List.flatten_cons]
    exact r.append (Rps.rep r n)
theorem s_mul : OpS K ad rMulAll vMul := by
  intro W F ρ env S σ H x y u v Q rs rx ry q
  unfold vMul at q
  split at q
  · cases rx; cases ry
    split at q
    · rename_i hl
      exact .inl ⟨_, _, rfl, rfl, hl, q.pure rs (.int _)⟩
    · exact q.elim
  · split at q
    · rename_i xs ex
      split at q
      · rename_i hl
        obtain ⟨a, vs, e1, h1, r1⟩ := rs.s.lstX rx ex
        subst e1
        cases ry
        exact .inr ⟨a, _, vs, rfl, rfl, h1, by have := hl.1; omega, hl.2.1, by rw [← r1.length]; exact hl.2.2, Aft.lst (c := false) q rs (r1.rep _)⟩
      · exact q.elim
    · exact q.elim
  · exact q.elim
end

/-! ### == over data -/
mutual
def toD : Val → Option PyData
  | .non => some .none
  | .bl b => some (.bool b)
  | .int i => some (.int i)
  | .str x => some (.str x)
  | .lst xs => (toDs xs).map .list
  | .wls xs => (toDs xs).map .list
  | .tup xs => (toDs xs).map .tuple
  | _ => none
def toDs : List Val → Option (List PyData)
  | [] => some []
  | x :: xs => match toD x, toDs xs with
    | some d, some ds => some (d :: ds)
    | _, _ => none
end
def toDS (S : Store) (x : Val) : Option PyData := match x with
  | .ref i => match S[i]? with
    | some (_, .lst xs) => (toDs xs).map .list
    | _ => none
  | x => toD x
section
variable {K : PySem.W.Frag} {ad : Ads} {F : Hp} {ρ : Rts} {S : Store} {H : Hp}
mutual
theorem dp_of (s : Sub F H) : ∀ {x : Val} {u : V} {d : PyData}, Rp K ad F ρ x u → toD x = some d → Dp K H u d
  | _, _, _, .non, e => by simp only [toD] at e; cases e; exact .non
  | _, _, _, .bl b, e => by simp only [toD] at e; cases e; exact .bl _
  | _, _, _, .int b, e => by simp only [toD] at e; cases e; exact .int _
  | _, _, _, .str b, e => by simp only [toD] at e; cases e; exact .str _
  | .tup xs, _, _, .tup h r, e => by
    simp only [toD] at e
    cases q : toDs xs with
    | none => rw [q] at e; cases e
    | some ds => rw [q] at e; cases e; exact .tup (Sub.tup s h) (dps_of s r q)
  | .lst xs, _, _, .lst h r, e => by
    simp only [toD] at e
    cases q : toDs xs with
    | none => rw [q] at e; cases e
    | some ds => rw [q] at e; cases e; exact .lst (SqL.of (s _ _ h)) (dps_of s r q)
  | .wls xs, _, _, .wls h r, e => by
    simp only [toD] at e
    cases q : toDs xs with
    | none => rw [q] at e; cases e
    | some ds => rw [q] at e; cases e; exact .lst (Same.seq s h) (dps_of s r q)
  | _, _, _, .obj _ _ _, e => by simp only [toD] at e; cases e
  | _, _, _, .ref _, e => by simp only [toD] at e; cases e
  | _, _, _, .glb _, e => by simp only [toD] at e; cases e
theorem dps_of (s : Sub F H) : ∀ {x : List Val} {u : List V} {d : List PyData}, Rps K ad F ρ x u → toDs x = some d → DpAll K H u d
  | _, _, _, .nil, e => by simp only [toDs] at e; cases e; exact .nil
  | x :: xs, _, _, .cons h r, e => by
    simp only [toDs] at e
    cases q1 : toD x with
    | none => rw [q1] at e; cases e
    | some a =>
      cases q2 : toDs xs with
      | none => rw [q1, q2] at e; cases e
      | some b =>
        rw [q1, q2] at e
        cases e
        exact .cons (dp_of s h q1) (dps_of s r q2)
end
theorem RS0.dp (r : RS0 K ad F ρ S H) {x : Val} {u : V} {d : PyData} (h : Rp K ad F ρ x u) (e : toDS S x = some d) : Dp K H u d := by
  by_cases hr : ∃ i, x = .ref i
  · obtain ⟨i, rfl⟩ := hr
    simp only [toDS] at e
    split at e
    · rename_i xs hs
      cases q : toDs xs with
      | none => rw [q] at e; cases e
      | some ds =>
        rw [q] at e; cases e
        obtain ⟨a, vs, e1, h1, r1⟩ := r.lstX (xs := xs) h (by simp only [Fl.lstX, hs])
        subst e1
        exact .lst (SqL.of h1) (dps_of r.sub r1 q)
    · cases e
  · have e' : toD x = some d := by
      cases x <;> first | exact e | exact absurd ⟨_, rfl⟩ hr
    exact dp_of r.sub h e'
def vEq (x y : Val) (S : Store) : Res Val := match toDS S x, toDS S y with
  | some d, some e => if SeqAt.shaped d && SeqAt.shaped e then .ok (.bl (PyData.eqv d e)) S else .stuck
  | _, _ => .stuck
def vNe (x y : Val) (S : Store) : Res Val := match toDS S x, toDS S y with
  | some d, some e => if SeqAt.shaped d && SeqAt.shaped e then .ok (.bl (!PyData.eqv d e)) S else .stuck
  | _, _ => .stuck
theorem s_eq : OpS K ad (rEqD K) vEq := by
  intro W F ρ env S σ H x y u v Q rs rx ry q
  unfold vEq at q
  split at q
  · rename_i d e h1 h2
    split at q
    · rename_i hs
      obtain ⟨s1, s2⟩ := Bool.and_eq_true_iff.mp hs
      exact ⟨d, e, rs.s.dp rx h1, rs.s.dp ry h2, s1, s2, q.pure rs (.bl _)⟩
    · exact q.elim
  · exact q.elim
theorem s_ne : OpS K ad (rNeD K) vNe := by
  intro W F ρ env S σ H x y u v Q rs rx ry q
  unfold vNe at q
  split at q
  · rename_i d e h1 h2
    split at q
    · rename_i hs
      obtain ⟨s1, s2⟩ := Bool.and_eq_true_iff.mp hs
      exact ⟨d, e, rs.s.dp rx h1, rs.s.dp ry h2, s1, s2, q.pure rs (.bl _)⟩
    · exact q.elim
  · exact q.elim
/-! ### is None, is not None -/
def isNonV : Val → Bool
  | .non => true
  | _ => false
def vIsN (x y : Val) (S : Store) : Res Val := match y with
  | .non => .ok (.bl (isNonV x)) S
  | _ => .stuck
def vNotN (x y : Val) (S : Store) : Res Val := match y with
  | .non => .ok (.bl (!isNonV x)) S
  | _ => .stuck
theorem isNon_of {x : Val} {u : V} (h : Rp K ad F ρ x u) : decide (u = .non) = isNonV x := by
  cases h <;> simp [isNonV]
theorem s_isN : OpS K ad (fun x y H Q => y = .non ∧ Q (.bl (decide (x = .non))) H) vIsN := by
  intro W F ρ env S σ H x y u v Q rs rx ry q
  unfold vIsN at q
  split at q
  · cases ry
    exact ⟨rfl, by rw [isNon_of rx]; exact q.pure rs (.bl _)⟩
  · exact q.elim
theorem s_notN : OpS K ad (fun x y H Q => y = .non ∧ Q (.bl (!decide (x = .non))) H) vNotN := by
  intro W F ρ env S σ H x y u v Q rs rx ry q
  unfold vNotN at q
  split at q
  · cases ry
    exact ⟨rfl, by rw [isNon_of rx]; exact q.pure rs (.bl _)⟩
  · exact q.elim
end
end Fl
namespace Fl
open PySem PySem.Spec L2
open PyProof.Rows hiding St

/-! ### in, not in -/
def flatB : Val → Bool
  | .non => true
  | .bl _ => true
  | .int _ => true
  | .str _ => true
  | _ => false
def eqF : Val → Val → Bool
  | .non, .non => true
  | .bl a, .bl b => a == b
  | .bl a, .int b => (if a then 1 else 0) == b
  | .int a, .bl b => a == (if b then 1 else 0)
  | .int a, .int b => a == b
  | .str a, .str b => a == b
  | _, _ => false
def inF (x : Val) (xs : List Val) : Bool := xs.any fun y => eqF y x
def signIn (c z : Str) : Bool := match c.cps.toList with
  | [k] => decide (k ∈ z.cps.toList)
  | _ => false
def vIn (neg : Bool) (x y : Val) (S : Store) : Res Val := match x, y with
  | .str c, .str z => if c.cps.size = 1 then .ok (.bl (if neg then !signIn c z else signIn c z)) S else .ok (.bl (if neg then !(!(Builtin.Str.occurrences z c 0 z.length 1).isEmpty) else (!(Builtin.Str.occurrences z c 0 z.length 1).isEmpty))) S
  | x, y => match seqOf S y with
    | some ys => if flatB x && ys.all flatB then .ok (.bl (if neg then !inF x ys else inF x ys)) S else .stuck
    | none => .stuck
section
variable {K : PySem.W.Frag} {ad : Ads} {F : Hp} {ρ : Rts} {S : Store} {H : Hp}
theorem flat_of {x : Val} {u : V} (h : Rp K ad F ρ x u) (f : flatB x = true) : flatV u = true := by
  cases h <;> simp [flatB, flatV] at f ⊢
theorem eqF_of {x y : Val} {u v : V} (h : Rp K ad F ρ x u) (h' : Rp K ad F ρ y v) (f : flatB x = true) (f' : flatB y = true) : eqV u v = eqF x y := by
  cases h <;> simp [flatB] at f <;> cases h' <;> simp [flatB] at f' <;> rfl
theorem flats_of : ∀ {xs : List Val} {us : List V}, Rps K ad F ρ xs us → xs.all flatB = true → us.all flatV = true
  | _, _, .nil, _ => rfl
  | _, _, .cons r t, f => by
    simp only [List.all_cons, Bool.and_eq_true] at f ⊢
    exact ⟨flat_of r f.1, flats_of t f.2⟩
theorem inF_of {x : Val} {u : V} (h : Rp K ad F ρ x u) (f : flatB x = true) : ∀ {xs : List Val} {us : List V}, Rps K ad F ρ xs us → xs.all flatB = true → inV u us = inF x xs
  | _, _, .nil, _ => rfl
  | _, _, .cons r t, g => by
    simp only [List.all_cons, Bool.and_eq_true] at g
    have ih := inF_of h f t g.2
    simp only [inV, inF, List.any_cons] at ih ⊢
    rw [eqF_of r h g.1 f, ih]
abbrev rInSt (neg : Bool) : R2 := fun x y H Q => ∃ i j, x = .str i ∧ y = .str j ∧ Q (.bl (if neg then !(!(Builtin.Str.occurrences j i 0 j.length 1).isEmpty) else (!(Builtin.Str.occurrences j i 0 j.length 1).isEmpty))) H
abbrev rInSg (neg : Bool) : R2 := fun x y H Q => ∃ (c : Nat) (z : Str), x = .str ⟨#[c]⟩ ∧ y = .str z ∧ Q (.bl (if neg then !decide (c ∈ z.cps.toList) else decide (c ∈ z.cps.toList))) H
abbrev rInAll (K : PySem.W.Frag) (neg : Bool) : R2 := orR (rInSg neg) (orR (rInSt neg) (rIn K neg))
theorem o_in {X : Cx} : OpR X (compareOp .In) (rInAll X.K false) := OpR.or op_in_sign (OpR.or op_in_str op_in_seq)
theorem o_notIn {X : Cx} : OpR X (compareOp .NotIn) (rInAll X.K true) := OpR.or op_notIn_sign (OpR.or op_notIn_str op_notIn_seq)
theorem s_in {neg : Bool} : OpS K ad (rInAll K neg) (vIn neg) := by
  intro W F ρ env S σ H x y u v Q rs rx ry q
  have other : ∀ {ys : List Val}, seqOf S y = some ys → flatB x = true → ys.all flatB = true → Q (.bl (if neg then !inF x ys else inF x ys)) H → rInAll K neg u v H Q := fun {ys} e f g q => by
    obtain ⟨a, vs, e1, h1, r1⟩ := rs.s.seq ry e
    subst e1
    exact .inr (.inr ⟨a, vs, rfl, h1, flat_of rx f, flats_of r1 g, by rw [inF_of rx f r1 g]; exact q⟩)
  unfold vIn at q
  split at q
  · rename_i c z
    cases rx; cases ry
    split at q
    · rename_i hc
      obtain ⟨⟨l⟩⟩ := c
      match l, hc with
      | [k], _ =>
        refine .inl ⟨k, z, rfl, rfl, ?_⟩
        exact q.pure rs (.bl _)
    · exact .inr (.inl ⟨c, z, rfl, rfl, q.pure rs (.bl _)⟩)
  · split at q
    · rename_i ys e
      split at q
      · rename_i hf
        obtain ⟨f, g⟩ := Bool.and_eq_true_iff.mp hf
        exact other e f g (q.pure rs (.bl _))
      · exact q.elim
    · exact q.elim
end

/-! ### tests, and, or, not -/
def eBool (f : EF) : Env → Store → Res Bool := fun env S => (f env S).bind fun x S1 => match x with
  | .bl b => .ok b S1
  | _ => .stuck
def eTruth (f : EF) : Env → Store → Res Bool := fun env S => (f env S).bind fun x S1 => match x with
  | .bl b => .ok b S1
  | .non => .ok false S1
  | .int i => .ok (i != 0) S1
  | _ => .stuck
def tNotF (f : Env → Store → Res Bool) : Env → Store → Res Bool := fun env S => (f env S).bind fun b S1 => .ok (!b) S1
def tAndF (f g : Env → Store → Res Bool) : Env → Store → Res Bool := fun env S => (f env S).bind fun b S1 => if b then g env S1 else .ok false S1
def tOrF (f g : Env → Store → Res Bool) : Env → Store → Res Bool := fun env S => (f env S).bind fun b S1 => if b then .ok true S1 else g env S1
def eAnd (f g : EF) : EF := fun env S => (eBool f env S).bind fun b S1 => if b then g env S1 else .ok (.bl false) S1
def eOr (f g : EF) : EF := fun env S => (eBool f env S).bind fun b S1 => if b then .ok (.bl true) S1 else g env S1
def eNot (f : EF) : EF := fun env S => (eBool f env S).bind fun b S1 => .ok (.bl (!b)) S1
def eIf (t : Env → Store → Res Bool) (f g : EF) : EF := fun env S => (t env S).bind fun b S1 => if b then f env S1 else g env S1
section
variable {X : Cx} {ad : Ads} {W : WX} {pos : Pos}
theorem bool_of {f : EF} {α β : Type} {R : Hp → Rts → α → β → Prop} {g : Bool → Store → Res α} {F ρ env S σ H} {Q : β → Hp → Prop} (rs : RS X.K ad F ρ env S σ H) (q : Aft X.K ad R W F ρ env σ ((eBool f env S).bind g) Q) {k : V → Hp → Prop}
    (hk : ∀ F' ρ' S' b H', Le F ρ F' ρ' → RS X.K ad F' ρ' env S' σ H' → Aft X.K ad R W F' ρ' env σ (g b S') Q → k (.bl b) H') : tG X.K ad (Rp X.K ad) W f σ H k := by
  refine ⟨F, ρ, env, S, rs, ?_⟩
  unfold eBool at q
  cases e : f env S with
  | ok x S1 =>
    rw [e] at q
    intro F' ρ' u H' l rs' r
    cases x <;> simp only [Res.bind] at q <;> first | exact q.elim | skip
    cases r
    exact hk F' ρ' S1 _ H' l rs' (Aft.later l q)
  | exc c fs S1 => rw [e] at q; exact q
  | stuck => rw [e] at q; exact q.elim
theorem gt_val {e : Expr} {f : EF} (h : GE X ad W e f) (he : ∀ whole, isTrue e X.env whole = (do let v ← whole; standAt e.pos; holding [v] (truthy v)) := by intro _; rfl) : GT X ad W e (eBool f) := by
  refine ⟨(pt_val h.run he).imp fun σ H Q ⟨F, ρ, env, S, rs, q⟩ => ?_⟩
  have q' : Aft X.K ad RB W F ρ env σ ((eBool f env S).bind fun b S1 => .ok b S1) Q := by
    cases e : eBool f env S with
    | ok b S1 => rw [e] at q; exact q
    | exc c fs S1 => rw [e] at q; exact q
    | stuck => rw [e] at q; exact q.elim
  exact bool_of rs q' fun F' ρ' S' b H' l rs' q2 => ⟨b, rfl, q2 F' ρ' b H' .refl rs' rfl⟩
theorem gt_cmp {o : Val → Val → Store → Res Val} {op : CmpOp} {a b : Expr} {fa fb : EF} {r : R2} (ho : OpR X (compareOp op) r) (hs : OpS X.K ad r o) (hm : behindInMarks op b = false) (ha : GE X ad W a fa) (hb : GE X ad W b fb) : GT X ad W (.Compare a [op] [b] pos) (eBool (e2 o fa fb)) := by
  refine ⟨(pt_cmpR ho ha.run hb.run hm).imp fun σ H Q ⟨F, ρ, env, S, rs, q⟩ => ?_⟩
  have q' : Aft X.K ad (Rp X.K ad) W F ρ env σ (e2 o fa fb env S) (fun x H' => ∃ k, x = .bl k ∧ Q k H') := by
    unfold eBool at q
    cases e : e2 o fa fb env S with
    | ok x S1 =>
      rw [e] at q
      intro F' ρ' u H' l rs' rx
      cases rx <;> simp only [Res.bind] at q <;> first | exact q.elim | skip
      exact ⟨_, rfl, q F' ρ' _ H' l rs' rfl⟩
    | exc c fs S1 => rw [e] at q; exact q
    | stuck => rw [e] at q; exact q.elim
  exact two hs ha hb rs q'
theorem GW.t {e : Expr} {f} (h : GW X ad W e f) : GT X ad W e f := ⟨h.run.pt⟩
theorem gt_bind {f : Env → Store → Res Bool} {α β : Type} {R : Hp → Rts → α → β → Prop} {g : Bool → Store → Res α} {F ρ env S σ H} {Q : β → Hp → Prop} (rs : RS X.K ad F ρ env S σ H) (q : Aft X.K ad R W F ρ env σ ((f env S).bind g) Q) {k : Bool → Hp → Prop}
    (hk : ∀ F' ρ' S' b H', Le F ρ F' ρ' → RS X.K ad F' ρ' env S' σ H' → Aft X.K ad R W F' ρ' env σ (g b S') Q → k b H') : tG X.K ad RB W f σ H k :=
  ⟨F, ρ, env, S, rs, Aft.bind (R1 := RB) q fun F' ρ' S' a b H' l rs' e q' => by cases e; exact hk F' ρ' S' a H' l rs' q'⟩
theorem gt_not {e : Expr} {f} (h : GT X ad W e f) : GT X ad W (.UnaryOp .Not e pos) (tNotF f) :=
  ⟨(pt_not h.run).imp fun σ H Q ⟨F, ρ, env, S, rs, q⟩ => gt_bind rs q fun F' ρ' S' b H' l rs' q2 => q2 F' ρ' _ H' .refl rs' rfl⟩
theorem gw_and1 {op : Expr} {f} (h : GT X ad W op f) : GW X ad W (.BoolOp .And [op] pos) f := ⟨pw_and1 h.run⟩
theorem gw_or1 {op : Expr} {f} (h : GT X ad W op f) : GW X ad W (.BoolOp .Or [op] pos) f := ⟨pw_or1 h.run⟩
theorem gw_and {a b : Expr} {rest : List Expr} {f g} (h : GT X ad W a f) (h2 : GW X ad W (.BoolOp .And (b :: rest) pos) g) : GW X ad W (.BoolOp .And (a :: b :: rest) pos) (tAndF f g) := by
  refine ⟨(pw_and h.run h2.run).imp fun σ H Q ⟨F, ρ, env, S, rs, q⟩ => gt_bind rs q fun F' ρ' S' b H' l rs' q2 => ?_⟩
  cases b with
  | true => exact ⟨F', ρ', env, S', rs', q2⟩
  | false => exact q2 F' ρ' _ H' .refl rs' rfl
theorem gw_or {a b : Expr} {rest : List Expr} {f g} (h : GT X ad W a f) (h2 : GW X ad W (.BoolOp .Or (b :: rest) pos) g) : GW X ad W (.BoolOp .Or (a :: b :: rest) pos) (tOrF f g) := by
  refine ⟨(pw_or h.run h2.run).imp fun σ H Q ⟨F, ρ, env, S, rs, q⟩ => gt_bind rs q fun F' ρ' S' b H' l rs' q2 => ?_⟩
  cases b with
  | true => exact q2 F' ρ' _ H' .refl rs' rfl
  | false => exact ⟨F', ρ', env, S', rs', q2⟩
theorem g_one {op} {a : Expr} {f : EF} (h : GE X ad W a f) : GE X ad W (.BoolOp op [a] pos) f := ⟨pe_one h.run⟩
theorem g_and {a b : Expr} {rest : List Expr} {f g : EF} (h : GE X ad W a f) (h2 : GE X ad W (.BoolOp .And (b :: rest) pos) g) : GE X ad W (.BoolOp .And (a :: b :: rest) pos) (eAnd f g) := by
  refine g_of (pe_and h.run h2.run) fun F ρ env S σ H Q rs q => bool_of rs q fun F' ρ' S' b H' l rs' q2 => ⟨b, rfl, ?_⟩
  cases b with
  | true => exact ⟨F', ρ', env, S', rs', q2⟩
  | false => exact q2.pure rs' (.bl _)
theorem g_or {a b : Expr} {rest : List Expr} {f g : EF} (h : GE X ad W a f) (h2 : GE X ad W (.BoolOp .Or (b :: rest) pos) g) : GE X ad W (.BoolOp .Or (a :: b :: rest) pos) (eOr f g) := by
  refine g_of (pe_or h.run h2.run) fun F ρ env S σ H Q rs q => bool_of rs q fun F' ρ' S' b H' l rs' q2 => ⟨b, rfl, ?_⟩
  cases b with
  | true => exact q2.pure rs' (.bl _)
  | false => exact ⟨F', ρ', env, S', rs', q2⟩
theorem g_not {a : Expr} {f : EF} (h : GE X ad W a f) : GE X ad W (.UnaryOp .Not a pos) (eNot f) := by
  refine g_of (pe_not h.run) fun F ρ env S σ H Q rs q => bool_of rs q fun F' ρ' S' b H' l rs' q2 => ⟨b, rfl, q2.pure rs' (.bl _)⟩
theorem g_ifExp {c a b : Expr} {t} {f g : EF} (hc : GT X ad W c t) (h : GE X ad W a f) (h2 : GE X ad W b g) : GE X ad W (.IfExp c a b pos) (eIf t f g) := by
  refine g_of (pe_ifExp hc.run h.run h2.run) fun F ρ env S σ H Q rs q => gt_bind rs q fun F' ρ' S' b H' l rs' q2 => ?_
  cases b with
  | true => exact ⟨F', ρ', env, S', rs', q2⟩
  | false => exact ⟨F', ρ', env, S', rs', q2⟩
def eNeg (f : EF) : EF := fun env S => (f env S).bind fun x S1 => match x with
  | .int i => .ok (.int (-i)) S1
  | _ => .stuck
theorem g_neg {a : Expr} {f : EF} (h : GE X ad W a f) : GE X ad W (.UnaryOp .USub a pos) (eNeg f) := by
  refine g_of (pe_un un_neg h.run) fun F ρ env S σ H Q rs q => ⟨F, ρ, env, S, rs, Aft.bind q fun F1 ρ1 S1 x u H1 l1 rs1 rx q1 => ?_⟩
  cases rx <;> first | exact q1.elim | skip
  exact ⟨_, rfl, q1.pure rs1 (.int _)⟩
end

/-! ### argument lists, displays -/
def aNil : AF := fun _ S => .ok [] S
def aCons (f : EF) (g : AF) : AF := fun env S => (f env S).bind fun x S1 => (g env S1).bind fun xs S2 => .ok (x :: xs) S2
def aStar (f : EF) (g : AF) : AF := fun env S => (f env S).bind fun x S1 => match seqOf S1 x with
  | some xs => (g env S1).bind fun ys S2 => .ok (xs ++ ys) S2
  | none => .stuck
def eTup (g : AF) : EF := fun env S => (g env S).bind fun xs S1 => if xs.length ≤ sizeLine then .ok (.tup xs) S1 else .stuck
def eLst (c : Bool) (g : AF) : EF := fun env S => (g env S).bind fun xs S1 => if xs.length ≤ sizeLine then mkL c xs S1 else .stuck
section
variable {X : Cx} {ad : Ads} {W : WX} {pos p : Pos}
theorem ga_nil : GA X ad W [] aNil := ⟨pa_nil.imp fun σ H Q ⟨F, ρ, env, S, rs, q⟩ => q F ρ [] H .refl rs .nil⟩
theorem ga_cons {e : Expr} {es : List Expr} {f : EF} {g : AF} (h : GE X ad W e f) (h2 : GA X ad W es g) (hs : starEach (e :: es) X.env = (false, eval e X.env) :: starEach es X.env := by rfl) : GA X ad W (e :: es) (aCons f g) := by
  refine ⟨(pa_cons h.run h2.run hs).imp fun σ H Q ⟨F, ρ, env, S, rs, q⟩ => ?_⟩
  refine ⟨F, ρ, env, S, rs, Aft.bind q fun F1 ρ1 S1 x u H1 l1 rs1 rx q1 => ?_⟩
  exact ⟨F1, ρ1, env, S1, rs1, Aft.bind q1 fun F2 ρ2 S2 y v H2 l2 rs2 ry q2 => q2 F2 ρ2 _ H2 .refl rs2 (.cons (rx.mono l2) ry)⟩
theorem ga_star {e : Expr} {es : List Expr} {f : EF} {g : AF} (h : GE X ad W e f) (h2 : GA X ad W es g) (hs : starEach (.Starred e p :: es) X.env = (true, eval e X.env) :: starEach es X.env := by rfl) : GA X ad W (.Starred e p :: es) (aStar f g) := by
  refine ⟨(StX.pa_star h.run h2.run hs).imp fun σ H Q ⟨F, ρ, env, S, rs, q⟩ => ?_⟩
  refine ⟨F, ρ, env, S, rs, Aft.bind q fun F1 ρ1 S1 x u H1 l1 rs1 rx q1 => ?_⟩
  cases e : seqOf S1 x with
  | none => simp only [e] at q1; exact q1.elim
  | some xs =>
    simp only [e] at q1
    obtain ⟨a, vs, e1, h1, r1⟩ := rs1.s.seq rx e
    exact ⟨a, vs, e1, h1.symm, F1, ρ1, env, S1, rs1, Aft.bind q1 fun F2 ρ2 S2 y v H2 l2 rs2 ry q2 => q2 F2 ρ2 _ H2 .refl rs2 ((r1.mono l2).append ry)⟩
theorem g_tup {es : List Expr} {g : AF} {x1} (h : GA X ad W es g) : GE X ad W (.Tuple es x1 pos) (eTup g) := by
  refine g_of (pe_tup h.run) fun F ρ env S σ H Q rs q => ⟨F, ρ, env, S, rs, Aft.bind q fun F1 ρ1 S1 x u H1 l1 rs1 rx q1 => ?_⟩
  split at q1
  · rename_i hl
    exact ⟨by rw [← rx.length]; exact hl, q1.tup rs1 rx⟩
  · exact q1.elim
theorem g_lst (c : Bool) {es : List Expr} {g : AF} (h : GA X ad W es g) : GE X ad W (.List es pos) (eLst c g) := by
  refine g_of (pe_lst h.run) fun F ρ env S σ H Q rs q => ⟨F, ρ, env, S, rs, Aft.bind q fun F1 ρ1 S1 x u H1 l1 rs1 rx q1 => ?_⟩
  split at q1
  · rename_i hl
    exact ⟨by rw [← rx.length]; exact hl, q1.lst rs1 rx⟩
  · exact q1.elim
end
end Fl
namespace Fl
open PySem PySem.Spec L2
open PyProof.Rows hiding St

/-! ### subscripts -/
def vIx (x y : Val) (S : Store) : Res Val := match y with
  | .int i => match x with
    | .str z => if z.length ≤ sizeLine then (match atI z.cps.toList i with
      | some c => .ok (.str ⟨#[c]⟩) S
      | none => .stuck) else .stuck
    | x => match seqOf S x with
      | some xs => match atI xs i with
        | some v => .ok v S
        | none => .stuck
      | none => .stuck
  | _ => .stuck
theorem Rps.atI {K : PySem.W.Frag} {ad : Ads} {F : Hp} {ρ : Rts} {xs : List Val} {vs : List V} {i : Int} {x : Val} (r : Rps K ad F ρ xs vs) (e : L2.atI xs i = some x) : ∃ v, L2.atI vs i = some v ∧ Rp K ad F ρ x v := by
  unfold L2.atI at e ⊢
  rw [← r.length]
  cases h : ixN xs.length i with
  | none => rw [h] at e; cases e
  | some j =>
    rw [h] at e
    exact r.get e
theorem s_ix {K : PySem.W.Frag} {ad : Ads} : OpS K ad (rIx K) vIx := by
  intro W F ρ env S σ H x y u v Q rs rx ry q
  unfold vIx at q
  split at q
  · rename_i i
    cases ry
    split at q
    · rename_i z
      cases rx
      split at q
      · rename_i hl
        split at q
        · rename_i c e
          exact .inr (.inr ⟨z, i, c, rfl, rfl, hl, e, q.pure rs (.str _)⟩)
        · exact q.elim
      · exact q.elim
    · split at q
      · rename_i xs e
        split at q
        · rename_i w e2
          obtain ⟨a, vs, e1, h1, r1⟩ := rs.s.seq rx e
          obtain ⟨w', e3, r3⟩ := r1.atI e2
          subst e1
          rcases h1 with h1 | h1
          · exact .inl ⟨a, vs, i, w', rfl, rfl, h1, e3, q.pure rs r3⟩
          · exact .inr (.inl ⟨a, vs, i, w', rfl, rfl, h1, e3, q.pure rs r3⟩)
        · exact q.elim
      · exact q.elim
  · exact q.elim
/-- slices -/
def cutL (xs : List Val) (lo hi : Option Int) : List Val := (xs.drop (HT.sIx xs.length 0 lo)).take (HT.sIx xs.length xs.length hi - HT.sIx xs.length 0 lo)
def vSl (c : Bool) (x : Val) (lo hi : Option Int) (S : Store) : Res Val := match x with
  | .str z => if z.length ≤ sizeLine then .ok (.str (cutS z lo hi)) S else .stuck
  | .tup xs => .ok (.tup (cutL xs lo hi)) S
  | x => match lstOf S x with
    | some xs => mkL c (cutL xs lo hi) S
    | none => .stuck
abbrev OF := Env → Store → Res (Option Int)
def oNone : OF := fun _ S => .ok none S
def oSome (f : EF) : OF := fun env S => (f env S).bind fun x S1 => match x with
  | .int i => .ok (some i) S1
  | _ => .stuck
def eSl (c : Bool) (f : EF) (lo hi : OF) : EF := fun env S => (f env S).bind fun x S1 => (lo env S1).bind fun l S2 => (hi env S2).bind fun h S3 => vSl c x l h S3
def RO (F : Hp) (ρ : Rts) (a b : Option Int) : Prop := a = b
structure GO (X : Cx) (ad : Ads) (W : WX) (e : Option Expr) (f : OF) : Prop where
  run : PO X e (tG X.K ad RO W f)
section
variable {X : Cx} {ad : Ads} {W : WX} {pos p2 p3 p1 : Pos}
theorem _root_.L2.PO.imp {X : Cx} {e : Option Expr} {t t' : TO} (h : PO X e t) (i : ∀ σ H Q, t' σ H Q → t σ H Q) : PO X e t' := ⟨fun p s σ H Q I q => h.run p s σ H Q I (i σ H Q q)⟩
theorem go_none : GO X ad W none oNone := ⟨po_none.imp fun σ H Q ⟨F, ρ, env, S, rs, q⟩ => q F ρ none H .refl rs rfl⟩
theorem go_some {e : Expr} {f : EF} (h : GE X ad W e f) : GO X ad W (some e) (oSome f) := by
  refine ⟨(po_some h.run).imp fun σ H Q ⟨F, ρ, env, S, rs, q⟩ => ⟨F, ρ, env, S, rs, Aft.bind q fun F1 ρ1 S1 x u H1 l1 rs1 rx q1 => ?_⟩⟩
  cases rx <;> first | exact q1.elim | skip
  exact ⟨_, rfl, q1 F1 ρ1 _ H1 .refl rs1 rfl⟩
theorem go_bind {f : OF} {α β : Type} {R : Hp → Rts → α → β → Prop} {g : Option Int → Store → Res α} {F ρ env S σ H} {Q : β → Hp → Prop} (rs : RS X.K ad F ρ env S σ H) (q : Aft X.K ad R W F ρ env σ ((f env S).bind g) Q) {k : Option Int → Hp → Prop}
    (hk : ∀ F' ρ' S' b H', Le F ρ F' ρ' → RS X.K ad F' ρ' env S' σ H' → Aft X.K ad R W F' ρ' env σ (g b S') Q → k b H') : tG X.K ad RO W f σ H k :=
  ⟨F, ρ, env, S, rs, Aft.bind (R1 := RO) q fun F' ρ' S' a b H' l rs' e q' => by cases e; exact hk F' ρ' S' a H' l rs' q'⟩
abbrev rSlAll (K : PySem.W.Frag) : V → Option Int → Option Int → Hp → VK → Prop := fun x lo hi H Q => rSlS x lo hi H Q ∨ (rSlA K x lo hi H Q ∨ rSlL K x lo hi H Q)
theorem o_sl : SlR X (rSlAll X.K) := SlR.or sl_str (SlR.or sl_tupA sl_list)
theorem Rps.cut {K : PySem.W.Frag} {F : Hp} {ρ : Rts} {xs : List Val} {vs : List V} {lo hi : Option Int} (r : Rps K ad F ρ xs vs) : Rps K ad F ρ (cutL xs lo hi) (cutV vs lo hi) := by
  unfold cutL cutV
  rw [← r.length]
  exact (r.drop _).take _
theorem sIx_all {n : Nat} {lo hi : Option Int} {xs : List Val} (h : HT.sIx xs.length 0 lo = 0 ∧ HT.sIx xs.length xs.length hi = xs.length) : cutL xs lo hi = xs := by
  unfold cutL
  rw [h.1, h.2]
  simp
theorem s_sl {c : Bool} {F ρ env S σ H} {x : Val} {u : V} {lo hi : Option Int} {Q : VK} (rs : RS X.K ad F ρ env S σ H) (rx : Rp X.K ad F ρ x u) (q : Aft X.K ad (Rp X.K ad) W F ρ env σ (vSl c x lo hi S) Q) : rSlAll X.K u lo hi H Q := by
  unfold vSl at q
  split at q
  · cases rx
    split at q
    · rename_i hl
      exact .inl ⟨_, rfl, hl, q.pure rs (.str _)⟩
    · exact q.elim
  · rename_i xs
    cases rx with
    | tup h1 r1 =>
      refine .inr (.inl ⟨_, _, rfl, Sub.tup rs.s.sub h1, fun e => ?_, fun _ => q.tup rs r1.cut⟩)
      rw [← r1.length] at e
      rw [sIx_all (n := 0) e] at q
      exact q.pure rs (.tup h1 r1)
  · split at q
    · rename_i xs e
      obtain ⟨a, vs, e1, h1, r1⟩ := rs.s.lst rx e
      exact .inr (.inr ⟨a, vs, e1, h1, q.lst rs r1.cut⟩)
    · exact q.elim
theorem g_ix {a b : Expr} {fa fb : EF} (ha : GE X ad W a fa) (hb : GE X ad W b fb) (hs : PlainIx b) : GE X ad W (.Subscript a b pos) (e2 vIx fa fb) :=
  g_of (pe_ix ix_seq ha.run hb.run hs) fun F ρ env S σ H Q rs q => two s_ix ha hb rs q
theorem g_sl (c : Bool) {e : Expr} {lo hi : Option Expr} {f : EF} {l h : OF} (he : GE X ad W e f) (hl : GO X ad W lo l) (hh : GO X ad W hi h) : GE X ad W (.Subscript e (.Slice lo hi none p2) pos) (eSl c f l h) := by
  refine g_of (pe_slice o_sl he.run hl.run hh.run) fun F ρ env S σ H Q rs q => ⟨F, ρ, env, S, rs, Aft.bind q fun F1 ρ1 S1 x u H1 l1 rs1 rx q1 => ?_⟩
  refine go_bind rs1 q1 fun F2 ρ2 S2 lo' H2 l2 rs2 q2 => ?_
  refine go_bind rs2 q2 fun F3 ρ3 S3 hi' H3 l3 rs3 q3 => ?_
  exact s_sl rs3 (rx.mono (l2.trans l3)) q3
def eRev (c : Bool) (f : EF) : EF := fun env S => (f env S).bind fun x S1 => match lstOf S1 x with
  | some xs => mkL c xs.reverse S1
  | none => .stuck
theorem g_rev (c : Bool) {e : Expr} {f : EF} {k : Nat} {p4 : Pos} (he : GE X ad W e f) : GE X ad W (.Subscript e (.Slice none none (some (.UnaryOp .USub (.Constant (.int 1) k p1) p2)) p3) pos) (eRev c f) := by
  refine g_of (pe_revL he.run) fun F ρ env S σ H Q rs q => ⟨F, ρ, env, S, rs, Aft.bind q fun F1 ρ1 S1 x u H1 l1 rs1 rx q1 => ?_⟩
  cases e : lstOf S1 x with
  | none => simp only [e] at q1; exact q1.elim
  | some xs =>
    simp only [e] at q1
    obtain ⟨a, vs, e1, h1, r1⟩ := rs1.s.lst rx e
    exact ⟨a, vs, e1, h1, q1.lst rs1 r1.reverse⟩
end

/-! ### built-ins by their names -/
abbrev BF := List Val → Store → Res Val
def CallS (K : PySem.W.Frag) (ad : Ads) (r : List V → Hp → VK → Prop) (f : BF) : Prop :=
  ∀ W F ρ env S σ H xs us Q, RS K ad F ρ env S σ H → Rps K ad F ρ xs us → Aft K ad (Rp K ad) W F ρ env σ (f xs S) Q → r us H Q
def eCall (f : BF) (a : AF) : EF := fun env S => (a env S).bind f
section
variable {X : Cx} {ad : Ads} {W : WX} {pos p : Pos} {x : Str} {e : Expr} {es : List Expr} {a : AF}
theorem g_callB {id : String} {r : List V → Hp → VK → Prop} {f : BF} (hc : CallR X (.builtin id) r) (hs : CallS X.K ad r f) (hg : Gl X x) (hm : X.mg x = none) (hv : bootBuiltins x = some (.builtin id)) (ha : GA X ad W (e :: es) a)
    (hd : (x == ("__debug__" : Str)) = false := by decide) (hn : x ≠ "__name__" := by decide) (hst : starEach (e :: es) X.env = (false, eval e X.env) :: starEach es X.env := by rfl) (hpl : (backTo pos (starEach es X.env)).any (·.1) = false := by rfl) :
    GE X ad W (.Call (.Name x p) (e :: es) [] pos) (eCall f a) :=
  g_of (pe_callB hc hg hm hv ha.run (hn := hn) (hdb := hd) (he := hst) (hpl := hpl)) fun F ρ env S σ H Q rs q => ⟨F, ρ, env, S, rs, Aft.bind q fun F1 ρ1 S1 x u H1 l1 rs1 rx q1 => hs W F1 ρ1 env S1 σ H1 x u Q rs1 rx q1⟩
theorem g_callT {T : String} {r : List V → Hp → VK → Prop} {f : BF} (hc : CallR X (.type T) r) (hs : CallS X.K ad r f) (hg : Gl X x) (hm : X.mg x = none) (hv : bootBuiltins x = some (.type T)) (ha : GA X ad W (e :: es) a)
    (hd : (x == ("__debug__" : Str)) = false := by decide) (hn : x ≠ "__name__" := by decide) (hst : starEach (e :: es) X.env = (false, eval e X.env) :: starEach es X.env := by rfl) (hpl : (backTo pos (starEach es X.env)).any (·.1) = false := by rfl) :
    GE X ad W (.Call (.Name x p) (e :: es) [] pos) (eCall f a) :=
  g_of (pe_callTy hc hg hm hv ha.run (hn := hn) (hdb := hd) (he := hst) (hpl := hpl)) fun F ρ env S σ H Q rs q => ⟨F, ρ, env, S, rs, Aft.bind q fun F1 ρ1 S1 x u H1 l1 rs1 rx q1 => hs W F1 ρ1 env S1 σ H1 x u Q rs1 rx q1⟩
end
end Fl
namespace Fl
open PySem PySem.Spec L2
open PyProof.Rows hiding St

section
variable (K : PySem.W.Frag) (ad : Ads)
/-- what is wanted behind a call -/
def AftC (F : Hp) (ρ : Rts) (r : Res Val) (Q : VK) (E : XK) : Prop :=
  match r with
  | .ok a S => ∀ F' ρ' b H', Le F ρ F' ρ' → RS0 K ad F' ρ' S H' → Rp K ad F' ρ' a b → Q b H'
  | .exc c fs S => ∀ F' ρ' H' cls d, Le F ρ F' ρ' → RS0 K ad F' ρ' S H' → RpX K ad F' ρ' c fs cls d H' → E cls d H'
  | .stuck => False
/-- THE PROMISE of a def that does what f does -/
def spOf (n : Nat) (f : BF) : Sp := fun vs H Q E => ∃ F ρ S xs, xs.length = n ∧ RS0 K ad F ρ S H ∧ Rps K ad F ρ xs vs ∧ AftC K ad F ρ (f xs S) Q E
end
/-- a def of the module, called by its name; the last dv.length parameters have defaults -/
structure DefAt (P : Program) (w : World) (K : PySem.W.Frag) (mg : Str → Option Value) (base : Heap) (ad : Ads) (k : Nat) (x : Str) (n : Nat) (dv : List Val) (f : BF) : Prop where
  ex : ∃ fa fd ps dvs ds, FnOk P w K mg base (L2.CX P w) k fa fd ps (spOf K ad n f) ∧ ps.length = n ∧ mg x = some (.ref fa) ∧ PySem.W.keepIn K (.ref fa) = true ∧ Binds K fd ps ds ∧ Vals dvs ds ∧ ∀ F ρ, Rps K ad F ρ dv dvs
/-- a method of a class -/
structure MetAt (P : Program) (w : World) (K : PySem.W.Frag) (mg : Str → Option Value) (base : Heap) (ad : Ads) (k : Nat) (c m : Str) (n : Nat) (dv : List Val) (f : BF) : Prop where
  ex : ∃ C fa fd ps dvs ds, ad (.inl c) = some C ∧ Cls K C ∧ Meth K C m fa ∧ FnOk P w K mg base (L2.CX P w) k fa fd ps (spOf K ad n f) ∧ ps.length = n ∧ Binds K fd ps ds ∧ Vals dvs ds ∧ ∀ F ρ, Rps K ad F ρ dv dvs
/-- a class that is made by its __init__ -/
structure MakAt (P : Program) (w : World) (K : PySem.W.Frag) (mg : Str → Option Value) (base : Heap) (ad : Ads) (k : Nat) (c : Str) (n : Nat) (dv : List Val) (f : BF) : Prop where
  ex : ∃ C fa fd ps dvs ds, ad (.inl c) = some C ∧ Mk K C fa ∧ mg c = some (.ref C) ∧ FnOk P w K mg base (L2.CX P w) k fa fd ps (spOf K ad n f) ∧ ps.length = n ∧ Binds K fd ps ds ∧ Vals dvs ds ∧ ∀ F ρ, Rps K ad F ρ dv dvs

section
variable {K : PySem.W.Frag} {ad : Ads} {F F' : Hp} {ρ ρ' : Rts} {S : Store} {H : Hp}
theorem Aft.call {W : WX} {env : Env} {σ : L2.St} {r : Res Val} {Q : VK} (re : RE K ad F ρ env σ) (h : Aft K ad (Rp K ad) W F ρ env σ r Q) : AftC K ad F ρ r Q (WE W σ) := by
  cases r with
  | ok a S => exact fun F' ρ' b H' l rs rp => h F' ρ' b H' l ⟨rs, re.mono l⟩ rp
  | exc c fs S => exact fun F' ρ' H' cls d l rs rx => h F' ρ' H' cls d l ⟨rs, re.mono l⟩ rx
  | stuck => exact h.elim
theorem sp_len {n : Nat} {f : BF} {vs H Q E} (h : spOf K ad n f vs H Q E) : vs.length = n := by
  obtain ⟨F, ρ, S, xs, h1, _, h2, _⟩ := h
  rw [← h2.length]; exact h1
end

/-! ### calls of own defs -/
def eDef (f : BF) (n : Nat) (dv : List Val) (a : AF) : EF := fun env S => (a env S).bind fun xs S1 => if (xs ++ dv).length = n then f (xs ++ dv) S1 else .stuck
def eMet (cs : List Str) (f : BF) (n : Nat) (dv : List Val) (m : Str) (o : EF) (a : AF) : EF := fun env S => (o env S).bind fun x S1 => match insOf S1 x with
  | some (c, fs) => if cs.contains c = true ∧ fs.lookup m = none then (a env S1).bind fun xs S2 => if (x :: (xs ++ dv)).length = n then f (x :: (xs ++ dv)) S2 else .stuck else .stuck
  | none => .stuck
section
variable {X : Cx} {k : Nat} {f C : Addr} {fd : FuncData} {ps : List Str} {sp : Sp} {dvs : List V} {ds : List Value} {E : L2.St → XK} {x m : Str} {p pos apos : Pos} {e o : Expr} {es : List Expr} {ta : TE} {t : TA} {CX : CXT}
def tMethS (C : Addr) (m : Str) (sp : Sp) (dvs : List V) (E : L2.St → XK) (ta : TE) (t : TA) : TE := fun σ H Q => ta σ H fun x H1 => ∃ a dx fs, x = .ref a ∧ H1 a = some (.ins C dx fs) ∧ fs.lookup m = none ∧
  t σ H1 fun vs H2 => sp (x :: (vs ++ dvs)) H2 Q (E σ)
theorem pe_methSD {pl : Sem Bool} (he : PE X o ta) (c : Cls X.K C) (hm : Meth X.K C m f) (F : FnOk X.prog X.w X.K X.mg X.base CX k f fd ps sp) (hr : Room k X.A) (hb : Binds X.K fd ps ds) (hd : Vals dvs ds) (hx : ∀ σ, PassesAt CX X σ (E σ)) (ha : PA X (e :: es) t)
    (hst : starEach (e :: es) X.env = (false, eval e X.env) :: starEach es X.env := by rfl) (hpl : (backTo pos (starEach es X.env)).any (·.1) = false := by rfl)
    (ht : eval (.Call (.Attribute o m apos) (e :: es) [] pos) X.env = (do
      let ov ← eval o X.env
      standAt apos.atName
      let (f, first) ← holding [ov] (getMethod ov m pl)
      callWith pos f first (backTo pos (starEach (e :: es) X.env)) (backToKw pos (keywordEach [] X.env))) := by rfl) :
    PE X (.Call (.Attribute o m apos) (e :: es) [] pos) (tMethS C m sp dvs E ta t) := by
  refine ⟨fun pins s σ H Q I h => ?_⟩
  refine PySem.W.methodCall_KW (pl := pl) (thn (he.run pins s σ H _ I h) fun u s1 ⟨x, H1, I1, rx, a, dx, fs, ex, ea, l, q⟩ => ?_) ht
  subst ex
  obtain rfl : u = Value.ref a := rx
  refine getmeth_ok I1 ea c hm l ?_
  refine PySem.W.callWith_K (first := [.ref a]) (h₀ := X.base) I.ok.mod.kin hm.kp (thn (ha.run pos pins s1 σ H1 _ I1 q) fun us s2 ⟨vs, H2, I2, r, q2⟩ => ⟨I2.kIn, ?_⟩) hst hpl
  exact run_fnSD (us := .ref a :: us) (vs := .ref a :: vs) F hr hb hd (hx σ) I2 (.cons rfl r) q2
theorem pe_methSD0 {pl : Sem Bool} (he : PE X o ta) (c : Cls X.K C) (hm : Meth X.K C m f) (F : FnOk X.prog X.w X.K X.mg X.base CX k f fd ps sp) (hr : Room k X.A) (hb : Binds X.K fd ps ds) (hd : Vals dvs ds) (hx : ∀ σ, PassesAt CX X σ (E σ))
    (ht : eval (.Call (.Attribute o m apos) [] [] pos) X.env = (do
      let ov ← eval o X.env
      standAt apos.atName
      let (f, first) ← holding [ov] (getMethod ov m pl)
      callWith pos f first (backTo pos (starEach [] X.env)) (backToKw pos (keywordEach [] X.env))) := by rfl) :
    PE X (.Call (.Attribute o m apos) [] [] pos) (tMethS C m sp dvs E ta tNil) := by
  refine ⟨fun pins s σ H Q I h => ?_⟩
  refine PySem.W.methodCall_KW (pl := pl) (thn (he.run pins s σ H _ I h) fun u s1 ⟨x, H1, I1, rx, a, dx, fs, ex, ea, l, q⟩ => ?_) ht
  subst ex
  obtain rfl : u = Value.ref a := rx
  refine getmeth_ok I1 ea c hm l ?_
  exact PySem.W.callWith_K0 (first := [.ref a]) I1.kIn hm.kp (run_fnSD (us := [.ref a]) (vs := [.ref a]) F hr hb hd (hx σ) I1 (.cons rfl .nil) q)
theorem pe_callSD0 (F : FnOk X.prog X.w X.K X.mg X.base CX k f fd ps sp) (hr : Room k X.A) (hg : Gl X x) (hm : X.mg x = some (.ref f)) (hk : PySem.W.keepIn X.K (.ref f) = true) (hb : Binds X.K fd ps ds) (hd : Vals dvs ds) (hx : ∀ σ, PassesAt CX X σ (E σ))
    (hdb : (x == ("__debug__" : Str)) = false := by decide) : PE X (.Call (.Name x p) [] [] pos) (tCallSD sp dvs E tNil) := by
  refine ⟨fun pins s σ H Q I h => ?_⟩
  refine wpAny_Call_Name_kw (ld_glob I hg hm ?_ hdb)
  exact PySem.W.callWith_K0 I.kIn hk (run_fnSD (us := []) F hr hb hd (hx σ) I .nil h)
/-- C(..) -/
def tMakeS (C : Addr) (sp : Sp) (dvs : List V) (E : L2.St → XK) (t : TA) : TE := fun σ H Q => t σ H fun vs H1 => ∀ x dx, H1 x = none → H1 dx = none → dx ≠ x →
  sp (.ref x :: (vs ++ dvs)) (upd (upd H1 dx (.own x)) x (.ins C dx [])) (fun v H2 => v = .non ∧ Q (.ref x) H2) (E σ)
theorem run_makeS {pins : List (Addr × Obj)} {σ : L2.St} {H : Hp} {s : Shared} {Q : VK} {us : List Value} {vs : List V} (M : Mk X.K C f) (F : FnOk X.prog X.w X.K X.mg X.base CX k f fd ps sp) (hr : Room (k + 1) X.A) (hb : Binds X.K fd ps ds) (hd : Vals dvs ds)
    (hx : PassesAt CX X σ (E σ)) (I : Inv X pins σ H s) (r : Vals vs us)
    (h : ∀ x dx, H x = none → H dx = none → dx ≠ x → sp (.ref x :: (vs ++ dvs)) (upd (upd H dx (.own x)) x (.ins C dx [])) (fun v H2 => v = .non ∧ Q (.ref x) H2) (E σ)) :
    wpAny (model X.prog X.w) X.A (call (.ref C) us) (EP X pins σ Q) X.xe s := by
  have hq := h (s.heap.objs.size + 1) s.heap.objs.size (I.hok.fresh (Nat.le_succ _)) (I.hok.fresh (Nat.le_refl _)) (Nat.ne_of_lt (Nat.lt_succ_self _))
  have I2 := Inv.made (C := C) I
  have r2 : Vals (V.ref (s.heap.objs.size + 1) :: (vs ++ dvs)) (Value.ref (s.heap.objs.size + 1) :: (us ++ ds)) := .cons rfl (r.append hd)
  have hl : (Value.ref (s.heap.objs.size + 1) :: us ++ ds).length = ps.length := by
    have e := r2.length
    rw [F.len _ _ _ _ hq] at e
    exact e.symm
  refine wpAny_call (make_map (f := f) I.kIn M.makes M.init (beq_iff_eq.mp M.fn) (codeAny_mono (F.run _ X.stack _ _ ⟨Value.ref (s.heap.objs.size + 1) :: us, []⟩ (Value.ref (s.heap.objs.size + 1) :: (us ++ ds)) _ _ (E σ) (hr.make C us [])
    (I2.env0.make C us []) (hb _ (Value.ref (s.heap.objs.size + 1) :: us) I2.kIn hl) r2 hq) fun r s' hq' => ?_))
  cases r with
  | error e => exact hx pins _ _ e s' I2 hq'
  | ok fl =>
    cases fl with
    | ret u =>
      obtain ⟨v, H', I3, rv, ev, q3⟩ := I2.after hq'
      subst ev
      exact ⟨rv, ⟨V.ref (s.heap.objs.size + 1), H', I3, rfl, q3⟩⟩
    | next => exact False.elim hq'
    | brk => exact False.elim hq'
    | cont => exact False.elim hq'
theorem pe_makeS (M : Mk X.K C f) (F : FnOk X.prog X.w X.K X.mg X.base CX k f fd ps sp) (hr : Room (k + 1) X.A) (hg : Gl X x) (hm : X.mg x = some (.ref C)) (hb : Binds X.K fd ps ds) (hd : Vals dvs ds) (hx : ∀ σ, PassesAt CX X σ (E σ))
    (ha : PA X (e :: es) t) (hdb : (x == ("__debug__" : Str)) = false := by decide) (he : starEach (e :: es) X.env = (false, eval e X.env) :: starEach es X.env := by rfl) (hpl : (backTo pos (starEach es X.env)).any (·.1) = false := by rfl) :
    PE X (.Call (.Name x p) (e :: es) [] pos) (tMakeS C sp dvs E t) := by
  refine ⟨fun pins s σ H Q I h => ?_⟩
  refine wpAny_Call_Name_kw (ld_glob I hg hm ?_ hdb)
  refine PySem.W.callWith_K (h₀ := X.base) I.ok.mod.kin M.kp (thn (ha.run pos pins s σ H _ I h) fun us s1 ⟨vs, H1, I1, r, q⟩ => ⟨I1.kIn, ?_⟩) he hpl
  exact run_makeS M F hr hb hd (hx σ) I1 r q
theorem pe_makeS0 (M : Mk X.K C f) (F : FnOk X.prog X.w X.K X.mg X.base CX k f fd ps sp) (hr : Room (k + 1) X.A) (hg : Gl X x) (hm : X.mg x = some (.ref C)) (hb : Binds X.K fd ps ds) (hd : Vals dvs ds) (hx : ∀ σ, PassesAt CX X σ (E σ))
    (hdb : (x == ("__debug__" : Str)) = false := by decide) : PE X (.Call (.Name x p) [] [] pos) (tMakeS C sp dvs E tNil) := by
  refine ⟨fun pins s σ H Q I h => ?_⟩
  refine wpAny_Call_Name_kw (ld_glob I hg hm ?_ hdb)
  exact PySem.W.callWith_K0 I.kIn M.kp (run_makeS (us := []) M F hr hb hd (hx σ) I .nil h)
end
section
variable {X : Cx} {ad : Ads} {W : WX} {k n : Nat} {x m : Str} {dv : List Val} {f : BF} {pos p apos : Pos} {e o : Expr} {es : List Expr} {a : AF} {fo : EF}
theorem sp_call {F ρ env S σ H} {xs : List Val} {us dvs : List V} {Q : VK} (rs : RS X.K ad F ρ env S σ H) (rx : Rps X.K ad F ρ xs us) (hd : ∀ F ρ, Rps X.K ad F ρ dv dvs)
    (q : Aft X.K ad (Rp X.K ad) W F ρ env σ (if (xs ++ dv).length = n then f (xs ++ dv) S else .stuck) Q) : spOf X.K ad n f (us ++ dvs) H Q (WE W σ) := by
  split at q
  · rename_i hl
    exact ⟨F, ρ, S, xs ++ dv, hl, rs.s, rx.append (hd F ρ), q.call rs.e⟩
  · exact q.elim
theorem g_def (D : DefAt X.prog X.w X.K X.mg X.base ad k x n dv f) (hr : Room k X.A) (tk : Takes X W) (hg : Gl X x) (ha : GA X ad W (e :: es) a) (hdb : (x == ("__debug__" : Str)) = false := by decide)
    (he : starEach (e :: es) X.env = (false, eval e X.env) :: starEach es X.env := by rfl) (hpl : (backTo pos (starEach es X.env)).any (·.1) = false := by rfl) : GE X ad W (.Call (.Name x p) (e :: es) [] pos) (eDef f n dv a) := by
  obtain ⟨fa, fd, ps, dvs, ds, hF, hn, hm, hk, hb, hv, hd⟩ := D.ex
  refine g_of (pe_callSD (E := WE W) hF hr hg hm hk hb hv (passAt tk) ha.run hdb he hpl) fun F ρ env S σ H Q rs q => ⟨F, ρ, env, S, rs, Aft.bind q fun F1 ρ1 S1 x u H1 l1 rs1 rx q1 => ?_⟩
  exact sp_call rs1 rx hd q1
theorem g_def0 (D : DefAt X.prog X.w X.K X.mg X.base ad k x n dv f) (hr : Room k X.A) (tk : Takes X W) (hg : Gl X x) (hdb : (x == ("__debug__" : Str)) = false := by decide) : GE X ad W (.Call (.Name x p) [] [] pos) (eDef f n dv aNil) := by
  obtain ⟨fa, fd, ps, dvs, ds, hF, hn, hm, hk, hb, hv, hd⟩ := D.ex
  refine g_of (pe_callSD0 (E := WE W) hF hr hg hm hk hb hv (passAt tk) hdb) fun F ρ env S σ H Q rs q => ?_
  exact sp_call (us := []) rs .nil hd q
theorem g_met {c : Str} {pl : Sem Bool} (D : MetAt X.prog X.w X.K X.mg X.base ad k c m n dv f) (hr : Room k X.A) (tk : Takes X W) (ho : GE X ad W o fo) (ha : GA X ad W (e :: es) a)
    (hst : starEach (e :: es) X.env = (false, eval e X.env) :: starEach es X.env := by rfl) (hpl : (backTo pos (starEach es X.env)).any (·.1) = false := by rfl)
    (ht : eval (.Call (.Attribute o m apos) (e :: es) [] pos) X.env = (do
      let ov ← eval o X.env
      standAt apos.atName
      let (f, first) ← holding [ov] (getMethod ov m pl)
      callWith pos f first (backTo pos (starEach (e :: es) X.env)) (backToKw pos (keywordEach [] X.env))) := by rfl) :
    GE X ad W (.Call (.Attribute o m apos) (e :: es) [] pos) (eMet [c] f n dv m fo a) := by
  obtain ⟨C, fa, fd, ps, dvs, ds, hC, hc, hm, hF, hn, hb, hv, hd⟩ := D.ex
  refine g_of (pe_methSD (E := WE W) (pl := pl) ho.run hc hm hF hr hb hv (passAt tk) ha.run hst hpl ht) fun F ρ env S σ H Q rs q => ⟨F, ρ, env, S, rs, Aft.bind q fun F1 ρ1 S1 y u H1 l1 rs1 rx q1 => ?_⟩
  cases e : insOf S1 y with
  | none => simp only [e] at q1; exact q1.elim
  | some cf =>
    obtain ⟨c', fs⟩ := cf
    simp only [e] at q1
    split at q1
    · rename_i hh
      obtain ⟨a', C', dx, vs, e1, h1, h2, r1⟩ := rs1.s.ins rx e
      have hcc : c' = c := by simpa using hh.1
      subst hcc
      rw [hC] at h1; cases h1
      refine ⟨a', dx, vs, e1, h2, r1.lookup_none hh.2, F1, ρ1, env, S1, rs1, Aft.bind q1 fun F2 ρ2 S2 z v H2 l2 rs2 rz q2 => ?_⟩
      exact sp_call (xs := y :: z) (us := u :: v) rs2 (.cons (rx.mono l2) rz) hd q2
    · exact q1.elim
theorem g_met0 {c : Str} {pl : Sem Bool} (D : MetAt X.prog X.w X.K X.mg X.base ad k c m n dv f) (hr : Room k X.A) (tk : Takes X W) (ho : GE X ad W o fo)
    (ht : eval (.Call (.Attribute o m apos) [] [] pos) X.env = (do
      let ov ← eval o X.env
      standAt apos.atName
      let (f, first) ← holding [ov] (getMethod ov m pl)
      callWith pos f first (backTo pos (starEach [] X.env)) (backToKw pos (keywordEach [] X.env))) := by rfl) :
    GE X ad W (.Call (.Attribute o m apos) [] [] pos) (eMet [c] f n dv m fo aNil) := by
  obtain ⟨C, fa, fd, ps, dvs, ds, hC, hc, hm, hF, hn, hb, hv, hd⟩ := D.ex
  refine g_of (pe_methSD0 (E := WE W) (pl := pl) ho.run hc hm hF hr hb hv (passAt tk) ht) fun F ρ env S σ H Q rs q => ⟨F, ρ, env, S, rs, Aft.bind q fun F1 ρ1 S1 y u H1 l1 rs1 rx q1 => ?_⟩
  cases e : insOf S1 y with
  | none => simp only [e] at q1; exact q1.elim
  | some cf =>
    obtain ⟨c', fs⟩ := cf
    simp only [e] at q1
    split at q1
    · rename_i hh
      obtain ⟨a', C', dx, vs, e1, h1, h2, r1⟩ := rs1.s.ins rx e
      have hcc : c' = c := by simpa using hh.1
      subst hcc
      rw [hC] at h1; cases h1
      exact ⟨a', dx, vs, e1, h2, r1.lookup_none hh.2, sp_call (xs := [y]) (us := [u]) rs1 (.cons rx .nil) hd q1⟩
    · exact q1.elim
end

/-! ### attributes -/
def eFld (f : Str) (o : EF) : EF := fun env S => (o env S).bind fun x S1 => match insOf S1 x with
  | some (_, fs) => match fs.lookup f with
    | some v => .ok v S1
    | none => .stuck
  | none => .stuck
section
variable {X : Cx} {ad : Ads} {W : WX} {f : Str} {pos : Pos} {o : Expr} {fo : EF}
theorem g_fld (hF : ∀ c C, ad (.inl c) = some C → Cls X.K C ∧ NoAttr X.K C f) (ho : GE X ad W o fo) (hb : attributeBase o f X.env (eval o X.env) = eval o X.env) : GE X ad W (.Attribute o f pos) (eFld f fo) := by
  refine g_of (pe_fld ho.run hb) fun F ρ env S σ H Q rs q => ⟨F, ρ, env, S, rs, Aft.bind q fun F1 ρ1 S1 y u H1 l1 rs1 rx q1 => ?_⟩
  cases e : insOf S1 y with
  | none => simp only [e] at q1; exact q1.elim
  | some cf =>
    obtain ⟨c', fs⟩ := cf
    simp only [e] at q1
    cases e2 : fs.lookup f with
    | none => simp only [e2] at q1; exact q1.elim
    | some v =>
      simp only [e2] at q1
      obtain ⟨a', C', dx, vs, e1, h1, h2, r1⟩ := rs1.s.ins rx e
      obtain ⟨w, e3, r3⟩ := r1.lookup e2
      exact ⟨a', C', dx, vs, w, e1, h2, (hF _ _ h1).1, (hF _ _ h1).2, e3, q1.pure rs1 r3⟩
end

/-! ### new instances -/
/-- a cell becomes a value that stays -/
def frzV (v : Val) (S : Store) : Res Val := match v with
  | .ref i => match S[i]? with
    | some (true, .lst xs) => .ok (.lst xs) (S.set i (false, .lst xs))
    | some (true, .ins c fs) => .ok (.obj c fs) (S.set i (false, .ins c fs))
    | _ => .stuck
  | v => .ok v S
def eFrz (f : EF) : EF := fun env S => (f env S).bind frzV
/-- keep: a cell that stays one -/
def eMak (c : Str) (keep : Bool) (f : BF) (n : Nat) (dv : List Val) (a : AF) : EF := fun env S => (a env S).bind fun xs S1 =>
  if (Val.ref S1.length :: (xs ++ dv)).length = n then
    match f (.ref S1.length :: (xs ++ dv)) (S1 ++ [(true, .ins c [])]) with
    | .ok .non S2 => if keep then .ok (.ref S1.length) S2 else frzV (.ref S1.length) S2
    | .exc c fs S2 => .exc c fs S2
    | _ => .stuck
  else .stuck
section
variable {K : PySem.W.Frag} {ad : Ads} {W : WX} {F F' : Hp} {ρ ρ' : Rts} {env : Env} {σ : L2.St} {S : Store} {H : Hp}
theorem Aft.frz {x : Val} {u : V} {Q : VK} (h : Aft K ad (Rp K ad) W F ρ env σ (frzV x S) Q) (rs : RS K ad F ρ env S σ H) (r : Rp K ad F ρ x u) : Q u H := by
  unfold frzV at h
  split at h
  · cases r with
    | ref hr =>
      split at h
      · rename_i xs hs
        obtain ⟨a, o, e1, ⟨vs, e3, e4⟩, rs', l⟩ := rs.frz hs
        rw [hr] at e1; cases e1
        subst e3
        exact h _ ρ _ H l rs' (.lst upd_same (e4.mono l))
      · rename_i c fs hs
        obtain ⟨a, o, e1, ⟨C, dx, vs, e3, ec, e4⟩, rs', l⟩ := rs.frz hs
        rw [hr] at e1; cases e1
        subst e3
        exact h _ ρ _ H l rs' (.obj ec upd_same (e4.mono l))
      · exact h.elim
  · exact h.pure rs r
end
section
variable {X : Cx} {ad : Ads} {W : WX} {k n : Nat} {x c : Str} {dv : List Val} {f : BF} {pos p apos : Pos} {e o : Expr} {es : List Expr} {a : AF} {fo : EF}
theorem g_frz {e : Expr} {f : EF} (h : GE X ad W e f) : GE X ad W e (eFrz f) :=
  g_of h.run fun F ρ env S σ H Q rs q => ⟨F, ρ, env, S, rs, Aft.bind q fun F1 ρ1 S1 y u H1 l1 rs1 rx q1 => q1.frz rs1 rx⟩
theorem sp_mak {keep : Bool} {F ρ env S σ H} {xs : List Val} {us dvs : List V} {C : Addr} {Q : VK} (hC : ad (.inl c) = some C) (rs : RS X.K ad F ρ env S σ H) (rx : Rps X.K ad F ρ xs us) (hd : ∀ F ρ, Rps X.K ad F ρ dv dvs)
    (q : Aft X.K ad (Rp X.K ad) W F ρ env σ (if (Val.ref S.length :: (xs ++ dv)).length = n then
    match f (.ref S.length :: (xs ++ dv)) (S ++ [(true, .ins c [])]) with
    | .ok .non S2 => if keep then .ok (.ref S.length) S2 else frzV (.ref S.length) S2
    | .exc c fs S2 => .exc c fs S2
    | _ => .stuck
  else .stuck) Q) : ∀ x dx, H x = none → H dx = none → dx ≠ x → spOf X.K ad n f (.ref x :: (us ++ dvs)) (upd (upd H dx (.own x)) x (.ins C dx [])) (fun v H2 => v = .non ∧ Q (.ref x) H2) (WE W σ) := by
  intro x dx hx hdx hne
  split at q
  · rename_i hl
    obtain ⟨rs1, l1⟩ := rs.lay (o := .own x) hdx
    have hx1 : upd H dx (.own x) x = none := by rw [upd_ne (Ne.symm hne)]; exact hx
    obtain ⟨rs2, l2⟩ := rs1.cell (c := .ins c []) (o := .ins C dx []) hx1 ⟨C, dx, [], rfl, hC, .nil⟩
    have hr : (ρ.add x).l[S.length]? = some x := by rw [← rs.s.len]; simp [Rts.add]
    refine ⟨_, _, _, .ref S.length :: (xs ++ dv), hl, rs2.s, .cons (.ref hr) ((rx.mono (l1.trans l2)).append (hd _ _)), ?_⟩
    cases hf : f (.ref S.length :: (xs ++ dv)) (S ++ [(true, .ins c [])]) with
    | stuck => rw [hf] at q; exact q.elim
    | exc c' fs S2 =>
      rw [hf] at q
      intro F' ρ' H' cls d l rs' rx'
      exact q F' ρ' H' cls d ((l1.trans l2).trans l) ⟨rs', rs2.e.mono l⟩ rx'
    | ok v S2 =>
      rw [hf] at q
      intro F' ρ' b H' l rs' rv
      cases v <;> first | exact q.elim | skip
      cases rv
      refine ⟨rfl, ?_⟩
      have RSn : RS X.K ad F' ρ' env S2 σ H' := ⟨rs', rs2.e.mono l⟩
      have q' := Aft.later ((l1.trans l2).trans l) q
      dsimp only at q'
      split at q'
      · exact q'.pure RSn (.ref (l.r _ _ hr))
      · exact q'.frz RSn (.ref (l.r _ _ hr))
  · exact q.elim
theorem g_mak (keep : Bool) (D : MakAt X.prog X.w X.K X.mg X.base ad k c n dv f) (hr : Room (k + 1) X.A) (tk : Takes X W) (hg : Gl X c) (ha : GA X ad W (e :: es) a) (hdb : (c == ("__debug__" : Str)) = false := by decide)
    (he : starEach (e :: es) X.env = (false, eval e X.env) :: starEach es X.env := by rfl) (hpl : (backTo pos (starEach es X.env)).any (·.1) = false := by rfl) : GE X ad W (.Call (.Name c p) (e :: es) [] pos) (eMak c keep f n dv a) := by
  obtain ⟨C, fa, fd, ps, dvs, ds, hC, hM, hm, hF, hn, hb, hv, hd⟩ := D.ex
  refine g_of (pe_makeS (E := WE W) hM hF hr hg hm hb hv (passAt tk) ha.run hdb he hpl) fun F ρ env S σ H Q rs q => ⟨F, ρ, env, S, rs, Aft.bind q fun F1 ρ1 S1 x u H1 l1 rs1 rx q1 => ?_⟩
  exact sp_mak hC rs1 rx hd q1
theorem g_mak0 (keep : Bool) (D : MakAt X.prog X.w X.K X.mg X.base ad k c n dv f) (hr : Room (k + 1) X.A) (tk : Takes X W) (hg : Gl X c) (hdb : (c == ("__debug__" : Str)) = false := by decide) : GE X ad W (.Call (.Name c p) [] [] pos) (eMak c keep f n dv aNil) := by
  obtain ⟨C, fa, fd, ps, dvs, ds, hC, hM, hm, hF, hn, hb, hv, hd⟩ := D.ex
  refine g_of (pe_makeS0 (E := WE W) hM hF hr hg hm hb hv (passAt tk) hdb) fun F ρ env S σ H Q rs q => ?_
  exact sp_mak (us := []) hC rs .nil hd q
end
end Fl
namespace Fl
open PySem PySem.Spec L2
open PyProof.Rows hiding St

inductive ResS where
  | nx (env : Env) (S : Store) | brk (env : Env) (S : Store) | cnt (env : Env) (S : Store) | ret (v : Val) (S : Store)
  | exc (c : Str) (fs : List (Str × Val)) (env : Env) (S : Store) | stuck
abbrev SF := Env → Store → ResS
section
variable (K : PySem.W.Frag) (ad : Ads)
def AftS (W : WX) (F : Hp) (ρ : Rts) (r : ResS) (D : Ends) : Prop :=
  match r with
  | .nx env S => ∀ F' ρ' σ' H', Le F ρ F' ρ' → RS K ad F' ρ' env S σ' H' → D.nx σ' H'
  | .brk env S => ∀ F' ρ' σ' H', Le F ρ F' ρ' → RS K ad F' ρ' env S σ' H' → D.bk σ' H'
  | .cnt env S => ∀ F' ρ' σ' H', Le F ρ F' ρ' → RS K ad F' ρ' env S σ' H' → D.ct σ' H'
  | .ret v S => ∀ F' ρ' u H', Le F ρ F' ρ' → RS0 K ad F' ρ' S H' → Rp K ad F' ρ' v u → D.rt u H'
  | .exc c fs env S => ∀ F' ρ' σ' H' cls d, Le F ρ F' ρ' → RS K ad F' ρ' env S σ' H' → RpX K ad F' ρ' c fs cls d H' → W cls d σ' H'
  | .stuck => False
def tS (W : WX) (f : SF) : TS := fun D σ H => ∃ F ρ env S, RS K ad F ρ env S σ H ∧ AftS K ad W F ρ (f env S) D
end
structure GS (X : Cx) (ad : Ads) (W : WX) (st : Stmt) (f : SF) : Prop where
  run : PS X st (tS X.K ad W f)
structure GSs (X : Cx) (ad : Ads) (W : WX) (st : List Stmt) (f : SF) : Prop where
  run : PSs X st (tS X.K ad W f)
theorem _root_.L2.PS.imp {X : Cx} {e : Stmt} {t t' : TS} (h : PS X e t) (i : ∀ D σ H, t' D σ H → t D σ H) : PS X e t' := ⟨fun p s σ H Q I q => h.run p s σ H Q I (i Q σ H q)⟩
theorem _root_.L2.PSs.imp {X : Cx} {e : List Stmt} {t t' : TS} (h : PSs X e t) (i : ∀ D σ H, t' D σ H → t D σ H) : PSs X e t' := ⟨fun p s σ H Q I q => h.run p s σ H Q I (i Q σ H q)⟩
/-- an expression's end in a statement -/
@[reducible] def Res.go {α : Type} (r : Res α) (env : Env) (k : α → Store → ResS) : ResS := match r with
  | .ok a S => k a S
  | .exc c fs S => .exc c fs env S
  | .stuck => .stuck
/-- what follows a statement -/
@[reducible] def ResS.seq (r : ResS) (k : SF) : ResS := match r with
  | .nx env S => k env S
  | r => r
section
variable {K : PySem.W.Frag} {ad : Ads} {W : WX} {F F' : Hp} {ρ ρ' : Rts} {env : Env} {σ : L2.St} {S : Store} {H : Hp} {D : Ends}
theorem AftS.later {r : ResS} (l : Le F ρ F' ρ') (h : AftS K ad W F ρ r D) : AftS K ad W F' ρ' r D := by
  cases r with
  | nx env S => exact fun F2 ρ2 b H2 l2 => h F2 ρ2 b H2 (l.trans l2)
  | brk env S => exact fun F2 ρ2 b H2 l2 => h F2 ρ2 b H2 (l.trans l2)
  | cnt env S => exact fun F2 ρ2 b H2 l2 => h F2 ρ2 b H2 (l.trans l2)
  | ret v S => exact fun F2 ρ2 b H2 l2 => h F2 ρ2 b H2 (l.trans l2)
  | exc c fs env S => exact fun F2 ρ2 b H2 c d l2 => h F2 ρ2 b H2 c d (l.trans l2)
  | stuck => exact h.elim
theorem AftS.go {α β : Type} {R : Hp → Rts → α → β → Prop} {r : Res α} {g : α → Store → ResS} {k : β → Hp → Prop} (h : AftS K ad W F ρ (r.go env g) D)
    (hk : ∀ F' ρ' S' a b H', Le F ρ F' ρ' → RS K ad F' ρ' env S' σ H' → R F' ρ' a b → AftS K ad W F' ρ' (g a S') D → k b H') : Aft K ad R W F ρ env σ r k := by
  cases r with
  | ok a S => exact fun F' ρ' b H' l rs ra => hk F' ρ' S a b H' l rs ra (AftS.later l h)
  | exc c fs S => exact fun F' ρ' H' cls d l rs rx => h F' ρ' σ H' cls d l rs rx
  | stuck => exact h.elim
theorem RE.set {i : Nat} {x : Val} {u : V} (r : RE K ad F ρ env σ) (h : Rp K ad F ρ x u) : RE K ad F ρ (env.set i (some x)) (σ.set i (some u)) := by
  refine ⟨by rw [List.length_set, List.length_set]; exact r.len, fun j v e => ?_, fun j a dx fs e1 e2 => ?_⟩
  rotate_left
  · by_cases hj : j = i
    · subst hj
      by_cases hl : j < env.length
      · rw [List.getElem?_set_self hl] at e2
        cases e2
      · rw [List.getElem?_eq_none (by simpa using hl)] at e2; cases e2
    · rw [List.getElem?_set_ne (Ne.symm hj)] at e2 ⊢
      exact r.hold j a dx fs e1 e2
  by_cases hj : j = i
  · subst hj
    by_cases hl : j < env.length
    · rw [List.getElem?_set_self hl] at e
      cases e
      exact ⟨u, by rw [List.getElem?_set_self (by rw [← r.len]; exact hl)], h⟩
    · rw [List.getElem?_eq_none (by simpa using hl)] at e; cases e
  · rw [List.getElem?_set_ne (Ne.symm hj)] at e
    obtain ⟨v', h1, h2⟩ := r.at_ j v e
    exact ⟨v', by rw [List.getElem?_set_ne (Ne.symm hj)]; exact h1, h2⟩
theorem RE.unset {i : Nat} (nh : ad.hold = none) (r : RE K ad F ρ env σ) : RE K ad F ρ (env.set i none) (σ.set i none) := by
  refine ⟨by rw [List.length_set, List.length_set]; exact r.len, fun j v e => ?_, fun j a dx fs e1 => by rw [nh] at e1; cases e1⟩
  by_cases hj : j = i
  · subst hj
    by_cases hl : j < env.length
    · rw [List.getElem?_set_self hl] at e; cases e
    · rw [List.getElem?_eq_none (by simpa using hl)] at e; cases e
  · rw [List.getElem?_set_ne (Ne.symm hj)] at e
    obtain ⟨v', h1, h2⟩ := r.at_ j v e
    exact ⟨v', by rw [List.getElem?_set_ne (Ne.symm hj)]; exact h1, h2⟩
theorem RS.set {i : Nat} {x : Val} {u : V} (r : RS K ad F ρ env S σ H) (h : Rp K ad F ρ x u) : RS K ad F ρ (env.set i (some x)) S (σ.set i (some u)) H := ⟨r.s, r.e.set h⟩
end

/-! ### plain statements -/
def sNx : SF := fun env S => .nx env S
def sSeq (f g : SF) : SF := fun env S => (f env S).seq g
def sExp (f : EF) : SF := fun env S => (f env S).go env fun _ S1 => .nx env S1
def sRet (f : EF) : SF := fun env S => (f env S).go env fun x S1 => .ret x S1
def sRetN : SF := fun _ S => .ret .non S
def sIf (t : Env → Store → Res Bool) (f g : SF) : SF := fun env S => (t env S).go env fun b S1 => if b then f env S1 else g env S1
def sSet (i : Nat) (f : EF) : SF := fun env S => (f env S).go env fun x S1 => .nx (env.set i (some x)) S1
def sBrk : SF := fun env S => .brk env S
def sCnt : SF := fun env S => .cnt env S
section
variable {X : Cx} {ad : Ads} {W : WX} {pos pos' : Pos} {st : Stmt} {rest : List Stmt}
theorem gs_of {f : SF} {t : TS} (h : PS X st t) (i : ∀ F ρ env S σ H D, RS X.K ad F ρ env S σ H → AftS X.K ad W F ρ (f env S) D → t D σ H) : GS X ad W st f :=
  ⟨h.imp fun D σ H ⟨F, ρ, env, S, rs, q⟩ => i F ρ env S σ H D rs q⟩
theorem gss_nil : GSs X ad W [] sNx := ⟨pss_nil.imp fun D σ H ⟨F, ρ, env, S, rs, q⟩ => q F ρ σ H .refl rs⟩
theorem gss_one {f : SF} (h : GS X ad W st f) : GSs X ad W [st] f := ⟨pss_one h.run⟩
theorem gss_cons {f g : SF} (h : GS X ad W st f) (h2 : GSs X ad W rest g) : GSs X ad W (st :: rest) (sSeq f g) := by
  refine ⟨(pss_cons h.run h2.run).imp fun D σ H ⟨F, ρ, env, S, rs, q⟩ => ⟨F, ρ, env, S, rs, ?_⟩⟩
  unfold sSeq at q
  cases e : f env S with
  | nx env1 S1 =>
    rw [e] at q
    exact fun F' ρ' σ' H' l rs' => ⟨F', ρ', env1, S1, rs', AftS.later l q⟩
  | brk env1 S1 => rw [e] at q; exact q
  | cnt env1 S1 => rw [e] at q; exact q
  | ret v S1 => rw [e] at q; exact q
  | exc c fs env1 S1 => rw [e] at q; exact q
  | stuck => rw [e] at q; exact q.elim
theorem gs_pass : GS X ad W (.Pass pos) sNx := gs_of ps_pass fun F ρ env S σ H D rs q => q F ρ σ H .refl rs
theorem gs_doc {x j} : GS X ad W (.Expr (.Constant (.str x) j pos) pos') sNx := gs_of ps_doc fun F ρ env S σ H D rs q => q F ρ σ H .refl rs
theorem gs_brk : GS X ad W (.Break pos) sBrk := gs_of ps_break fun F ρ env S σ H D rs q => q F ρ σ H .refl rs
theorem gs_cnt : GS X ad W (.Continue pos) sCnt := gs_of ps_continue fun F ρ env S σ H D rs q => q F ρ σ H .refl rs
theorem gs_exp {e : Expr} {f : EF} (h : GE X ad W e f) (hs : swapsWith e none pos.line X.env = pure false := by rfl) : GS X ad W (.Expr e pos) (sExp f) :=
  gs_of (ps_expr h.run hs) fun F ρ env S σ H D rs q => ⟨F, ρ, env, S, rs, AftS.go q fun F1 ρ1 S1 x u H1 l1 rs1 rx q1 => q1 F1 ρ1 σ H1 .refl rs1⟩
theorem gs_ret {e : Expr} {f : EF} (h : GE X ad W e f) : GS X ad W (.Return (some e) pos) (sRet f) :=
  gs_of (ps_ret h.run) fun F ρ env S σ H D rs q => ⟨F, ρ, env, S, rs, AftS.go q fun F1 ρ1 S1 x u H1 l1 rs1 rx q1 => q1 F1 ρ1 u H1 .refl rs1.s rx⟩
theorem gs_retN : GS X ad W (.Return none pos) sRetN := gs_of ps_retN fun F ρ env S σ H D rs q => q F ρ _ H .refl rs.s .non
theorem gs_if {c : Expr} {a b : List Stmt} {t} {f g : SF} (hc : GT X ad W c t) (h : GSs X ad W a f) (h2 : GSs X ad W b g) : GS X ad W (.If c a b pos) (sIf t f g) := by
  refine gs_of (ps_if hc.run h.run h2.run) fun F ρ env S σ H D rs q => ⟨F, ρ, env, S, rs, AftS.go (R := RB) q fun F1 ρ1 S1 x u H1 l1 rs1 rx q1 => ?_⟩
  cases rx
  cases x with
  | true => exact ⟨F1, ρ1, env, S1, rs1, q1⟩
  | false => exact ⟨F1, ρ1, env, S1, rs1, q1⟩
theorem gs_set {i : Nat} {x : Str} {e : Expr} {f : EF} (hN : X.N.Nodup) (hi : X.N[i]? = some x) (hx : Loc X.env.scope x) (h : GE X ad W e f) (hs : swapsWith e (some (.Name x pos')) pos.line X.env = pure false := by rfl)
    (hf : X.fn x = true ∨ X.env.scope.names.lookup x = some .local := by first | exact .inl rfl | exact .inr rfl | assumption) : GS X ad W (.Assign [.Name x pos'] e pos) (sSet i f) :=
  gs_of (ps_set hN hi hx h.run hs hf) fun F ρ env S σ H D rs q => ⟨F, ρ, env, S, rs, AftS.go q fun F1 ρ1 S1 x u H1 l1 rs1 rx q1 => q1 F1 ρ1 _ H1 .refl (rs1.set rx)⟩
end

/-! ### targets -/
def wipeE (env : Env) : List Nat → Env
  | [] => env
  | v :: vs => (wipeE env vs).set v none
abbrev TF := Val → Env → Store → Res Env
section
variable (K : PySem.W.Frag) (ad : Ads)
/-- a target; only slots in vs change -/
def AftT (vs : List Nat) (W : WX) (F : Hp) (ρ : Rts) (env : Env) (σ : L2.St) (r : Res Env) (Q : L2.St → Hp → Prop) : Prop :=
  match r with
  | .ok env' S => ∀ F' ρ' σ' H', Le F ρ F' ρ' → RS K ad F' ρ' env' S σ' H' → wipe σ' vs = wipe σ vs → Q σ' H'
  | .exc c fs S => ∀ F' ρ' H' cls d, Le F ρ F' ρ' → RS K ad F' ρ' env S σ H' → RpX K ad F' ρ' c fs cls d H' → W cls d σ H'
  | .stuck => False
def tT (vs : List Nat) (W : WX) (g : TF) : TG := fun u σ H Q => ∃ F ρ env S x, RS K ad F ρ env S σ H ∧ Rp K ad F ρ x u ∧ AftT K ad vs W F ρ env σ (g x env S) Q
/-- several: what was stored ahead stays when a later one raises: none does -/
def tTs (vs : List Nat) (g : List Val → Env → Store → Option Env) : TGs := fun us σ H Q => ∃ F ρ env S xs, RS K ad F ρ env S σ H ∧ Rps K ad F ρ xs us ∧
  ∃ env', g xs env S = some env' ∧ ∀ σ', RS K ad F ρ env' S σ' H → wipe σ' vs = wipe σ vs → Q σ' H
end
structure GG (X : Cx) (ad : Ads) (vs : List Nat) (W : WX) (tg : Expr) (g : TF) : Prop where
  run : PG X tg (tT X.K ad vs W g)
structure GGs (X : Cx) (ad : Ads) (vs : List Nat) (tg : List Expr) (g : List Val → Env → Store → Option Env) : Prop where
  run : PGs X tg (tTs X.K ad vs g)
theorem _root_.L2.PG.imp {X : Cx} {e : Expr} {t t' : TG} (h : PG X e t) (i : ∀ v σ H Q, t' v σ H Q → t v σ H Q) : PG X e t' := ⟨fun p s σ H v u Q I r q => h.run p s σ H v u Q I r (i v σ H Q q)⟩
theorem _root_.L2.PGs.imp {X : Cx} {e : List Expr} {t t' : TGs} (h : PGs X e t) (i : ∀ v σ H Q, t' v σ H Q → t v σ H Q) : PGs X e t' := ⟨fun p s σ H v u Q I r q => h.run p s σ H v u Q I r (i v σ H Q q)⟩
theorem wipe_set {σ : L2.St} {i : Nat} {u : Option V} : ∀ {vs : List Nat}, i ∈ vs → wipe (σ.set i u) vs = wipe σ vs
  | [], h => nomatch h
  | v :: vs, h => by
    unfold wipe
    by_cases hi : i ∈ vs
    · rw [wipe_set hi]
    · have hv : i = v := by simpa [hi] using h
      subst hv
      clear h
      have : ∀ {ws : List Nat}, i ∉ ws → wipe (σ.set i u) ws = (wipe σ ws).set i u := by
        intro ws
        induction ws with
        | nil => intro _; rfl
        | cons w ws ih =>
          intro hw
          unfold wipe
          rw [ih (fun z => hw (List.mem_cons_of_mem _ z)), List.set_comm _ _ (fun z => hw (by rw [z]; exact List.mem_cons_self))]
      rw [this hi, List.set_set]
def tgName (i : Nat) : TF := fun x env S => .ok (env.set i (some x)) S
def tgsNil : List Val → Env → Store → Option Env := fun xs env _ => match xs with
  | [] => some env
  | _ => none
def tgsCons (i : Nat) (g : List Val → Env → Store → Option Env) : List Val → Env → Store → Option Env := fun xs env S => match xs with
  | x :: r => g r (env.set i (some x)) S
  | _ => none
def tgTup (n : Nat) (g : List Val → Env → Store → Option Env) : TF := fun x env S => match seqOf S x with
  | some xs => if xs.length = n then (match g xs env S with
    | some env' => .ok env' S
    | none => .stuck) else .stuck
  | none => .stuck
section
variable {X : Cx} {ad : Ads} {W : WX} {vs : List Nat} {pos pos' : Pos}
theorem gg_name {i : Nat} {x : Str} (hN : X.N.Nodup) (hi : X.N[i]? = some x) (hx : Loc X.env.scope x) (hv : i ∈ vs) (hf : X.fn x = true ∨ X.env.scope.names.lookup x = some .local := by first | exact .inl rfl | exact .inr rfl | assumption) : GG X ad vs W (.Name x pos) (tgName i) :=
  ⟨(pg_name hN hi hx hf).imp fun u σ H Q ⟨F, ρ, env, S, x, rs, rx, q⟩ => q F ρ _ H .refl (rs.set rx) (wipe_set hv)⟩
theorem ggs_nil : GGs X ad vs [] tgsNil := ⟨pgs_nil.imp fun us σ H Q ⟨F, ρ, env, S, xs, rs, rx, env', e, q⟩ => by
  cases rx with
  | nil =>
    simp only [tgsNil] at e
    cases e
    exact ⟨rfl, q σ rs rfl⟩
  | cons a b => simp only [tgsNil] at e; cases e⟩
theorem ggs_cons {i : Nat} {x : Str} {es : List Expr} {g} (hN : X.N.Nodup) (hi : X.N[i]? = some x) (hx : Loc X.env.scope x) (hv : i ∈ vs) (h2 : GGs X ad vs es g) (hf : X.fn x = true ∨ X.env.scope.names.lookup x = some .local := by first | exact .inl rfl | exact .inr rfl | assumption)
    (hs : (assignEach (.Name x pos :: es) X.env).map (·.2) = assign (.Name x pos) X.env :: (assignEach es X.env).map (·.2) := by rfl) : GGs X ad vs (.Name x pos :: es) (tgsCons i g) :=
  ⟨(pgs_cons (pg_name hN hi hx hf) h2.run hs).imp fun us σ H Q ⟨F, ρ, env, S, xs, rs, rx, env', e, q⟩ => by
    cases rx with
    | nil => simp only [tgsCons] at e; cases e
    | cons a b =>
      simp only [tgsCons] at e
      exact ⟨_, _, rfl, F, ρ, _, S, _, rs.set a, b, env', e, fun σ' rs' hw => q σ' rs' (hw.trans (wipe_set hv))⟩⟩
theorem PG.or {e : Expr} {t u : TG} (h : PG X e t) (h2 : PG X e u) : PG X e (fun v σ H Q => t v σ H Q ∨ u v σ H Q) := ⟨fun p s σ H v w Q I r q => q.elim (h.run p s σ H v w Q I r) (h2.run p s σ H v w Q I r)⟩
theorem gg_tup {es : List Expr} {k n : Nat} {g} (hc : X.calm = true) (h : GGs X ad vs es g) (hn : (assignEach es X.env).length = n := by rfl) (hst : (assignEach es X.env).findIdx? (·.1) = none := by rfl) : GG X ad vs W (.Tuple es k pos) (tgTup n g) := by
  refine ⟨(PG.or (pg_tup hc h.run hn hst) (pg_lst hc h.run hn hst)).imp fun u σ H Q ⟨F, ρ, env, S, x, rs, rx, q⟩ => ?_⟩
  unfold tgTup at q
  split at q
  · rename_i xs e
    split at q
    · rename_i hl
      split at q
      · rename_i env' e2
        obtain ⟨a, ws, e1, h1, r1⟩ := rs.s.seq rx e
        have fin : tTs X.K ad vs g ws σ H Q := ⟨F, ρ, env, S, xs, rs, r1, env', e2, fun σ' rs' hw => q F ρ σ' H .refl rs' hw⟩
        rcases h1 with h1 | h1
        · exact .inr ⟨a, ws, e1, h1, by rw [← r1.length]; exact hl, fin⟩
        · exact .inl ⟨a, ws, e1, h1, by rw [← r1.length]; exact hl, fin⟩
      · exact q.elim
    · exact q.elim
  · exact q.elim
/-- xs[i] = v, xs a cell -/
def tgIx (fo fi : EF) : TF := fun v env S => (fo env S).bind fun x S1 => (fi env S1).bind fun y S2 => match x, y with
  | .ref i, .int k => match S2[i]? with
    | some (true, .lst xs) => match ixN xs.length k with
      | some j => .ok env (S2.set i (true, .lst (xs.set j v)))
      | none => .stuck
    | _ => .stuck
  | _, _ => .stuck
theorem AftT.bind {α β : Type} {R : Hp → Rts → α → β → Prop} {F ρ env σ} {r : Res α} {g : α → Store → Res Env} {Q : L2.St → Hp → Prop} {k : β → Hp → Prop} (h : AftT X.K ad vs W F ρ env σ (r.bind g) Q)
    (hk : ∀ F' ρ' S' a b H', Le F ρ F' ρ' → RS X.K ad F' ρ' env S' σ H' → R F' ρ' a b → AftT X.K ad vs W F' ρ' env σ (g a S') Q → k b H') : Aft X.K ad R W F ρ env σ r k := by
  cases r with
  | ok a S =>
    refine fun F' ρ' b H' l rs ra => hk F' ρ' S a b H' l rs ra ?_
    have h' : AftT X.K ad vs W F ρ env σ (g a S) Q := h
    cases e : g a S with
    | ok env' S2 => rw [e] at h'; exact fun F2 ρ2 σ2 H2 l2 => h' F2 ρ2 σ2 H2 (l.trans l2)
    | exc c fs S2 => rw [e] at h'; exact fun F2 ρ2 H2 cls d l2 => h' F2 ρ2 H2 cls d (l.trans l2)
    | stuck => rw [e] at h'; exact h'.elim
  | exc c fs S => exact h
  | stuck => exact h.elim
theorem gg_ix {o i : Expr} {fo fi : EF} (ho : GE X ad W o fo) (hi : GE X ad W i fi)
    (ha : ∀ v, assign (.Subscript o i pos) X.env v = (do
      let ov ← holding [v] (eval o X.env)
      let iv ← holding [v, ov] (eval i X.env)
      standAt pos
      holding [v, ov, iv] (setItem ov iv v)
      release [v, ov, iv] []) := by intro _; rfl) : GG X ad vs W (.Subscript o i pos) (tgIx fo fi) := by
  refine ⟨(pg_sub ho.run hi.run set_list ha).imp fun u σ H Q ⟨F, ρ, env, S, v, rs, rv, q⟩ => ⟨F, ρ, env, S, rs, AftT.bind q fun F1 ρ1 S1 x w H1 l1 rs1 rx q1 => ?_⟩⟩
  refine ⟨F1, ρ1, env, S1, rs1, AftT.bind q1 fun F2 ρ2 S2 y z H2 l2 rs2 ry q2 => ?_⟩
  have rv2 := rv.mono (l1.trans l2)
  have rx2 := rx.mono l2
  cases ry <;> cases rx2 <;> first | exact q2.elim | skip
  rename_i k i a0 hr
  dsimp only at q2
  split at q2
  · rename_i xs hs
    split at q2
    · rename_i j hj
      obtain ⟨a, o', e1, ⟨us, e2, r2⟩, e3, _⟩ := rs2.s.cel _ _ _ hs
      subst e2
      rw [hr] at e1; cases e1
      refine ⟨_, us, _, j, rfl, rfl, (e3 rfl).1, by rw [← r2.length]; exact hj, ?_⟩
      exact q2 F2 ρ2 σ _ .refl (rs2.put hs hr ⟨_, rfl, r2.set rv2 j⟩) rfl
    · exact q2.elim
  · exact q2.elim
def sAsg (f : EF) (g : TF) : SF := fun env S => (f env S).go env fun x S1 => (g x env S1).go env fun env' S2 => .nx env' S2
theorem gs_asg {tg e : Expr} {f : EF} {g : TF} (he : GE X ad W e f) (hg : GG X ad vs W tg g) (hs : swapsWithSole [tg] e pos.line X.env = pure false := by rfl) (hw : swappedStores [tg] e X.env = pure none := by rfl)
    (h1 : (assignEach [tg] X.env).map (·.2) = [assign tg X.env] := by rfl) : GS X ad W (.Assign [tg] e pos) (sAsg f g) := by
  refine gs_of (ps_asg he.run hg.run hs hw h1) fun F ρ env S σ H D rs q => ⟨F, ρ, env, S, rs, AftS.go q fun F1 ρ1 S1 x u H1 l1 rs1 rx q1 => ?_⟩
  refine ⟨F1, ρ1, env, S1, x, rs1, rx, ?_⟩
  cases e : g x env S1 with
  | ok env' S2 => rw [e] at q1; exact fun F2 ρ2 σ2 H2 l2 rs2 _ => q1 F2 ρ2 σ2 H2 l2 rs2
  | exc c fs S2 => rw [e] at q1; exact fun F2 ρ2 H2 cls d l2 rs2 => q1 F2 ρ2 σ H2 cls d l2 rs2
  | stuck => rw [e] at q1; exact q1.elim
end
end Fl
namespace Fl
open PySem PySem.Spec L2
open PyProof.Rows hiding St

/-! ### what is walked -/
section
variable (K : PySem.W.Frag) (ad : Ads)
/-- J gives the items xs, one after another, whatever happens between -/
def Yl (F : Hp) (ρ : Rts) (xs : List Val) (J : It) : Prop := ∀ F' ρ' env S σ H, Le0 F ρ F' ρ' → RS K ad F' ρ' env S σ H → J.stop xs.length H ∧
  ∀ i x, xs[i]? = some x → J.go i H ∧ ∀ u H2, J.yld i H u H2 → ∃ F2 ρ2, Le F' ρ' F2 ρ2 ∧ RS K ad F2 ρ2 env S σ H2 ∧ Rp K ad F2 ρ2 x u
end
structure GI (X : Cx) (ad : Ads) (W : WX) (tg iter : Expr) (f : AF) : Prop where
  run : PI X tg iter (tG X.K ad (Yl X.K ad) W f)
theorem _root_.L2.PI.imp {X : Cx} {tg e : Expr} {t t' : TI} (h : PI X tg e t) (i : ∀ σ H Q, t' σ H Q → t σ H Q) : PI X tg e t' := ⟨fun p s σ H Q I q => h.run p s σ H Q I (i σ H Q q)⟩
theorem PI.or {X : Cx} {tg e : Expr} {t u : TI} (h : PI X tg e t) (h2 : PI X tg e u) : PI X tg e (fun σ H R => t σ H R ∨ u σ H R) := ⟨fun p s σ H Q I q => q.elim (h.run p s σ H Q I) (h2.run p s σ H Q I)⟩
def strV (c : Nat) : Val := .str ⟨#[c]⟩
/-- the items of a thing that stays as it is -/
def itmF (S : Store) : Val → Option (List Val)
  | .tup xs => some xs
  | .lst xs => some xs
  | .wls xs => some xs
  | .str z => some (z.cps.toList.map strV)
  | .ref i => match S[i]? with
    | some (false, .lst xs) => some xs
    | _ => none
  | _ => none
def iSeq (f : EF) : AF := fun env S => (f env S).bind fun x S1 => match itmF S1 x with
  | some xs => .ok xs S1
  | none => .stuck
section
variable {X : Cx} {ad : Ads} {W : WX} {tg : Expr} {pos p : Pos}
theorem yl_lst {F ρ} {a : Addr} {xs : List Val} {vs : List V} (h : SqL X.K F a vs) (r : Rps X.K ad F ρ xs vs) : Yl X.K ad F ρ xs (Itl X.K a) := fun F' ρ' env S σ H l rs => by
  have hs : SqL X.K H a vs := Same.seq rs.s.sub (sqL_mono l h)
  refine ⟨⟨vs, hs, by rw [r.length]; exact Nat.le_refl _⟩, fun i x e => ?_⟩
  obtain ⟨u, e1, r1⟩ := (r.mono0 l).get e
  refine ⟨⟨vs, u, hs, e1⟩, fun w H2 y => ?_⟩
  obtain ⟨y1, y2⟩ := y
  subst y1
  have := y2 vs hs
  rw [e1] at this; cases this
  exact ⟨F', ρ', .refl, rs, r1⟩
theorem yl_tup {F ρ} {a : Addr} {xs : List Val} {vs : List V} (h : SqT X.K F a vs) (r : Rps X.K ad F ρ xs vs) : Yl X.K ad F ρ xs (Itt X.K a) := fun F' ρ' env S σ H l rs => by
  have hs : SqT X.K H a vs := Sub.tup rs.s.sub (sqT_mono l h)
  refine ⟨⟨vs, hs, by rw [r.length]; exact Nat.le_refl _⟩, fun i x e => ?_⟩
  obtain ⟨u, e1, r1⟩ := (r.mono0 l).get e
  refine ⟨⟨vs, u, hs, e1⟩, fun w H2 y => ?_⟩
  obtain ⟨y1, y2⟩ := y
  subst y1
  have := y2 vs hs
  rw [e1] at this; cases this
  exact ⟨F', ρ', .refl, rs, r1⟩
theorem yl_str {F ρ} {z : Str} : Yl X.K ad F ρ (z.cps.toList.map strV) (Its z) := fun F' ρ' env S σ H l rs => by
  refine ⟨by show z.cps.size ≤ (z.cps.toList.map strV).length; simp, fun i x e => ?_⟩
  rw [List.getElem?_map] at e
  cases e2 : z.cps.toList[i]? with
  | none => rw [e2] at e; cases e
  | some c =>
    rw [e2] at e; cases e
    have hi : i < z.cps.size := by have := (List.getElem?_eq_some_iff.mp e2).1; simpa using this
    refine ⟨hi, fun w H2 y => ?_⟩
    obtain ⟨y1, c', y2, y3⟩ := y
    subst y1 y3
    rw [Array.getElem?_toList] at e2
    rw [e2] at y2; cases y2
    exact ⟨F', ρ', .refl, rs, .str _⟩
theorem yl_range {F ρ} {lo : Int} {n : Nat} : Yl X.K ad F ρ ((List.range n).map fun (i : Nat) => Val.int (lo + (i : Int))) (Itr lo n) := fun F' ρ' env S σ H l rs => by
  refine ⟨by show n ≤ _; simp, fun i x e => ?_⟩
  rw [List.getElem?_map] at e
  by_cases hi : i < n
  · rw [List.getElem?_range hi] at e; cases e
    refine ⟨hi, fun w H2 y => ?_⟩
    obtain ⟨y1, y2⟩ := y
    subst y1 y2
    exact ⟨F', ρ', .refl, rs, .int _⟩
  · rw [List.getElem?_eq_none (by simpa using hi)] at e; cases e
theorem gi_seq {e : Expr} {f : EF} (h : GE X ad W e f) : GI X ad W tg e (iSeq f) := by
  refine ⟨(PI.or (pi_str h.run) (PI.or (pi_list h.run) (pi_tup h.run))).imp fun σ H R ⟨F, ρ, env, S, rs, q⟩ => ?_⟩
  unfold iSeq at q
  cases e0 : f env S with
  | stuck => rw [e0] at q; exact q.elim
  | exc c fs S1 => rw [e0] at q; exact .inl ⟨F, ρ, env, S, rs, by rw [e0]; exact q⟩
  | ok x S1 =>
    rw [e0] at q
    dsimp only [Res.bind] at q
    cases e1 : itmF S1 x with
    | none => rw [e1] at q; exact q.elim
    | some xs =>
      rw [e1] at q
      cases x <;> simp only [itmF] at e1 <;> try cases e1
      · refine .inl ⟨F, ρ, env, S, rs, ?_⟩
        rw [e0]
        intro F' ρ' b H' l rs' rb
        cases rb
        exact ⟨_, rfl, q F' ρ' _ H' l rs' yl_str⟩
      · refine .inr (.inr ⟨F, ρ, env, S, rs, ?_⟩)
        rw [e0]
        intro F' ρ' b H' l rs' rb
        cases rb with
        | tup h1 r1 => exact ⟨_, rfl, ⟨_, Sub.tup rs'.s.sub h1⟩, q F' ρ' _ H' l rs' (yl_tup h1 r1)⟩
      · refine .inr (.inl ⟨F, ρ, env, S, rs, ?_⟩)
        rw [e0]
        intro F' ρ' b H' l rs' rb
        cases rb with
        | lst h1 r1 => exact ⟨_, rfl, ⟨_, SqL.of (rs'.s.sub _ _ h1)⟩, q F' ρ' _ H' l rs' (yl_lst (SqL.of h1) r1)⟩
      · refine .inr (.inl ⟨F, ρ, env, S, rs, ?_⟩)
        rw [e0]
        intro F' ρ' b H' l rs' rb
        cases rb with
        | wls h1 r1 => exact ⟨_, rfl, ⟨_, Same.seq rs'.s.sub h1⟩, q F' ρ' _ H' l rs' (yl_lst h1 r1)⟩
      · rename_i i
        split at e1
        · rename_i ys hs
          cases e1
          refine .inr (.inl ⟨F, ρ, env, S, rs, ?_⟩)
          rw [e0]
          intro F' ρ' b H' l rs' rb
          cases rb with
          | ref h1 =>
            obtain ⟨a, o, k1, ⟨vs, k2, k3⟩, _, k4⟩ := rs'.s.cel _ _ _ hs
            rw [h1] at k1; cases k1
            obtain ⟨o', k5, k6⟩ := k4 rfl
            subst k2
            rw [k6.other fun _ => bare_lst] at k5
            exact ⟨_, rfl, ⟨_, SqL.of (rs'.s.sub _ _ k5)⟩, q F' ρ' _ H' l rs' (yl_lst (SqL.of k5) k3)⟩
        · cases e1
def rangeV (lo hi : Int) : List Val := (List.range (hi - lo).toNat).map fun (i : Nat) => Val.int (lo + (i : Int))
def iRg1 (a : AF) : AF := fun env S => (a env S).bind fun xs S1 => match xs with
  | [.int n] => if -(2 ^ 62) ≤ n ∧ n < 2 ^ 62 then .ok (rangeV 0 n) S1 else .stuck
  | _ => .stuck
def iRg2 (a : AF) : AF := fun env S => (a env S).bind fun xs S1 => match xs with
  | [.int m, .int n] => if -(2 ^ 62) ≤ m ∧ m < 2 ^ 62 ∧ -(2 ^ 62) ≤ n ∧ n < 2 ^ 62 then .ok (rangeV m n) S1 else .stuck
  | _ => .stuck
theorem gi_range1 {a : Expr} {f : AF} (hg : Gl X "range") (hm : X.mg "range" = none) (ha : GA X ad W [a] f) (hs : starEach [a] X.env = [(false, eval a X.env)] := by rfl) : GI X ad W tg (.Call (.Name "range" p) [a] [] pos) (iRg1 f) := by
  refine ⟨(pi_range1 hg hm ha.run hs).imp fun σ H R ⟨F, ρ, env, S, rs, q⟩ => ⟨F, ρ, env, S, rs, Aft.bind q fun F1 ρ1 S1 x u H1 l1 rs1 rx q1 => ?_⟩⟩
  split at q1
  · rename_i n
    split at q1
    · rename_i hn
      cases rx with
      | cons r1 r2 =>
        cases r1; cases r2
        refine ⟨n, rfl, hn.1, hn.2, ?_⟩
        have := q1 F1 ρ1 (Itr 0 (n - 0).toNat) H1 .refl rs1 yl_range
        simpa using this
    · exact q1.elim
  · exact q1.elim
theorem gi_range2 {a b : Expr} {f : AF} (hg : Gl X "range") (hm : X.mg "range" = none) (ha : GA X ad W [a, b] f) (hs : starEach [a, b] X.env = [(false, eval a X.env), (false, eval b X.env)] := by rfl) (hs2 : starEach [b] X.env = [(false, eval b X.env)] := by rfl) : GI X ad W tg (.Call (.Name "range" p) [a, b] [] pos) (iRg2 f) := by
  refine ⟨(pi_range2 hg hm ha.run hs hs2).imp fun σ H R ⟨F, ρ, env, S, rs, q⟩ => ⟨F, ρ, env, S, rs, Aft.bind q fun F1 ρ1 S1 x u H1 l1 rs1 rx q1 => ?_⟩⟩
  split at q1
  · rename_i m n
    split at q1
    · rename_i hn
      cases rx with
      | cons r1 r2 =>
        cases r2 with
        | cons r2 r3 =>
          cases r1; cases r2; cases r3
          exact ⟨m, n, rfl, hn, q1 F1 ρ1 _ H1 .refl rs1 yl_range⟩
    · exact q1.elim
  · exact q1.elim
/-- enumerate(xs), xs a list that stays -/
def iEnu (a : AF) : AF := fun env S => (a env S).bind fun xs S1 => match xs with
  | [.lst ys] => .ok (ys.mapIdx fun (i : Nat) y => Val.tup [.int (i : Int), y]) S1
  | [.wls ys] => .ok (ys.mapIdx fun (i : Nat) y => Val.tup [.int (i : Int), y]) S1
  | _ => .stuck
theorem yl_enu {F ρ} {a : Addr} {xs : List Val} {vs : List V} (h : SqL X.K F a vs) (r : Rps X.K ad F ρ xs vs) : Yl X.K ad F ρ (xs.mapIdx fun (i : Nat) y => Val.tup [.int (i : Int), y]) (Ite X.K a) := fun F' ρ' env S σ H l rs => by
  have hs : SqL X.K H a vs := Same.seq rs.s.sub (sqL_mono l h)
  refine ⟨⟨vs, hs, by rw [List.length_mapIdx, r.length]; exact Nat.le_refl _⟩, fun i x e => ?_⟩
  rw [List.getElem?_mapIdx] at e
  cases e2 : xs[i]? with
  | none => rw [e2] at e; cases e
  | some y =>
    rw [e2] at e; cases e
    obtain ⟨u, e1, r1⟩ := (r.mono0 l).get e2
    refine ⟨⟨vs, u, hs, e1⟩, fun w H2 y => ?_⟩
    obtain ⟨T, x', y1, y2, y3, y4⟩ := y
    subst y1 y3
    have := y4 vs hs
    rw [e1] at this; cases this
    obtain ⟨rs', l'⟩ := rs.lay (o := .tup [.int (i : Int), u]) y2
    exact ⟨_, _, l', rs', .tup (.inl (.inl upd_same)) (.cons (.int _) (.cons (r1.mono l') .nil))⟩
theorem gi_enum {e : Expr} {elts : List Expr} {kk : Nat} {tpos : Pos} {f : AF} (hg : Gl X "enumerate") (hm : X.mg "enumerate" = none) (ha : GA X ad W [e] f) (hs : starEach [e] X.env = [(false, eval e X.env)] := by rfl) :
    GI X ad W (.Tuple elts kk tpos) (.Call (.Name "enumerate" p) [e] [] pos) (iEnu f) := by
  refine ⟨(pi_enum hg hm ha.run hs).imp fun σ H R ⟨F, ρ, env, S, rs, q⟩ => ⟨F, ρ, env, S, rs, Aft.bind q fun F1 ρ1 S1 x u H1 l1 rs1 rx q1 => ?_⟩⟩
  split at q1
  · cases rx with
    | cons r1 r2 =>
      cases r2
      cases r1 with
      | lst h1 r1 => exact ⟨_, _, rfl, SqL.of (rs1.s.sub _ _ h1), q1 F1 ρ1 _ H1 .refl rs1 (yl_enu (SqL.of h1) r1)⟩
  · cases rx with
    | cons r1 r2 =>
      cases r2
      cases r1 with
      | wls h1 r1 => exact ⟨_, _, rfl, Same.seq rs1.s.sub h1, q1 F1 ρ1 _ H1 .refl rs1 (yl_enu h1 r1)⟩
  · exact q1.elim
end

/-! ### for -/
def forGo (g : TF) (b : SF) : List Val → SF
  | [], env, S => .nx env S
  | x :: xs, env, S => (g x env S).go env fun env1 S1 => match b env1 S1 with
    | .nx env2 S2 => forGo g b xs env2 S2
    | .cnt env2 S2 => forGo g b xs env2 S2
    | .brk env2 S2 => .nx env2 S2
    | r => r
def sFor (it : AF) (g : TF) (b : SF) : SF := fun env S => (it env S).go env fun xs S1 => forGo g b xs env S1
section
variable {X : Cx} {ad : Ads} {W : WX} {tg iter : Expr} {vs : List Nat} {pos p : Pos}
theorem gs_for {body : List Stmt} {it : AF} {g : TF} {b : SF} (hp : PassesOwn (model X.prog X.w) X.A X.env X.xe) (hc : X.calm = true) (hi : GI X ad W tg iter it) (hg : GG X ad vs W tg g) (hb : GSs X ad W body b)
    (hs : ∀ x, foldedSetIterable iter X.env x = pure x := by intro _; rfl) : GS X ad W (.For tg iter body [] pos) (sFor it g b) := by
  refine gs_of (ps_for hp hc hi.run hg.run hb.run hs) fun F ρ env S σ H D rs q => ⟨F, ρ, env, S, rs, AftS.go q fun F1 ρ1 S1 xs J H1 l1 rs1 y q1 => ?_⟩
  -- W i m σ H: what is left gives what is wanted
  refine ⟨fun i m σ H => m = xs.length - i ∧ i ≤ xs.length ∧ ∃ F' ρ' env' S', Le F1 ρ1 F' ρ' ∧ RS X.K ad F' ρ' env' S' σ H ∧ AftS X.K ad W F' ρ' (forGo g b (xs.drop i) env' S') D, ⟨xs.length, by simp, Nat.zero_le _, F1, ρ1, env, S1, .refl, rs1, by simpa using q1⟩, ?_⟩
  rintro i m σ' H' ⟨rfl, hi, F', ρ', env', S', l', rs', q'⟩
  obtain ⟨ys, yg⟩ := y F' ρ' env' S' σ' H' l'.toLe0 rs'
  by_cases hlt : i < xs.length
  · obtain ⟨go, yd⟩ := yg i xs[i] (by simp [hlt])
    refine .inr ⟨go, fun σ2 H2 => ∃ F' ρ' env' S', Le F1 ρ1 F' ρ' ∧ RS X.K ad F' ρ' env' S' σ2 H2 ∧ AftS X.K ad W F' ρ' (forGo g b (xs.drop (i + 1)) env' S') D, fun σ2 H2 h => ⟨xs.length - (i + 1), by omega, rfl, hlt, h⟩, fun u H2 yu => ?_⟩
    obtain ⟨F2, ρ2, l2, rs2, rx⟩ := yd u H2 yu
    refine ⟨F2, ρ2, env', S', xs[i], rs2, rx, ?_⟩
    rw [List.drop_eq_getElem_cons hlt] at q'
    unfold forGo at q'
    cases e : g xs[i] env' S' with
    | stuck => rw [e] at q'; exact q'.elim
    | exc c fs S3 => rw [e] at q'; exact fun F3 ρ3 H3 cls d l3 rs3 rx3 => q' F3 ρ3 σ' H3 cls d (l2.trans l3) rs3 rx3
    | ok env3 S3 =>
      rw [e] at q'
      dsimp only [Res.go] at q'
      intro F3 ρ3 σ3 H3 l3 rs3 _
      refine ⟨F3, ρ3, env3, S3, rs3, ?_⟩
      have q3 := AftS.later (l2.trans l3) q'
      have lf := l'.trans (l2.trans l3)
      cases eb : b env3 S3 with
      | stuck => rw [eb] at q3; exact q3.elim
      | exc c fs env4 S4 => rw [eb] at q3; exact q3
      | ret v S4 => rw [eb] at q3; exact q3
      | brk env4 S4 => rw [eb] at q3; exact q3
      | nx env4 S4 => rw [eb] at q3; exact fun F4 ρ4 σ4 H4 l4 rs4 => ⟨F4, ρ4, env4, S4, lf.trans l4, rs4, AftS.later l4 q3⟩
      | cnt env4 S4 => rw [eb] at q3; exact fun F4 ρ4 σ4 H4 l4 rs4 => ⟨F4, ρ4, env4, S4, lf.trans l4, rs4, AftS.later l4 q3⟩
  · have e : i = xs.length := by omega
    subst e
    refine .inl ⟨ys, ?_⟩
    rw [List.drop_length] at q'
    exact q' F' ρ' σ' H' .refl rs'
/-- while, n turns at most -/
def whGo (t : Env → Store → Res Bool) (b : SF) : Nat → SF
  | 0, _, _ => .stuck
  | n + 1, env, S => (t env S).go env fun c S1 => if c then (match b env S1 with
    | .nx env2 S2 => whGo t b n env2 S2
    | .cnt env2 S2 => whGo t b n env2 S2
    | .brk env2 S2 => .nx env2 S2
    | r => r) else .nx env S1
theorem gs_while (n : Nat) {c : Expr} {body : List Stmt} {t} {b : SF} (hp : PassesOwn (model X.prog X.w) X.A X.env X.xe) (hc : GT X ad W c t) (hb : GSs X ad W body b) : GS X ad W (.While c body [] pos) (whGo t b n) := by
  refine gs_of (ps_while hp hc.run hb.run) fun F ρ env S σ H D rs q => ?_
  refine ⟨fun m σ H => ∃ F' ρ' env' S', Le F ρ F' ρ' ∧ RS X.K ad F' ρ' env' S' σ H ∧ AftS X.K ad W F' ρ' (whGo t b m env' S') D, ⟨n, F, ρ, env, S, .refl, rs, q⟩, ?_⟩
  rintro m σ' H' ⟨F', ρ', env', S', l', rs', q'⟩
  cases m with
  | zero => exact q'.elim
  | succ m =>
    unfold whGo at q'
    refine ⟨F', ρ', env', S', rs', AftS.go (R := RB) q' fun F1 ρ1 S1 x u H1 l1 rs1 rx q1 => ?_⟩
    cases rx
    cases x with
    | false => exact q1 F1 ρ1 σ' H1 .refl rs1
    | true =>
      refine ⟨fun σ2 H2 => ∃ F' ρ' env' S', Le F ρ F' ρ' ∧ RS X.K ad F' ρ' env' S' σ2 H2 ∧ AftS X.K ad W F' ρ' (whGo t b m env' S') D, fun σ2 H2 h => ⟨m, Nat.lt_succ_self _, h⟩, F1, ρ1, env', S1, rs1, ?_⟩
      simp only [if_true] at q1
      have lf := l'.trans l1
      cases eb : b env' S1 with
      | stuck => rw [eb] at q1; exact q1.elim
      | exc c fs env4 S4 => rw [eb] at q1; exact q1
      | ret v S4 => rw [eb] at q1; exact q1
      | brk env4 S4 => rw [eb] at q1; exact q1
      | nx env4 S4 => rw [eb] at q1; exact fun F4 ρ4 σ4 H4 l4 rs4 => ⟨F4, ρ4, env4, S4, lf.trans l4, rs4, AftS.later l4 q1⟩
      | cnt env4 S4 => rw [eb] at q1; exact fun F4 ρ4 σ4 H4 l4 rs4 => ⟨F4, ρ4, env4, S4, lf.trans l4, rs4, AftS.later l4 q1⟩
end
end Fl
namespace Fl
open PySem PySem.Spec L2
open PyProof.Rows hiding St

abbrev W0 : WX := fun _ _ _ _ => False
theorem wipe_idem (σ : L2.St) : ∀ vs, wipe (wipe σ vs) vs = wipe σ vs
  | [] => rfl
  | v :: vs => by
    show ((wipe ((wipe σ vs).set v none) vs).set v none) = (wipe σ vs).set v none
    by_cases hv : v ∈ vs
    · rw [wipe_set hv, wipe_idem σ vs]
    · have : ∀ {ws : List Nat} {τ : L2.St}, v ∉ ws → wipe (τ.set v none) ws = (wipe τ ws).set v none := by
        intro ws
        induction ws with
        | nil => intro τ _; rfl
        | cons w ws ih =>
          intro τ hw
          unfold wipe
          rw [ih (fun z => hw (List.mem_cons_of_mem _ z)), List.set_comm _ _ (fun z => hw (by rw [z]; exact List.mem_cons_self))]
      rw [this hv, wipe_idem σ vs, List.set_set]
section
variable {K : PySem.W.Frag} {ad : Ads} {W : WX} {F F' : Hp} {ρ ρ' : Rts} {env : Env} {σ : L2.St} {S : Store} {H : Hp}
theorem RE.wipe (nh : ad.hold = none) (r : RE K ad F ρ env σ) : ∀ vs, RE K ad F ρ (wipeE env vs) (L2.wipe σ vs)
  | [] => r
  | v :: vs => by unfold wipeE L2.wipe; exact (RE.wipe nh r vs).unset nh
theorem hid_le {p : Addr} {o : HO} (l : Le F (ρ.hid p o) F' ρ') : ∃ ρ2, ρ' = ρ2.hid p o ∧ Le F ρ F' ρ2 := by
  obtain ⟨l', z'⟩ := ρ'
  have hz : z' = (p, o) :: ρ.z := l.z
  subst hz
  exact ⟨⟨l', ρ.z⟩, rfl, ⟨l.f, l.r⟩, rfl⟩
theorem le_hid {p : Addr} {o : HO} (l : Le F ρ F' ρ') : Le F (ρ.hid p o) F' (ρ'.hid p o) := ⟨⟨l.f, l.r⟩, by show (p, o) :: ρ'.z = (p, o) :: ρ.z; rw [l.z]⟩
theorem le0hid {p : Addr} {o : HO} : Le0 F ρ F (ρ.hid p o) := Le0.same (Same.refl _) fun i a h => h
theorem le0un {p : Addr} {o : HO} : Le0 F (ρ.hid p o) F ρ := Le0.same (Same.refl _) fun i a h => h
theorem RE.hid {p : Addr} {o : HO} (r : RE K ad F ρ env σ) : RE K ad F (ρ.hid p o) env σ := r.mono0 le0hid
theorem RE.unhid {p : Addr} {o : HO} (r : RE K ad F (ρ.hid p o) env σ) : RE K ad F ρ env σ := r.mono0 le0un
theorem Rp.hid {p : Addr} {o : HO} {x : Val} {v : V} (r : Rp K ad F ρ x v) : Rp K ad F (ρ.hid p o) x v := r.mono0 le0hid
theorem Rp.unhid {p : Addr} {o : HO} {x : Val} {v : V} (r : Rp K ad F (ρ.hid p o) x v) : Rp K ad F ρ x v := r.mono0 le0un
end

/-! ### tests of a comprehension -/
abbrev TFn := Env → Store → Res Bool
def tTrue : TFn := fun _ S => .ok true S
structure GTs (X : Cx) (ad : Ads) (W : WX) (ifs : List Expr) (t : TFn) : Prop where
  run : PTs X ifs (tG X.K ad RB W t)
theorem _root_.L2.PTs.imp {X : Cx} {e : List Expr} {t t' : TT} (h : PTs X e t) (i : ∀ σ H Q, t' σ H Q → t σ H Q) : PTs X e t' := ⟨fun p s σ H Q I q => h.run p s σ H Q I (i σ H Q q)⟩
theorem gts_nil {X : Cx} {ad : Ads} {W : WX} : GTs X ad W [] tTrue := ⟨pts_nil.imp fun σ H Q ⟨F, ρ, env, S, rs, q⟩ => q F ρ true H .refl rs rfl⟩
theorem gts_one {X : Cx} {ad : Ads} {W : WX} {c : Expr} {t : TFn} (h : GT X ad W c t) : GTs X ad W [c] t := ⟨pts_one h.run⟩

/-! ### list comprehensions -/
def lcGo (g : TF) (t : TFn) (f : EF) (env0 : Env) : List Val → List Val → Store → Res (List Val)
  | [], acc, S => .ok acc S
  | x :: xs, acc, S => match g x env0 S with
    | .ok env1 S1 => match t env1 S1 with
      | .ok true S2 => match f env1 S2 with
        | .ok y S3 => if acc.length < sizeLine then lcGo g t f env0 xs (acc ++ [y]) S3 else .stuck
        | _ => .stuck
      | .ok false S2 => lcGo g t f env0 xs acc S2
      | _ => .stuck
    | _ => .stuck
def eLc (c : Bool) (it : AF) (g : TF) (t : TFn) (f : EF) (vs : List Nat) : EF := fun env S => (it env S).bind fun xs S1 => (lcGo g t f (wipeE env vs) xs [] S1).bind (mkL c)
section
variable {X : Cx} {ad : Ads} {W : WX} {pos spos py : Pos} {elt tg iter : Expr} {ifs : List Expr} {scope : Scope} {own : List (Str × Nat)} {it : AF} {g : TF} {t : TFn} {f : EF}
/-- the reading of a comprehension -/
theorem lc_read (nh : ad.hold = none) {c : Bool} {vs : List Nat} {F ρ env S σ H} {Q : VK} (rs : RS X.K ad F ρ env S σ H) (q : Aft X.K ad (Rp X.K ad) W F ρ env σ (eLc c it g t f vs env S) Q) :
    tLc (tG X.K ad (Yl X.K ad) W it) (tT X.K ad vs W0 g) (tG X.K ad RB W0 t) (tG X.K ad (Rp X.K ad) W0 f) vs σ H Q := by
  refine ⟨F, ρ, env, S, rs, Aft.bind q fun F1 ρ1 S1 xs J H1 l1 rs1 y q1 => ?_⟩
  intro D hD
  obtain ⟨rh, lh⟩ := rs1.s.hide (o := .lst []) hD
  refine ⟨fun i m H => m = xs.length - i ∧ i ≤ xs.length ∧ ∃ F' ρ' S' acc av, Le F1 ρ1 F' ρ' ∧ RS0 X.K ad F' (ρ'.hid D (.lst av)) S' H ∧ Rps X.K ad F' ρ' acc av ∧
    Aft X.K ad (Rp X.K ad) W F' ρ' env σ ((lcGo g t f (wipeE env vs) (xs.drop i) acc S').bind (mkL c)) Q, ⟨xs.length, by simp, Nat.zero_le _, F1, ρ1, S1, [], [], .refl, rh, .nil, by simpa using q1⟩, ?_⟩
  rintro i m H' ⟨rfl, hi, F', ρ', S', acc, av, l', rh', ra, q'⟩
  have re' : RE X.K ad F' (ρ'.hid D (.lst av)) env σ := (rs1.e.mono l').hid
  have lF : Le0 F1 ρ1 F' (ρ'.hid D (.lst av)) := ⟨l'.f, l'.r⟩
  obtain ⟨ys, yg⟩ := y F' _ env S' σ H' lF ⟨rh', re'⟩
  by_cases hlt : i < xs.length
  · obtain ⟨go, yd⟩ := yg i xs[i] (by simp [hlt])
    refine .inr ⟨go, fun H2 => ∃ F' ρ' S' acc av, Le F1 ρ1 F' ρ' ∧ RS0 X.K ad F' (ρ'.hid D (.lst av)) S' H2 ∧ Rps X.K ad F' ρ' acc av ∧
      Aft X.K ad (Rp X.K ad) W F' ρ' env σ ((lcGo g t f (wipeE env vs) (xs.drop (i + 1)) acc S').bind (mkL c)) Q, fun H2 h => ⟨xs.length - (i + 1), by omega, rfl, hlt, h⟩, fun u H2 yu => ?_⟩
    obtain ⟨F2, ρ2h, l2h, rs2, rx⟩ := yd u H2 yu
    obtain ⟨ρ2, rfl, l2⟩ := hid_le l2h
    refine ⟨F2, _, wipeE env vs, S', xs[i], ⟨rs2.s, rs2.e.wipe nh vs⟩, rx, ?_⟩
    rw [List.drop_eq_getElem_cons hlt] at q'
    unfold lcGo at q'
    cases e : g xs[i] (wipeE env vs) S' with
    | stuck => rw [e] at q'; exact q'.elim
    | exc c' fs S3 => rw [e] at q'; exact q'.elim
    | ok env3 S3 =>
      rw [e] at q'
      dsimp only at q'
      intro F3 ρ3h σ3 H3 l3h rs3 hw
      obtain ⟨ρ3, rfl, l3⟩ := hid_le l3h
      refine ⟨hw.trans (wipe_idem σ vs), F3, _, env3, S3, rs3, ?_⟩
      cases e2 : t env3 S3 with
      | stuck => rw [e2] at q'; exact q'.elim
      | exc c' fs S4 => rw [e2] at q'; exact q'.elim
      | ok b S4 =>
        rw [e2] at q'
        intro F4 ρ4h b' H4 l4h rs4 eb
        cases eb
        obtain ⟨ρ4, rfl, l4⟩ := hid_le l4h
        cases b with
        | false =>
          rw [if_neg (by simp)]
          exact ⟨F4, ρ4, S4, acc, av, ((l'.trans l2).trans l3).trans l4, rs4.s, ra.mono ((l2.trans l3).trans l4), Aft.later ((l2.trans l3).trans l4) q'⟩
        | true =>
          rw [if_pos rfl]
          dsimp only at q'
          refine ⟨F4, _, env3, S4, rs4, ?_⟩
          cases e3 : f env3 S4 with
          | stuck => rw [e3] at q'; exact q'.elim
          | exc c' fs S5 => rw [e3] at q'; exact q'.elim
          | ok yv S5 =>
            rw [e3] at q'
            dsimp only at q'
            intro F5 ρ5h w H5 l5h rs5 rw5
            obtain ⟨ρ5, rfl, l5⟩ := hid_le l5h
            split at q'
            · rename_i hacc
              have lt := ((l2.trans l3).trans l4).trans l5
              have ra5 := ra.mono lt
              refine ⟨av, (rs5.s.prv (D, .lst av) List.mem_cons_self).1, by rw [← ra.length]; exact hacc, F5, ρ5, S5, acc ++ [yv], av ++ [w], l'.trans lt, rs5.s.rehide, ra5.append (.cons rw5.unhid .nil), Aft.later lt q'⟩
            · exact q'.elim
  · have e : i = xs.length := by omega
    subst e
    refine .inl ⟨ys, ?_⟩
    rw [List.drop_length] at q'
    unfold lcGo at q'
    have q'' : Aft X.K ad (Rp X.K ad) W F' ρ' env σ (mkL c acc S') Q := q'
    unfold mkL at q''
    cases c with
    | false =>
      obtain ⟨r2, l2⟩ := rh'.drop
      have lz : Le F' ρ' (upd F' D (.lst av)) ρ' := ⟨⟨l2.f, fun i a h => h⟩, rfl⟩
      exact q'' _ ρ' _ H' lz ⟨r2, (rs1.e.mono l').mono lz⟩ (.lst upd_same (ra.mono lz))
    | true =>
      obtain ⟨r2, l2⟩ := rh'.dropC (c := .lst acc) ⟨av, rfl, ra.mono0 le0hid⟩
      have lz : Le F' ρ' F' (ρ'.add D) := ⟨⟨l2.f, fun i a h => l2.r i a h⟩, rfl⟩
      have hl : ρ'.l.length = S'.length := rh'.len
      exact q'' _ _ _ H' lz ⟨r2, (rs1.e.mono l').mono lz⟩ (.ref (by rw [← hl]; simp [Rts.add]))
theorem g_lc (nh : ad.hold = none) (c : Bool) (hc : X.calm = true) (hN : X.N.Nodup) (hi : GI X ad W tg iter it) (ok : BlkOk X.N X.env.scope scope own)
    (hg : ∀ (s : Shared) (H : Hp) (C : Addr) (cl : List (Str × Addr)) (fp : List Addr), GG (X.blk s H scope (compEnvC scope cl C X.env) fp) ad (own.map (·.2)) W0 tg g) (ht : ∀ (s : Shared) (H : Hp) (C : Addr) (cl : List (Str × Addr)) (fp : List Addr), GTs (X.blk s H scope (compEnvC scope cl C X.env) fp) ad W0 ifs t)
    (he : ∀ (s : Shared) (H : Hp) (C : Addr) (cl : List (Str × Addr)) (fp : List Addr), GE (X.blk s H scope (compEnvC scope cl C X.env) fp) ad W0 elt f) (hs : ∀ x, foldedSetIterable iter X.env x = pure x := by intro _; rfl) :
    GE X ad W (.ListComp elt [⟨tg, iter, ifs, 0⟩] scope pos) (eLc c it g t f (own.map (·.2))) :=
  g_of (pe_lc (te := tG X.K ad (Rp X.K ad) W0 f) (tt := tG X.K ad RB W0 t) (g := tT X.K ad (own.map (·.2)) W0 g) hc hN hi.run ok (fun s H C cl fp => (hg s H C cl fp).run) (fun s H C cl fp => (ht s H C cl fp).run) (fun s H C cl fp => (he s H C cl fp).run) hs) fun F ρ env S σ H Q rs q => lc_read nh rs q
theorem gs_setLc (nh : ad.hold = none) (c : Bool) {i : Nat} {y : Str} (hc : X.calm = true) (hN : X.N.Nodup) (hy : X.N[i]? = some y) (hyl : X.env.scope.names.lookup y = some .local)
    (hsw : swapsWith (.ListComp elt [⟨tg, iter, ifs, 0⟩] scope pos) (some (.Name y py)) spos.line X.env = pure true) (hi : GI X ad W tg iter it) (ok : BlkOk X.N X.env.scope scope own)
    (hg : ∀ (s : Shared) (H : Hp) (C : Addr) (cl : List (Str × Addr)) (fp : List Addr), GG (X.blk s H scope (compEnvC scope cl C X.env) fp) ad (own.map (·.2)) W0 tg g) (ht : ∀ (s : Shared) (H : Hp) (C : Addr) (cl : List (Str × Addr)) (fp : List Addr), GTs (X.blk s H scope (compEnvC scope cl C X.env) fp) ad W0 ifs t)
    (he : ∀ (s : Shared) (H : Hp) (C : Addr) (cl : List (Str × Addr)) (fp : List Addr), GE (X.blk s H scope (compEnvC scope cl C X.env) fp) ad W0 elt f) (hs : ∀ x, foldedSetIterable iter X.env x = pure x := by intro _; rfl) :
    GS X ad W (.Assign [.Name y py] (.ListComp elt [⟨tg, iter, ifs, 0⟩] scope pos) spos) (sSet i (eLc c it g t f (own.map (·.2)))) := by
  refine gs_of (ps_setLc (te := tG X.K ad (Rp X.K ad) W0 f) (tt := tG X.K ad RB W0 t) (g := tT X.K ad (own.map (·.2)) W0 g) hc hN hy hyl hsw hi.run ok (fun s H C cl fp => (hg s H C cl fp).run) (fun s H C cl fp => (ht s H C cl fp).run) (fun s H C cl fp => (he s H C cl fp).run) hs) fun F ρ env S σ H D rs q => ?_
  have q2 : Aft X.K ad (Rp X.K ad) W F ρ env σ (eLc c it g t f (own.map (·.2)) env S) (fun x H1 => D.nx (σ.set i (some x)) H1) :=
    AftS.go (R := Rp X.K ad) q fun F1 ρ1 S1 x u H1 l1 rs1 rx q1 => q1 F1 ρ1 _ H1 .refl (rs1.set rx)
  exact lc_read nh rs q2
end
end Fl
namespace Fl
open PySem PySem.Spec L2
open PyProof.Rows hiding St

/-- a def's body run -/
def runB (n : Nat) (body : SF) : BF := fun xs S => match body (xs.map some ++ List.replicate (n - xs.length) none) S with
  | .nx _ S1 => .ok .non S1
  | .ret v S1 => .ok v S1
  | .exc c fs _ S1 => .exc c fs S1
  | _ => .stuck
section
variable {P : Program} {w : World} {K : PySem.W.Frag} {mg : Str → Option Value} {base : Heap} {ad : Ads}
theorem re_start (nh : ad.hold = none) {F : Hp} {ρ : Rts} {N : List Str} {xs : List Val} {vs : List V} (r : Rps K ad F ρ xs vs) : RE K ad F ρ (xs.map some ++ List.replicate (N.length - xs.length) none) (L2.start N vs) := by
  unfold L2.start
  refine ⟨by simp [r.length], fun i v e => ?_, fun j a dx fs e1 => by rw [nh] at e1; cases e1⟩
  by_cases hi : i < xs.length
  · rw [List.getElem?_append_left (by simpa using hi), List.getElem?_map] at e
    cases e2 : xs[i]? with
    | none => rw [e2] at e; cases e
    | some x =>
      rw [e2] at e; cases e
      obtain ⟨u, h1, h2⟩ := r.get e2
      refine ⟨u, ?_, h2⟩
      rw [List.getElem?_append_left (by rw [List.length_map, ← r.length]; exact hi), List.getElem?_map, h1]
      rfl
  · rw [List.getElem?_append_right (by simpa using hi), List.getElem?_replicate] at e
    split at e <;> cases e
/-- a def as it stands, whatever its defaults -/
structure Fn (K : PySem.W.Frag) (x qual : Str) (st : Stmt) (f : Addr) (fd : FuncData) : Prop where
  ex : ∃ (oc : Value) (od : Option Addr) (dV kV doc pm : Value) (an : Option Addr) (cdv ct : Value) (osl : Array (Option Value)),
    fd = PySem.W.fnOf x qual (defArgs st) (defBody st) (defScope st) dV kV doc pm an cdv ct ∧ K.lookup f = some ⟨oc, od, .func fd, osl⟩ ∧ PySem.W.codeIn K cdv qual = true
theorem Fn.of {x qual : Str} {st : Stmt} {f : Addr} {fd : FuncData} (F : Fun K x qual st f fd) : Fn K x qual st f fd :=
  let ⟨oc, od, kV, doc, pm, an, cdv, ct, osl, e, l, c⟩ := F.ex; ⟨oc, od, .none, kV, doc, pm, an, cdv, ct, osl, e, l, c⟩
theorem Fn.ofD {x qual : Str} {st : Stmt} {f : Addr} {fd : FuncData} {dvs : List V} {kws : List (Str × V)} (F : FunD K x qual (defArgs st) (defBody st) (defScope st) dvs kws f fd) : Fn K x qual st f fd :=
  let ⟨oc, od, dV, kV, doc, pm, an, cdv, ct, osl, e, l, c, _, _⟩ := F.ex; ⟨oc, od, dV, kV, doc, pm, an, cdv, ct, osl, e, l, c⟩
theorem Fn.ok {CX : CXT} {x qual : Str} {st : Stmt} {f : Addr} {fd : FuncData} {N ps : List Str} {k : Nat} {sp : Sp} (F : Fn K x qual st f fd) (S : FnScope N ps (defScope st)) (len : ∀ vs H Q E, sp vs H Q E → vs.length = ps.length)
    (hb : ∀ (cdv : Value) (A : Around) (outer : List PySem.Env) (s : Shared) (H : Hp) (vs : List V) (Q : VK) (E : XK), Room k (A.deeper (envOfC qual (defScope st) s.heap.objs.size f cdv)) → sp vs H Q E →
      ∃ t, PSs (cxOf CX P w K mg base N qual (defScope st) f cdv A outer s H E) (defBody st) t ∧ t { nx := fun _ H' => Q .non H', rt := Q } (start N vs) H) : FnOk P w K mg base CX (k + 1) f fd ps sp := by
  obtain ⟨oc, od, dV, kV, doc, pm, an, cdv, ct, osl, rfl, lk, hcd⟩ := F.ex
  exact fn_of lk hcd S len fun A outer s H vs Q E hr hsp => hb cdv A outer s H vs Q E hr hsp
theorem def_ok {x qual : Str} {st : Stmt} {f : Addr} {fd : FuncData} {N ps : List Str} {k : Nat} (nh : ad.hold = none) (Fz : Fn K x qual st f fd) (Sc : FnScope N ps (defScope st)) {body : SF}
    (hb : ∀ (cdv : Value) (A : Around) (outer : List PySem.Env) (s : Shared) (H : Hp) (E : XK), Room k (A.deeper (envOfC qual (defScope st) s.heap.objs.size f cdv)) →
      GSs (cxOf (L2.CX P w) P w K mg base N qual (defScope st) f cdv A outer s H E) ad (fun cls d _ H => E cls d H) (defBody st) body) :
    FnOk P w K mg base (L2.CX P w) (k + 1) f fd ps (spOf K ad ps.length (runB N.length body)) := by
  refine Fz.ok Sc (fun vs H Q E h => sp_len h) fun cdv A outer s H vs Q E hr h => ⟨_, (hb cdv A outer s H E hr).run, ?_⟩
  obtain ⟨F, ρ, S, xs, hl, rs0, rx, q⟩ := h
  refine ⟨F, ρ, _, S, ⟨rs0, re_start nh (N := N) rx⟩, ?_⟩
  unfold runB at q
  cases e : body (xs.map some ++ List.replicate (N.length - xs.length) none) S with
  | stuck => rw [e] at q; exact q.elim
  | brk env S1 => rw [e] at q; exact q.elim
  | cnt env S1 => rw [e] at q; exact q.elim
  | nx env S1 => rw [e] at q; exact fun F' ρ' σ' H' l rs => q F' ρ' _ H' l rs.s .non
  | ret v S1 => rw [e] at q; exact q
  | exc c fs env S1 => rw [e] at q; exact fun F' ρ' σ' H' cls d l rs rx => q F' ρ' H' cls d l rs.s rx
end
/-- the law, asked of a script -/
theorem law_sp {K : PySem.W.Frag} {ad : Ads} {f : BF} {H : Hp} {a : Addr} {ns : List Int} (hS : SqL K H a (ns.map V.int)) (hO : Only H) (h : ∃ S', f [.wls (ns.map Val.int)] [] = .ok (.bl true) S') :
    spOf K ad 1 f [.ref a] H (fun v _ => v = .bl true) fun _ _ _ => False := by
  obtain ⟨S', h⟩ := h
  have rps : ∀ {ns : List Int}, Rps K ad H ⟨[], []⟩ (ns.map Val.int) (ns.map V.int) := fun {ns} => by
    induction ns with
    | nil => exact .nil
    | cons i t ih => exact .cons (.int i) ih
  refine ⟨H, ⟨[], []⟩, [], _, rfl, ⟨Same.refl _, rfl, fun i b c e => by simp at e, by simp, fun p hp => (by cases hp), by simp⟩, .cons (.wls hS rps) .nil, ?_⟩
  rw [h]
  intro F' ρ' b H' l rs rb
  cases rb
  rfl
end Fl
namespace Fl
open PySem PySem.Spec L2
open PyProof.Rows hiding St

/-! ### texts in lists -/
def strsOf : List Val → Option (List Str)
  | [] => some []
  | .str x :: xs => (strsOf xs).map (x :: ·)
  | _ => none
def bolsOf : List Val → Option (List Bool)
  | [] => some []
  | .bl x :: xs => (bolsOf xs).map (x :: ·)
  | _ => none
section
variable {K : PySem.W.Frag} {ad : Ads} {F : Hp} {ρ : Rts} {S : Store} {H : Hp}
theorem strs_rp : ∀ {xs : List Val} {vs : List V} {ys : List Str}, Rps K ad F ρ xs vs → strsOf xs = some ys → vs = ys.map V.str
  | _, _, _, .nil, e => by simp only [strsOf] at e; cases e; rfl
  | x :: xs, _, _, .cons r t, e => by
    cases r <;> simp only [strsOf] at e <;> try cases e
    cases q : strsOf xs with
    | none => rw [q] at e; cases e
    | some zs => rw [q] at e; cases e; rw [strs_rp t q]; rfl
theorem bols_rp : ∀ {xs : List Val} {vs : List V} {ys : List Bool}, Rps K ad F ρ xs vs → bolsOf xs = some ys → vs = ys.map V.bl
  | _, _, _, .nil, e => by simp only [bolsOf] at e; cases e; rfl
  | x :: xs, _, _, .cons r t, e => by
    cases r <;> simp only [bolsOf] at e <;> try cases e
    cases q : bolsOf xs with
    | none => rw [q] at e; cases e
    | some zs => rw [q] at e; cases e; rw [bols_rp t q]; rfl
theorem rps_strs : ∀ {ys : List Str}, Rps K ad F ρ (ys.map Val.str) (ys.map V.str)
  | [] => .nil
  | y :: ys => .cons (.str y) rps_strs
theorem strsOf_map : ∀ {ys : List Str}, strsOf (ys.map Val.str) = some ys
  | [] => rfl
  | y :: ys => by simp only [List.map_cons, strsOf, strsOf_map]; rfl
theorem bolsOf_map : ∀ {ys : List Bool}, bolsOf (ys.map Val.bl) = some ys
  | [] => rfl
  | y :: ys => by simp only [List.map_cons, bolsOf, bolsOf_map]; rfl

/-! ### len, abs, max, min, int, str, tuple, list, all -/
def bLen : BF := fun xs S => match xs with
  | [.str z] => if z.length ≤ sizeLine then .ok (.int z.length) S else .stuck
  | [x] => match seqOf S x with
    | some ys => .ok (.int ys.length) S
    | none => .stuck
  | _ => .stuck
theorem s_len : CallS K ad (fun xs H Q => ∃ x n, xs = [x] ∧ LenV K x H n ∧ Q (.int n) H) bLen := by
  intro W F ρ env S σ H xs us Q rs rx q
  unfold bLen at q
  split at q
  · cases rx with
    | cons r1 r2 =>
      cases r1; cases r2
      split at q
      · rename_i hl
        exact ⟨_, _, rfl, ⟨hl, rfl⟩, q.pure rs (.int _)⟩
      · exact q.elim
  · cases rx with
    | cons r1 r2 =>
      cases r2
      split at q
      · rename_i ys e
        obtain ⟨a, vs, e1, h1, r3⟩ := rs.s.seq r1 e
        subst e1
        rw [r3.length] at q
        rcases h1 with h1 | h1
        · exact ⟨_, vs.length, rfl, .inl ⟨vs, h1, rfl⟩, q.pure rs (.int _)⟩
        · exact ⟨_, vs.length, rfl, .inr ⟨vs, h1, rfl⟩, q.pure rs (.int _)⟩
      · exact q.elim
  · exact q.elim
def bAbs : BF := fun xs S => match xs with
  | [.int i] => .ok (.int (if i < 0 then -i else i)) S
  | _ => .stuck
theorem s_abs : CallS K ad (fun xs H Q => ∃ i, xs = [.int i] ∧ Q (.int (if i < 0 then -i else i)) H) bAbs := by
  intro W F ρ env S σ H xs us Q rs rx q
  unfold bAbs at q
  split at q
  · cases rx with
    | cons r1 r2 => cases r1; cases r2; exact ⟨_, rfl, q.pure rs (.int _)⟩
  · exact q.elim
def bMax : BF := fun xs S => match xs with
  | [.int i, .int j] => .ok (.int (if j > i then j else i)) S
  | _ => .stuck
def bMin : BF := fun xs S => match xs with
  | [.int i, .int j] => .ok (.int (if j < i then j else i)) S
  | _ => .stuck
theorem s_max : CallS K ad (fun xs H Q => ∃ i j, xs = [.int i, .int j] ∧ Q (.int (if j > i then j else i)) H) bMax := by
  intro W F ρ env S σ H xs us Q rs rx q
  unfold bMax at q
  split at q
  · cases rx with
    | cons r1 r2 =>
      cases r2 with
      | cons r2 r3 => cases r1; cases r2; cases r3; exact ⟨_, _, rfl, q.pure rs (.int _)⟩
  · exact q.elim
theorem s_min : CallS K ad (fun xs H Q => ∃ i j, xs = [.int i, .int j] ∧ Q (.int (if j < i then j else i)) H) bMin := by
  intro W F ρ env S σ H xs us Q rs rx q
  unfold bMin at q
  split at q
  · cases rx with
    | cons r1 r2 =>
      cases r2 with
      | cons r2 r3 => cases r1; cases r2; cases r3; exact ⟨_, _, rfl, q.pure rs (.int _)⟩
  · exact q.elim
abbrev orL (r r' : List V → Hp → VK → Prop) : List V → Hp → VK → Prop := fun xs H Q => r xs H Q ∨ r' xs H Q
theorem CallR.or {X : Cx} {f : Value} {r r' : List V → Hp → VK → Prop} (h : CallR X f r) (h' : CallR X f r') : CallR X f (orL r r') := fun pins s σ H xs us Q I rx q => q.elim (h pins s σ H xs us Q I rx) (h' pins s σ H xs us Q I rx)
abbrev rInt : List V → Hp → VK → Prop := orL (fun xs H Q => (∃ i, xs = [.int i] ∧ Q (.int i) H) ∨ ∃ k, xs = [.bl k] ∧ Q (.int (if k then 1 else 0)) H) (fun xs H Q => ∃ a n, xs = [.str a] ∧ PySem.intText? a = some n ∧ a.length ≤ 640 ∧ Q (.int n) H)
theorem c_int {X : Cx} : CallR X (.type "int") rInt := CallR.or call_int1 call_int_str
def bInt : BF := fun xs S => match xs with
  | [.int i] => .ok (.int i) S
  | [.bl k] => .ok (.int (if k then 1 else 0)) S
  | [.str a] => match PySem.intText? a with
    | some n => if a.length ≤ 640 then .ok (.int n) S else .stuck
    | none => .stuck
  | _ => .stuck
theorem s_int : CallS K ad rInt bInt := by
  intro W F ρ env S σ H xs us Q rs rx q
  unfold bInt at q
  split at q
  · cases rx with
    | cons r1 r2 => cases r1; cases r2; exact .inl (.inl ⟨_, rfl, q.pure rs (.int _)⟩)
  · cases rx with
    | cons r1 r2 => cases r1; cases r2; exact .inl (.inr ⟨_, rfl, q.pure rs (.int _)⟩)
  · cases rx with
    | cons r1 r2 =>
      cases r1; cases r2
      split at q
      · rename_i n e
        split at q
        · rename_i hl
          exact .inr ⟨_, n, rfl, e, hl, q.pure rs (.int _)⟩
        · exact q.elim
      · exact q.elim
  · exact q.elim
abbrev rStr : List V → Hp → VK → Prop := orL (fun xs H Q => ∃ i, xs = [.int i] ∧ i.natAbs.log2 < 1920 ∧ Q (.str (toString i)) H) (fun xs H Q => ∃ a, xs = [.str a] ∧ Q (.str a) H)
theorem c_str {X : Cx} : CallR X (.type "str") rStr := CallR.or call_str_int SkE.call_str_str
def bStr : BF := fun xs S => match xs with
  | [.int i] => if i.natAbs.log2 < 1920 then .ok (.str (toString i)) S else .stuck
  | [.str a] => .ok (.str a) S
  | _ => .stuck
theorem s_str : CallS K ad rStr bStr := by
  intro W F ρ env S σ H xs us Q rs rx q
  unfold bStr at q
  split at q
  · cases rx with
    | cons r1 r2 =>
      cases r1; cases r2
      split at q
      · rename_i hl
        exact .inl ⟨_, rfl, hl, q.pure rs (.str _)⟩
      · exact q.elim
  · cases rx with
    | cons r1 r2 => cases r1; cases r2; exact .inr ⟨_, rfl, q.pure rs (.str _)⟩
  · exact q.elim
def bTup : BF := fun xs S => match xs with
  | [x] => match seqOf S x with
    | some ys => .ok (.tup ys) S
    | none => .stuck
  | _ => .stuck
theorem s_tup : CallS K ad (fun xs H Q => ∃ p ys, xs = [.ref p] ∧ ((SqL K H p ys ∧ ∀ l, H l = none → Q (.ref l) (upd H l (.tup ys))) ∨ (SqT K H p ys ∧ Q (.ref p) H))) bTup := by
  intro W F ρ env S σ H xs us Q rs rx q
  unfold bTup at q
  split at q
  · rename_i x
    cases rx with
    | cons r1 r2 =>
      cases r2
      split at q
      · rename_i ys e
        by_cases ht : ∃ zs, x = Val.tup zs
        · obtain ⟨zs, hz⟩ := ht
          subst hz
          simp only [seqOf] at e
          cases e
          cases r1 with
          | tup h1 r1 => exact ⟨_, _, rfl, .inr ⟨Sub.tup rs.s.sub h1, q.pure rs (.tup h1 r1)⟩⟩
        · have e' : lstOf S x = some ys := by
            cases x <;> first | exact e | exact absurd ⟨_, rfl⟩ ht
          obtain ⟨a, vs, e1, h1, r3⟩ := rs.s.lst r1 e'
          subst e1
          exact ⟨_, vs, rfl, .inl ⟨h1, q.tup rs r3⟩⟩
      · exact q.elim
  · exact q.elim
def bLst (c : Bool) : BF := fun xs S => match xs with
  | [x] => match seqOf S x with
    | some ys => mkL c ys S
    | none => .stuck
  | _ => .stuck
theorem s_lst {c : Bool} : CallS K ad (fun xs H Q => ∃ p ys, xs = [.ref p] ∧ (SqL K H p ys ∨ SqT K H p ys) ∧ ∀ l, H l = none → Q (.ref l) (upd H l (.lst ys))) (bLst c) := by
  intro W F ρ env S σ H xs us Q rs rx q
  unfold bLst at q
  split at q
  · cases rx with
    | cons r1 r2 =>
      cases r2
      split at q
      · rename_i ys e
        obtain ⟨a, vs, e1, h1, r3⟩ := rs.s.seq r1 e
        subst e1
        exact ⟨_, vs, rfl, h1, q.lst rs r3⟩
      · exact q.elim
  · exact q.elim
def bAll : BF := fun xs S => match xs with
  | [x] => match lstOf S x with
    | some ys => match bolsOf ys with
      | some bs => .ok (.bl (bs.all id)) S
      | none => .stuck
    | none => .stuck
  | _ => .stuck
theorem s_all : CallS K ad (rAll K) bAll := by
  intro W F ρ env S σ H xs us Q rs rx q
  unfold bAll at q
  split at q
  · cases rx with
    | cons r1 r2 =>
      cases r2
      split at q
      · rename_i ys e
        split at q
        · rename_i bs e2
          obtain ⟨a, vs, e1, h1, r3⟩ := rs.s.lst r1 e
          subst e1
          rw [bols_rp r3 e2] at h1
          exact ⟨_, bs, rfl, h1, q.pure rs (.bl _)⟩
        · exact q.elim
      · exact q.elim
  · exact q.elim
end

/-! ### methods of texts -/
abbrev MF := Val → List Val → Store → Res Val
def MetS (K : PySem.W.Frag) (ad : Ads) (r : V → List V → Hp → VK → Prop) (f : MF) : Prop :=
  ∀ W F ρ env S σ H x u xs us Q, RS K ad F ρ env S σ H → Rp K ad F ρ x u → Rps K ad F ρ xs us → Aft K ad (Rp K ad) W F ρ env σ (f x xs S) Q → r u us H Q
def eM0 (f : MF) (o : EF) : EF := fun env S => (o env S).bind fun x S1 => match x with
  | .str _ => f x [] S1
  | _ => .stuck
def eM1 (f : MF) (o a : EF) : EF := fun env S => (o env S).bind fun x S1 => match x with
  | .str _ => (a env S1).bind fun y S2 => f x [y] S2
  | _ => .stuck
section
variable {X : Cx} {ad : Ads} {W : WX} {o e : Expr} {fo fe : EF} {name : Str} {id : String} {apos pos : Pos} {r : V → List V → Hp → VK → Prop} {f : MF}
theorem g_m0 (slot : Slot "str" name id) (ty : typeOf (.builtin id) = pure (.type "method_descriptor")) (rule : MtR X id r) (hs : MetS X.K ad r f) (ho : GE X ad W o fo)
    (hbase : attributeBase o name X.env (eval o X.env) = eval o X.env := by rfl) (hline : (apos.endLine == pos.line) = true := by rfl) : GE X ad W (.Call (.Attribute o name apos) [] [] pos) (eM0 f fo) := by
  refine g_of (pe_m0 slot ty rule ho.run hbase hline) fun F ρ env S σ H Q rs q => ⟨F, ρ, env, S, rs, Aft.bind q fun F1 ρ1 S1 x u H1 l1 rs1 rx q1 => ?_⟩
  cases rx <;> first | exact q1.elim | skip
  exact ⟨⟨_, rfl⟩, hs W F1 ρ1 env S1 σ H1 _ _ [] [] Q rs1 (.str _) .nil q1⟩
theorem g_m1 (slot : Slot "str" name id) (ty : typeOf (.builtin id) = pure (.type "method_descriptor")) (rule : MtR X id r) (hs : MetS X.K ad r f) (ho : GE X ad W o fo) (he : GE X ad W e fe) (hst : starEach [e] X.env = [(false, eval e X.env)] := by rfl)
    (hbase : attributeBase o name X.env (eval o X.env) = eval o X.env := by rfl) (hline : (apos.endLine == pos.line) = true := by rfl) : GE X ad W (.Call (.Attribute o name apos) [e] [] pos) (eM1 f fo fe) := by
  refine g_of (pe_m1 slot ty rule ho.run he.run hst hbase hline) fun F ρ env S σ H Q rs q => ⟨F, ρ, env, S, rs, Aft.bind q fun F1 ρ1 S1 x u H1 l1 rs1 rx q1 => ?_⟩
  cases rx <;> first | exact q1.elim | skip
  refine ⟨⟨_, rfl⟩, F1, ρ1, env, S1, rs1, Aft.bind q1 fun F2 ρ2 S2 y v H2 l2 rs2 ry q2 => ?_⟩
  exact hs W F2 ρ2 env S2 σ H2 _ _ [y] [v] Q rs2 (.str _) (.cons ry .nil) q2
end
section
variable {K : PySem.W.Frag} {ad : Ads}
def mS (C : Str → Str → Bool) (g : Str → Str → Val) : MF := fun x xs S => match x, xs with
  | .str a, [.str b] => if C a b then .ok (g a b) S else .stuck
  | _, _ => .stuck
def mJoin : MF := fun x xs S => match x, xs with
  | .str a, [y] => match seqOf S y with
    | some zs => match strsOf zs with
      | some ys => if (ys.map (·.length)).sum + ys.length * a.length ≤ 16777216 then .ok (.str (Txt.join a ys)) S else .stuck
      | none => .stuck
    | none => .stuck
  | _, _ => .stuck
theorem s_join : MetS K ad (fun x xs H Q => ∃ a p, ∃ ys : List Str, x = .str a ∧ xs = [.ref p] ∧ (SqL K H p (ys.map V.str) ∨ SqT K H p (ys.map V.str)) ∧ (ys.map (·.length)).sum + ys.length * a.length ≤ 16777216 ∧ Q (.str (Txt.join a ys)) H) mJoin := by
  intro W F ρ env S σ H x u xs us Q rs rx rxs q
  unfold mJoin at q
  split at q
  · cases rx
    cases rxs with
    | cons r1 r2 =>
      cases r2
      split at q
      · rename_i zs e
        split at q
        · rename_i ys e2
          split at q
          · rename_i hl
            obtain ⟨a, vs, e1, h1, r3⟩ := rs.s.seq r1 e
            subst e1
            rw [strs_rp r3 e2] at h1
            exact ⟨_, _, ys, rfl, rfl, h1, hl, q.pure rs (.str _)⟩
          · exact q.elim
        · exact q.elim
      · exact q.elim
  · exact q.elim
def mSplit (c : Bool) : MF := fun x xs S => match x, xs with
  | .str a, [.str b] => if (b.length == 0) = false ∧ a.length + 2 ≤ sizeLine then mkL c ((Txt.split a b).map Val.str) S else .stuck
  | _, _ => .stuck
theorem s_split {c : Bool} : MetS K ad (fun x xs H Q => ∃ a b, x = .str a ∧ xs = [.str b] ∧ (b.length == 0) = false ∧ a.length + 2 ≤ sizeLine ∧ rNewStrs (Txt.split a b) H Q) (mSplit c) := by
  intro W F ρ env S σ H x u xs us Q rs rx rxs q
  unfold mSplit at q
  split at q
  · cases rx
    cases rxs with
    | cons r1 r2 =>
      cases r1; cases r2
      split at q
      · rename_i hl
        exact ⟨_, _, rfl, rfl, hl.1, hl.2, q.lst rs rps_strs⟩
      · exact q.elim
  · exact q.elim
def mPart : MF := fun x xs S => match x, xs with
  | .str a, [.str b] => if (b.length == 0) = false ∧ a.length ≤ sizeLine then .ok (.tup [.str (Txt.partition a b).1, .str (Txt.partition a b).2.1, .str (Txt.partition a b).2.2]) S else .stuck
  | _, _ => .stuck
theorem s_part : MetS K ad (fun x xs H Q => ∃ a b, x = .str a ∧ xs = [.str b] ∧ (b.length == 0) = false ∧ a.length ≤ sizeLine ∧
    ∀ p, H p = none → Q (.ref p) (upd H p (.tup [.str (Txt.partition a b).1, .str (Txt.partition a b).2.1, .str (Txt.partition a b).2.2]))) mPart := by
  intro W F ρ env S σ H x u xs us Q rs rx rxs q
  unfold mPart at q
  split at q
  · cases rx
    cases rxs with
    | cons r1 r2 =>
      cases r1; cases r2
      split at q
      · rename_i hl
        exact ⟨_, _, rfl, rfl, hl.1, hl.2, q.tup rs (.cons (.str _) (.cons (.str _) (.cons (.str _) .nil)))⟩
      · exact q.elim
  · exact q.elim
theorem s_mSB {g : Str → Str → Bool} : MetS K ad (fun x xs H Q => ∃ a b, x = .str a ∧ xs = [.str b] ∧ Q (.bl (g a b)) H) (mS (fun _ _ => true) fun a b => .bl (g a b)) := by
  intro W F ρ env S σ H x u xs us Q rs rx rxs q
  unfold mS at q
  split at q
  · cases rx
    cases rxs with
    | cons r1 r2 => cases r1; cases r2; exact ⟨_, _, rfl, rfl, q.pure rs (.bl _)⟩
  · exact q.elim
theorem s_mSL {g : Str → Str → Str} : MetS K ad (fun x xs H Q => ∃ a b, x = .str a ∧ xs = [.str b] ∧ a.length ≤ sizeLine ∧ Q (.str (g a b)) H) (mS (fun a _ => decide (a.length ≤ sizeLine)) fun a b => .str (g a b)) := by
  intro W F ρ env S σ H x u xs us Q rs rx rxs q
  unfold mS at q
  split at q
  · cases rx
    cases rxs with
    | cons r1 r2 =>
      cases r1; cases r2
      split at q
      · rename_i hl
        exact ⟨_, _, rfl, rfl, of_decide_eq_true hl, q.pure rs (.str _)⟩
      · exact q.elim
  · exact q.elim
end

/-! ### methods of lists that are cells -/
def mAppend : MF := fun x xs S => match x, xs with
  | .ref i, [y] => match S[i]? with
    | some (true, .lst ys) => if ys.length < sizeLine then .ok .non (S.set i (true, .lst (ys ++ [y]))) else .stuck
    | _ => .stuck
  | _, _ => .stuck
def mPopAt : MF := fun x xs S => match x, xs with
  | .ref i, [.int k] => match S[i]? with
    | some (true, .lst ys) => if -(2 ^ 63) ≤ k ∧ k < 2 ^ 63 then (match seqIndex? k ys.length with
      | some j => match ys[j]? with
        | some y => .ok y (S.set i (true, .lst (ys.eraseIdx j)))
        | none => .stuck
      | none => .stuck) else .stuck
    | _ => .stuck
  | _, _ => .stuck
section
variable {K : PySem.W.Frag} {ad : Ads}
theorem s_append : MetS K ad rAppend mAppend := by
  intro W F ρ env S σ H x u xs us Q rs rx rxs q
  unfold mAppend at q
  split at q
  · cases rx with
    | ref hr =>
      cases rxs with
      | cons r1 r2 =>
        cases r2
        split at q
        · rename_i ys hs
          split at q
          · rename_i hl
            obtain ⟨a, o', e1, ⟨vs, e2, r3⟩, e3, _⟩ := rs.s.cel _ _ _ hs
            subst e2
            rw [hr] at e1; cases e1
            exact ⟨_, vs, _, rfl, rfl, (e3 rfl).1, by rw [← r3.length]; exact hl, q.pure (rs.put hs hr ⟨_, rfl, r3.append (.cons r1 .nil)⟩) .non⟩
          · exact q.elim
        · exact q.elim
  · exact q.elim
theorem s_popAt : MetS K ad rPopAt mPopAt := by
  intro W F ρ env S σ H x u xs us Q rs rx rxs q
  unfold mPopAt at q
  split at q
  · cases rx with
    | ref hr =>
      cases rxs with
      | cons r1 r2 =>
        cases r1; cases r2
        split at q
        · rename_i ys hs
          split at q
          · rename_i hk
            split at q
            · rename_i j hj
              split at q
              · rename_i y hy
                obtain ⟨a, o', e1, ⟨vs, e2, r3⟩, e3, _⟩ := rs.s.cel _ _ _ hs
                subst e2
                rw [hr] at e1; cases e1
                obtain ⟨w, hw, rw'⟩ := r3.get hy
                exact ⟨_, vs, _, j, w, rfl, rfl, (e3 rfl).1, hk.1, hk.2, by rw [← r3.length]; exact hj, hw, q.pure (rs.put hs hr ⟨_, rfl, r3.eraseIdx j⟩) rw'⟩
              · exact q.elim
            · exact q.elim
          · exact q.elim
        · exact q.elim
  · exact q.elim
end
def eBM (f : MF) (o : EF) (a : AF) : EF := fun env S => (o env S).bind fun x S1 => match lstOf S1 x with
  | some _ => (a env S1).bind fun xs S2 => f x xs S2
  | none => .stuck
section
variable {X : Cx} {ad : Ads} {W : WX} {o e : Expr} {es : List Expr} {fo : EF} {a : AF} {name : Str} {id : String} {apos cpos : Pos} {r : V → List V → Hp → VK → Prop} {f : MF}
theorem g_bmL (pa : PlainAttrs "list") (slot : Slot "list" name id) (hty : typeOf (.builtin id) = pure (.type "method_descriptor")) (hm : MtR X id r) (hs : MetS X.K ad r f) (ho : GE X ad W o fo) (ha : GA X ad W (e :: es) a)
    (hbase : attributeBase o name X.env (eval o X.env) = eval o X.env := by rfl)
    (hfew : ((backTo cpos (starEach (e :: es) X.env)).all (fun x => !x.1) && (backToKw cpos (keywordEach [] X.env)).all (fun x => x.1.isSome)
      && decide ((e :: es).length + ([] : List Keyword).length + (if ([] : List Keyword).isEmpty then 0 else 1) < 30)) = true := by rfl)
    (hline : (apos.endLine == cpos.line) = true := by rfl) (hst : starEach (e :: es) X.env = (false, eval e X.env) :: starEach es X.env := by rfl) (hplain : (backTo cpos (starEach es X.env)).any (·.1) = false := by rfl) :
    GE X ad W (.Call (.Attribute o name apos) (e :: es) [] cpos) (eBM f fo a) := by
  refine g_of (pe_bm pa slot hty hm ho.run ha.run hbase hfew hline hst hplain) fun F ρ env S σ H Q rs q => ⟨F, ρ, env, S, rs, Aft.bind q fun F1 ρ1 S1 x u H1 l1 rs1 rx q1 => ?_⟩
  split at q1
  · rename_i xs e
    obtain ⟨b, vs, e1, h1, r1⟩ := rs1.s.lst rx e
    subst e1
    refine ⟨.inl ⟨rfl, vs, h1⟩, F1, ρ1, env, S1, rs1, Aft.bind q1 fun F2 ρ2 S2 ys ws H2 l2 rs2 ry q2 => ?_⟩
    exact hs W F2 ρ2 env S2 σ H2 _ _ ys ws Q rs2 (rx.mono l2) ry q2
  · exact q1.elim
end
end Fl
namespace Fl
open PySem PySem.Spec L2
open PyProof.Rows hiding St

/-! ### short words -/
section
variable {X : Cx} {ad : Ads} {W : WX} {pos p apos : Pos} {a b : Expr} {fa fb : EF} {k : Nat}
theorem g_add (ha : GE X ad W a fa) (hb : GE X ad W b fb) : GE X ad W (.BinOp a .Add b pos) (e2 vAdd fa fb) := g_op o_add s_add ha hb
theorem g_cat (ha : GE X ad W a fa) (hb : GE X ad W b fb) : GE X ad W (.BinOp a .Add b pos) (e2 vCat fa fb) := g_op op_cat s_cat ha hb
theorem g_sub (ha : GE X ad W a fa) (hb : GE X ad W b fb) : GE X ad W (.BinOp a .Sub b pos) (e2 vSub fa fb) := g_op op_sub s_I0 ha hb
theorem g_mul (ha : GE X ad W a fa) (hb : GE X ad W b fb) : GE X ad W (.BinOp a .Mult b pos) (e2 vMul fa fb) := g_op o_mul s_mul ha hb
theorem g_fdiv (ha : GE X ad W a fa) (hb : GE X ad W b fb) : GE X ad W (.BinOp a .FloorDiv b pos) (e2 vFdiv fa fb) := g_op op_fdiv (s_I fun i j h => show 0 < j ∧ j < 1073741824 from of_decide_eq_true h) ha hb
theorem g_mod (ha : GE X ad W a fa) (hb : GE X ad W b fb) : GE X ad W (.BinOp a .Mod b pos) (e2 vMod fa fb) := g_op op_mod (s_I fun i j h => of_decide_eq_true h) ha hb
theorem g_pow (ha : GE X ad W a fa) (hb : GE X ad W b fb) : GE X ad W (.BinOp a .Pow b pos) (e2 vPow fa fb) := g_op op_pow (s_I fun i j h => show 0 ≤ j ∧ j ≤ 1000000 ∧ i.natAbs < 2 ^ 64 from of_decide_eq_true h) ha hb
theorem g_lt (ha : GE X ad W a fa) (hb : GE X ad W b fb) : GE X ad W (.Compare a [.Lt] [b] pos) (e2 vLt fa fb) := g_cmp op_lt s_IB (nomark _) ha hb
theorem g_le (ha : GE X ad W a fa) (hb : GE X ad W b fb) : GE X ad W (.Compare a [.LtE] [b] pos) (e2 vLe fa fb) := g_cmp op_le s_IB (nomark _) ha hb
theorem g_gt (ha : GE X ad W a fa) (hb : GE X ad W b fb) : GE X ad W (.Compare a [.Gt] [b] pos) (e2 vGt fa fb) := g_cmp op_gt s_IB (nomark _) ha hb
theorem g_ge (ha : GE X ad W a fa) (hb : GE X ad W b fb) : GE X ad W (.Compare a [.GtE] [b] pos) (e2 vGe fa fb) := g_cmp op_ge s_IB (nomark _) ha hb
theorem g_eq (hr : Room k X.A) (ha : GE X ad W a fa) (hb : GE X ad W b fb) : GE X ad W (.Compare a [.Eq] [b] pos) (e2 vEq fa fb) := g_cmp (op_eqD hr.units) s_eq (nomark _) ha hb
theorem g_ne (hr : Room k X.A) (ha : GE X ad W a fa) (hb : GE X ad W b fb) : GE X ad W (.Compare a [.NotEq] [b] pos) (e2 vNe fa fb) := g_cmp (op_neD hr.units) s_ne (nomark _) ha hb
theorem g_isN (ha : GE X ad W a fa) (hb : GE X ad W b fb) : GE X ad W (.Compare a [.Is] [b] pos) (e2 vIsN fa fb) := g_cmp op_isN s_isN (nomark _) ha hb
theorem g_notN (ha : GE X ad W a fa) (hb : GE X ad W b fb) : GE X ad W (.Compare a [.IsNot] [b] pos) (e2 vNotN fa fb) := g_cmp op_notN s_notN (nomark _) ha hb
theorem g_in (ha : GE X ad W a fa) (hb : GE X ad W b fb) (hm : behindInMarks .In b = false := by rfl) : GE X ad W (.Compare a [.In] [b] pos) (e2 (vIn false) fa fb) := g_cmp o_in s_in hm ha hb
theorem g_notIn (ha : GE X ad W a fa) (hb : GE X ad W b fb) (hm : behindInMarks .NotIn b = false := by rfl) : GE X ad W (.Compare a [.NotIn] [b] pos) (e2 (vIn true) fa fb) := g_cmp o_notIn s_in hm ha hb
theorem t_lt (ha : GE X ad W a fa) (hb : GE X ad W b fb) : GT X ad W (.Compare a [.Lt] [b] pos) (eBool (e2 vLt fa fb)) := gt_cmp op_lt s_IB (nomark _) ha hb
theorem t_le (ha : GE X ad W a fa) (hb : GE X ad W b fb) : GT X ad W (.Compare a [.LtE] [b] pos) (eBool (e2 vLe fa fb)) := gt_cmp op_le s_IB (nomark _) ha hb
theorem t_gt (ha : GE X ad W a fa) (hb : GE X ad W b fb) : GT X ad W (.Compare a [.Gt] [b] pos) (eBool (e2 vGt fa fb)) := gt_cmp op_gt s_IB (nomark _) ha hb
theorem t_ge (ha : GE X ad W a fa) (hb : GE X ad W b fb) : GT X ad W (.Compare a [.GtE] [b] pos) (eBool (e2 vGe fa fb)) := gt_cmp op_ge s_IB (nomark _) ha hb
theorem t_eq (hr : Room k X.A) (ha : GE X ad W a fa) (hb : GE X ad W b fb) : GT X ad W (.Compare a [.Eq] [b] pos) (eBool (e2 vEq fa fb)) := gt_cmp (op_eqD hr.units) s_eq (nomark _) ha hb
theorem t_ne (hr : Room k X.A) (ha : GE X ad W a fa) (hb : GE X ad W b fb) : GT X ad W (.Compare a [.NotEq] [b] pos) (eBool (e2 vNe fa fb)) := gt_cmp (op_neD hr.units) s_ne (nomark _) ha hb
theorem t_isN (ha : GE X ad W a fa) (hb : GE X ad W b fb) : GT X ad W (.Compare a [.Is] [b] pos) (eBool (e2 vIsN fa fb)) := gt_cmp op_isN s_isN (nomark _) ha hb
theorem t_notN (ha : GE X ad W a fa) (hb : GE X ad W b fb) : GT X ad W (.Compare a [.IsNot] [b] pos) (eBool (e2 vNotN fa fb)) := gt_cmp op_notN s_notN (nomark _) ha hb
theorem t_in (ha : GE X ad W a fa) (hb : GE X ad W b fb) (hm : behindInMarks .In b = false := by rfl) : GT X ad W (.Compare a [.In] [b] pos) (eBool (e2 (vIn false) fa fb)) := gt_cmp o_in s_in hm ha hb
theorem t_notIn (ha : GE X ad W a fa) (hb : GE X ad W b fb) (hm : behindInMarks .NotIn b = false := by rfl) : GT X ad W (.Compare a [.NotIn] [b] pos) (eBool (e2 (vIn true) fa fb)) := gt_cmp o_notIn s_in hm ha hb
/-! methods of texts -/
theorem g_join (ha : GE X ad W a fa) (hb : GE X ad W b fb) (hst : starEach [b] X.env = [(false, eval b X.env)] := by rfl) (hbase : attributeBase a "join" X.env (eval a X.env) = eval a X.env := by rfl) (hline : (apos.endLine == pos.line) = true := by rfl) :
    GE X ad W (.Call (.Attribute a "join" apos) [b] [] pos) (eM1 mJoin fa fb) := g_m1 PySem.F.slot_str_join PySem.F.type_str_join mt_join s_join ha hb hst hbase hline
theorem g_split (c : Bool) (ha : GE X ad W a fa) (hb : GE X ad W b fb) (hst : starEach [b] X.env = [(false, eval b X.env)] := by rfl) (hbase : attributeBase a "split" X.env (eval a X.env) = eval a X.env := by rfl) (hline : (apos.endLine == pos.line) = true := by rfl) :
    GE X ad W (.Call (.Attribute a "split" apos) [b] [] pos) (eM1 (mSplit c) fa fb) := g_m1 PySem.F.slot_str_split PySem.F.type_str_split mt_split s_split ha hb hst hbase hline
theorem g_partition (ha : GE X ad W a fa) (hb : GE X ad W b fb) (hst : starEach [b] X.env = [(false, eval b X.env)] := by rfl) (hbase : attributeBase a "partition" X.env (eval a X.env) = eval a X.env := by rfl) (hline : (apos.endLine == pos.line) = true := by rfl) :
    GE X ad W (.Call (.Attribute a "partition" apos) [b] [] pos) (eM1 mPart fa fb) := g_m1 PySem.F.slot_str_partition PySem.F.type_str_partition mt_partition s_part ha hb hst hbase hline
theorem g_startswith (ha : GE X ad W a fa) (hb : GE X ad W b fb) (hst : starEach [b] X.env = [(false, eval b X.env)] := by rfl) (hbase : attributeBase a "startswith" X.env (eval a X.env) = eval a X.env := by rfl) (hline : (apos.endLine == pos.line) = true := by rfl) :
    GE X ad W (.Call (.Attribute a "startswith" apos) [b] [] pos) (eM1 (mS (fun _ _ => true) fun a b => .bl (Txt.startswith a b)) fa fb) := g_m1 PySem.F.slot_str_startswith PySem.F.type_str_startswith mt_startswith s_mSB ha hb hst hbase hline
theorem g_removeprefix (ha : GE X ad W a fa) (hb : GE X ad W b fb) (hst : starEach [b] X.env = [(false, eval b X.env)] := by rfl) (hbase : attributeBase a "removeprefix" X.env (eval a X.env) = eval a X.env := by rfl) (hline : (apos.endLine == pos.line) = true := by rfl) :
    GE X ad W (.Call (.Attribute a "removeprefix" apos) [b] [] pos) (eM1 (mS (fun a _ => decide (a.length ≤ sizeLine)) fun a b => .str (Txt.removeprefix a b)) fa fb) := g_m1 PySem.F.slot_str_removeprefix PySem.F.type_str_removeprefix mt_removeprefix s_mSL ha hb hst hbase hline
theorem g_removesuffix (ha : GE X ad W a fa) (hb : GE X ad W b fb) (hst : starEach [b] X.env = [(false, eval b X.env)] := by rfl) (hbase : attributeBase a "removesuffix" X.env (eval a X.env) = eval a X.env := by rfl) (hline : (apos.endLine == pos.line) = true := by rfl) :
    GE X ad W (.Call (.Attribute a "removesuffix" apos) [b] [] pos) (eM1 (mS (fun a _ => decide (a.length ≤ sizeLine)) fun a b => .str (Txt.removesuffix a b)) fa fb) := g_m1 PySem.F.slot_str_removesuffix PySem.F.type_str_removesuffix mt_removesuffix s_mSL ha hb hst hbase hline
end
section
variable {X : Cx} {ad : Ads} {W : WX} {pos p apos px py pt : Pos} {o e a b : Expr} {es : List Expr} {fo : EF} {g : AF} {k : Nat}
theorem g_append (ho : GE X ad W o fo) (ha : GA X ad W (e :: es) g) (hbase : attributeBase o "append" X.env (eval o X.env) = eval o X.env := by rfl)
    (hfew : ((backTo pos (starEach (e :: es) X.env)).all (fun x => !x.1) && (backToKw pos (keywordEach [] X.env)).all (fun x => x.1.isSome)
      && decide ((e :: es).length + ([] : List Keyword).length + (if ([] : List Keyword).isEmpty then 0 else 1) < 30)) = true := by rfl)
    (hline : (apos.endLine == pos.line) = true := by rfl) (hst : starEach (e :: es) X.env = (false, eval e X.env) :: starEach es X.env := by rfl) (hplain : (backTo pos (starEach es X.env)).any (·.1) = false := by rfl) :
    GE X ad W (.Call (.Attribute o "append" apos) (e :: es) [] pos) (eBM mAppend fo g) := g_bmL PySem.F.plainAttrs_list PySem.F.slot_list_append PySem.F.type_list_append mt_append s_append ho ha hbase hfew hline hst hplain
theorem g_popAt (ho : GE X ad W o fo) (ha : GA X ad W (e :: es) g) (hbase : attributeBase o "pop" X.env (eval o X.env) = eval o X.env := by rfl)
    (hfew : ((backTo pos (starEach (e :: es) X.env)).all (fun x => !x.1) && (backToKw pos (keywordEach [] X.env)).all (fun x => x.1.isSome)
      && decide ((e :: es).length + ([] : List Keyword).length + (if ([] : List Keyword).isEmpty then 0 else 1) < 30)) = true := by rfl)
    (hline : (apos.endLine == pos.line) = true := by rfl) (hst : starEach (e :: es) X.env = (false, eval e X.env) :: starEach es X.env := by rfl) (hplain : (backTo pos (starEach es X.env)).any (·.1) = false := by rfl) :
    GE X ad W (.Call (.Attribute o "pop" apos) (e :: es) [] pos) (eBM mPopAt fo g) := g_bmL PySem.F.plainAttrs_list PySem.F.slot_list_pop PySem.F.type_list_pop mt_popAt s_popAt ho ha hbase hfew hline hst hplain
/-- x, y = a, b -/
def sPar (i j : Nat) (g : AF) : SF := fun env S => (g env S).go env fun xs S1 => match xs with
  | [x, y] => .nx ((env.set i (some x)).set j (some y)) S1
  | _ => .stuck
theorem gs_par {i j : Nat} {x y : Str} {kt k2 pt2} (hc : X.calm = true) (hN : X.N.Nodup) (hi : X.N[i]? = some x) (hj : X.N[j]? = some y) (hij : i ≠ j)
    (hx : X.env.scope.names.lookup x = some .local) (hy : X.env.scope.names.lookup y = some .local) (ha : GA X ad W [a, b] g)
    (hw : swappedStores [.Tuple [.Name x px, .Name y py] kt pt] (.Tuple [a, b] k2 pt2) X.env = pure (some [x, y]))
    (hs : swapsWithSole [.Tuple [.Name x px, .Name y py] kt pt] (.Tuple [a, b] k2 pt2) pos.line X.env = pure false := by rfl) :
    GS X ad W (.Assign [.Tuple [.Name x px, .Name y py] kt pt] (.Tuple [a, b] k2 pt2) pos) (sPar i j g) := by
  refine gs_of (ps_par hc hN hi hj hij hx hy ha.run hw hs) fun F ρ env S σ H D rs q => ⟨F, ρ, env, S, rs, AftS.go q fun F1 ρ1 S1 xs us H1 l1 rs1 rx q1 => ?_⟩
  split at q1
  · cases rx with
    | cons r1 r2 =>
      cases r2 with
      | cons r2 r3 =>
        cases r3
        exact ⟨_, _, rfl, q1 F1 ρ1 _ H1 .refl ((rs1.set r1).set r2)⟩
  · exact q1.elim
end
end Fl
/-! a, *b = xs -/
namespace Fl
section
open PySem PySem.W PySem.Spec PySem.Calls PyProof.Rows
variable {prog : Program} {w : World} {A : Around} {E : Value → Shared → Prop} {s : Shared} {env : PySem.Env} {elts : List Expr} {k : Nat} {pos : Pos}
theorem star_list {l : Addr} {items : Array Value} {n i : Nat} {Q : List Value → Shared → Prop} (hl : s.heap.IsList l items) (hh : A.handled = none) (hi : i < n) (hn : n ≤ items.size + 1) (hz : items.size ≤ 16384)
    (h : ∀ h' tk, Heap.ExtBut s.heap.objs.size s.heap h' → Q (items.toList.take i ++ [.ref h'.objs.size] ++ (items.toList.drop i).drop (items.size + 1 - n)) { s with heap := h'.push { cls := .type "list", data := .seq ((items.toList.drop i).take (items.size + 1 - n)).toArray 0 }, toks := tk }) :
    wpAny (model prog w) A (unpackItems (.ref l) n (some i)) Q E s := by
  have hlt : l ≠ s.heap.objs.size := by obtain ⟨o, ho, _⟩ := hl; exact Nat.ne_of_lt (Heap.lt_size ho)
  unfold unpackItems
  refine wpAny_bind ?_
  unfold notIterableAtAll
  refine wpAny_bind (wpAny_specialOf hl.typeIs slot_list_iter.lookup ?_)
  refine wpAny_pure ?_
  simp only [Bool.false_eq_true, if_false]
  refine wpAny_bind (wpAny_holding (wpAny_pyIter_list hl ?_))
  refine wpAny_bind (wpAny_holding (kun_draw hlt i 0 _ _ ⟨_, Heap.get?_push_size _ rfl, rfl, rfl⟩ (hl.push _) (by omega) fun h₁ hit₁ hs₁ => ?_))
  have hl₁ : h₁.IsList l items := (hl.push _).extBut hs₁.extBut hlt
  rw [Nat.zero_add] at hit₁
  have hit₁' := hit₁
  obtain ⟨oi, hoi, _⟩ := hit₁'
  have hl₁' := hl₁
  obtain ⟨ol, hol, _⟩ := hl₁'
  rw [List.drop_zero]
  have hfl : (items.toList.take i).length = i := by rw [List.length_take, Array.length_toList]; omega
  rw [if_neg (show ¬ ((items.toList.take i).length < i) by rw [hfl]; omega)]
  refine wpAny_bind (wpAny_holding (kun_collect (s := { s with heap := h₁ }) (T := "list_iterator") (.inr (.inr (.inl rfl))) (Walks.list (A := A.in1) hh s.heap.objs.size l hlt items) (fun j u st => st.1.typeIs) (k := i) (by omega) ⟨hit₁, hl₁⟩ (Heap.lt_size hoi) (Heap.lt_size hol) (fun h₂ tk hk => ?_) (by rw [sizeLine_eq]; omega)))
  have hrl : (items.toList.drop i).length = items.size - i := by rw [List.length_drop, Array.length_toList]
  have hmid : (items.toList.drop i).length - (n - 1 - i) = items.size + 1 - n := by rw [hrl]; omega
  show wpAny _ _ (if (items.toList.drop i).length < n - 1 - i then _ else _) _ _ _
  rw [if_neg (by rw [hrl]; omega)]
  show wpAny _ _ (newList ((items.toList.drop i).take ((items.toList.drop i).length - (n - 1 - i))) >>= fun d => pure (items.toList.take i ++ [d] ++ (items.toList.drop i).drop ((items.toList.drop i).length - (n - 1 - i)))) _ _ _
  rw [hmid]
  have he : Heap.ExtBut s.heap.objs.size s.heap h₂ := fun b o hb e => hk b o hb (hs₁.extBut b o hb (Heap.get?_push_of_some _ e))
  refine wpAny_bind (wpAny_newObj_type (wpAny_pure (h h₂ tk he)) ?_)
  show ((items.toList.drop i).take (items.size + 1 - n)).length ≤ sizeLine
  rw [List.length_take, hrl, sizeLine_eq]
  omega
end
section
open PySem PySem.Spec L2
open PyProof.Rows hiding St
/-- a, .., *m, .., z = a list -/
def gStar (K : PySem.W.Frag) (n i : Nat) (t : TGs) : TG := fun v σ H Q => ∃ a xs, v = .ref a ∧ SqL K H a xs ∧ n ≤ xs.length + 1 ∧ xs.length ≤ 16384 ∧
  ∀ p, H p = none → t (xs.take i ++ [.ref p] ++ (xs.drop i).drop (xs.length + 1 - n)) σ (upd H p (.lst ((xs.drop i).take (xs.length + 1 - n)))) Q
theorem pgs_star {X : Cx} {e : Expr} {p : Pos} {es : List Expr} {t : TG} {u : TGs} (h1 : PG X e t) (h2 : PGs X es u)
    (hs : (assignEach (.Starred e p :: es) X.env).map (·.2) = assign e X.env :: (assignEach es X.env).map (·.2) := by rfl) : PGs X (.Starred e p :: es) (gCons t u) := by
  refine ⟨fun pins s σ H vs us Q I r h => ?_⟩
  obtain ⟨v, vr, e1, h⟩ := h
  subst e1
  cases r with
  | cons r rr =>
    rw [hs]
    refine assignInOrder_cons (thn (h1.run pins s σ H _ _ _ I r h) fun _ s1 ⟨σ1, H1, I1, q1⟩ => ?_)
    exact h2.run pins s1 σ1 H1 _ _ Q I1 rr q1
theorem pg_star {X : Cx} {es : List Expr} {k n i : Nat} {t : TGs} {pos : Pos} (hc : X.calm = true) (hi : i < n) (h : PGs X es t) (hn : (assignEach es X.env).length = n := by rfl) (hst : (assignEach es X.env).findIdx? (·.1) = some i := by rfl) : PG X (.Tuple es k pos) (gStar X.K n i t) := by
  refine ⟨fun pins s σ H v u Q I r hw => ?_⟩
  obtain ⟨a, xs, e1, hq, hl, hz, hw⟩ := hw
  subst e1
  cases r
  obtain ⟨its, rv, pl, _⟩ := I.list hq
  have hlen : its.length = xs.length := rv.length.symm
  rw [PyProof.Rows.assign_Tuple]
  refine wpAny_bind (wpAny_standAt ?_)
  unfold unpack
  rw [hn, hst]
  refine wpAny_bind (wpAny_holding (star_list (items := its.toArray) pl.isList (I.ok.hd hc) hi (by simp [hlen]; omega) (by simp [hlen]; omega) fun h' tk hx => ?_))
  have I1 : Inv X pins σ H { s with heap := h', toks := tk } := I.kept fun b o e => hx b o (Nat.ne_of_lt (Heap.lt_size e)) e
  have hf : H h'.objs.size = none := I1.hok.fresh (Nat.le_refl _)
  have rm : Vals ((xs.drop i).take (xs.length + 1 - n)) ((its.drop i).take (its.length + 1 - n)) := by rw [hlen]; exact (rv.drop i).take _
  have I2 : Inv X pins σ (upd H h'.objs.size (.lst ((xs.drop i).take (xs.length + 1 - n)))) { s with heap := h'.push { cls := .type "list", data := .seq ((its.drop i).take (its.length + 1 - n)).toArray 0 }, toks := tk } :=
    I1.laid (fun b o e => Heap.get?_push_of_some _ e) (Nat.le_refl _) ⟨by rw [List.length_take, sizeLine_eq]; omega, _, 0, rm, Heap.get?_push_size _ rfl⟩
  have rl : Vals (xs.take i ++ [V.ref h'.objs.size] ++ (xs.drop i).drop (xs.length + 1 - n)) (its.take i ++ [Value.ref h'.objs.size] ++ (its.drop i).drop (its.length + 1 - n)) := by
    rw [hlen]
    have r1 : L2.Vals [V.ref h'.objs.size] [Value.ref h'.objs.size] := .cons (show L2.RelV (V.ref h'.objs.size) (Value.ref h'.objs.size) from rfl) .nil
    exact ((rv.take i).append r1).append ((rv.drop i).drop _)
  have := h.run pins _ σ _ _ _ Q I2 rl (hw _ hf)
  simpa using this
/-- the same, as data: the starred name gets a list that stays -/
def tgStar (n i : Nat) (g : List Val → Env → Store → Option Env) : TF := fun x env S => match lstOf S x with
  | some xs => if n ≤ xs.length + 1 ∧ xs.length ≤ 16384 then (match g (xs.take i ++ [.lst ((xs.drop i).take (xs.length + 1 - n))] ++ (xs.drop i).drop (xs.length + 1 - n)) env S with
    | some env' => .ok env' S
    | none => .stuck) else .stuck
  | none => .stuck
variable {X : Cx} {ad : Ads} {W : WX} {vs : List Nat} {pos pos' : Pos}
theorem ggs_star {i : Nat} {x : Str} {es : List Expr} {g} (hN : X.N.Nodup) (hi : X.N[i]? = some x) (hx : Loc X.env.scope x) (hv : i ∈ vs) (h2 : GGs X ad vs es g) (hf : X.fn x = true ∨ X.env.scope.names.lookup x = some .local := by first | exact .inl rfl | exact .inr rfl | assumption)
    (hs : (assignEach (.Starred (.Name x pos) pos' :: es) X.env).map (·.2) = assign (.Name x pos) X.env :: (assignEach es X.env).map (·.2) := by rfl) : GGs X ad vs (.Starred (.Name x pos) pos' :: es) (tgsCons i g) :=
  ⟨(pgs_star (pg_name hN hi hx hf) h2.run hs).imp fun us σ H Q ⟨F, ρ, env, S, xs, rs, rx, env', e, q⟩ => by
    cases rx with
    | nil => simp only [tgsCons] at e; cases e
    | cons a b =>
      simp only [tgsCons] at e
      exact ⟨_, _, rfl, F, ρ, _, S, _, rs.set a, b, env', e, fun σ' rs' hw => q σ' rs' (hw.trans (wipe_set hv))⟩⟩
theorem gg_star {es : List Expr} {k n i : Nat} {g} (hc : X.calm = true) (hi : i < n) (h : GGs X ad vs es g) (hn : (assignEach es X.env).length = n := by rfl) (hst : (assignEach es X.env).findIdx? (·.1) = some i := by rfl) : GG X ad vs W (.Tuple es k pos) (tgStar n i g) := by
  refine ⟨(pg_star hc hi h.run hn hst).imp fun u σ H Q ⟨F, ρ, env, S, x, rs, rx, q⟩ => ?_⟩
  unfold tgStar at q
  split at q
  · rename_i xs e
    split at q
    · rename_i hl
      split at q
      · rename_i env' e2
        obtain ⟨a, ws, e1, h1, r1⟩ := rs.s.lst rx e
        refine ⟨a, ws, e1, h1, by rw [← r1.length]; exact hl.1, by rw [← r1.length]; exact hl.2, fun p hp => ?_⟩
        obtain ⟨rs', l'⟩ := rs.lay (o := .lst ((ws.drop i).take (ws.length + 1 - n))) hp
        have rm := ((r1.drop i).take (ws.length + 1 - n)).mono l'
        refine ⟨_, ρ, env, S, _, rs', (((r1.mono l').take i).append (.cons (.lst upd_same rm) .nil)).append (((r1.mono l').drop i).drop _), env', ?_, fun σ' rs2 hw => q _ ρ σ' _ l' rs2 hw⟩
        rw [← r1.length]
        exact e2
      · exact q.elim
    · exact q.elim
  · exact q.elim
end
end Fl
/-! sorted(xs), xs a list or a tuple of data -/
namespace Fl
section
open PySem PySem.W PySem.Spec PySem.Calls PyProof.Rows
variable {prog : Program} {w : World} {A : Around} {E : Value → Shared → Prop} {s : Shared} {β : Type} {vs : List Value} {bs : List β} {enc : β → PyData} {R : Value → β → Prop}
theorem sorted_seq {l : Addr} {o : Obj} {T : String} {n : Nat} {Q : Value → Shared → Prop} (hT : T = "list" ∨ T = "tuple") (ho : s.heap.get? l = some o) (hc : o.cls = .type T) (hd : o.data = .seq vs.toArray n)
    (e : EachIs R vs bs) (er : EachIs (fun v b => ∃ as, Reads s.heap v (enc b) as) vs bs) (hal : AllAlike (bs.map enc)) (hk : Sortable (bs.map enc)) (hL : bs.length ≤ sizeLine)
    (hu : ∀ b, b ∈ bs → A.units + 2 + (enc b).depth < cLine)
    (h : ∀ (h1 h' : Heap) (out : List Value) (c : Nat), (∀ b o', s.heap.get? b = some o' → h1.get? b = some o') → (∀ b o', h1.get? b = some o' → h'.get? b = some o') → h'.get? h1.objs.size = some (seqObj "list" (List.toArray out) c) → out.length = bs.length → EachIs R out (bs.mergeSort (dataLe false enc)) → Q (.ref h1.objs.size) { s with heap := h' }) :
    wpAny (model prog w) A (call (.builtin "sorted") [.ref l]) Q E s := by
  have hz : vs.length ≤ sizeLine := by rw [e.length]; exact hL
  refine call_function_entry_kw kind_sorted plain_sorted entry_sorted (args_sorted1 _) ?_
  unfold Builtin.«sorted»
  refine wpAny_bind (m := checkCount "sorted" 1 1 _) (wpAny_pure ?_)
  refine wpAny_bind (wpAny_collect_seq l hT ho hc hd (fun h1 k1 => ?_) (by simpa using hz))
  refine wpAny_bind (wpAny_newList ?_ (by simpa using hz))
  have k2 : ∀ b o', s.heap.get? b = some o' → (h1.push (seqObj "list" vs.toArray 0)).get? b = some o' := fun b o' q => Heap.get?_push_of_some _ (k1 b o' q)
  have ha : (h1.push (seqObj "list" vs.toArray 0)).get? h1.objs.size = some (seqObj "list" vs.toArray 0) := Heap.get?_push_size _ rfl
  have er2 : EachIs (fun v b => ∃ as, Reads (sortingHeap (h1.push (seqObj "list" vs.toArray 0)) h1.objs.size vs) v (enc b) as) vs bs := er.mono fun _ _ ⟨as, r⟩ => ⟨as, PyProof.Rows.Reads.keeps (fun b o' q => sortingHeap_old (Nat.ne_of_lt (Heap.lt_size (k1 b o' q))) (k2 b o' q)) r⟩
  show wpAny (model prog w) A.in1 _ _ _ { s with heap := h1.push (seqObj "list" vs.toArray 0) }
  refine wpAny_bind (wpAny_holding (wpAny_call_entry_kw slot_list_sort ⟨_, ha, rfl⟩ entry_list_sort ?body (args_list_sort _)))
  case body =>
    show wpAny (model prog w) A.in1.in1 (Builtin.«list.sort» ⟨[.ref h1.objs.size], []⟩) _ _ _
    refine list_sort_vals (s := { s with heap := h1.push (seqObj "list" vs.toArray 0) }) (κ := dataKind (sortingHeap (h1.push (seqObj "list" vs.toArray 0)) h1.objs.size vs) (bs.map enc)) ha
      (SortsAt.data (s := { s with heap := sortingHeap (h1.push (seqObj "list" vs.toArray 0)) h1.objs.size vs }) (each_map (R := fun v d => ∃ as, Reads (sortingHeap (h1.push (seqObj "list" vs.toArray 0)) h1.objs.size vs) v d as) enc er2) hal hk (bound_map hu)) hz ?_
    refine ⟨_, rfl, wpAny_pure ⟨_, rfl, ?_⟩⟩
    obtain ⟨c, hc2⟩ := sortedHeap_at (out := (sortVals (dataKind (sortingHeap (h1.push (seqObj "list" vs.toArray 0)) h1.objs.size vs) (bs.map enc)) false vs vs).toArray) ha
    refine h h1 _ _ c k1 (fun b o' q => ?_) hc2 (by rw [sortVals_length false rfl]; exact e.length) (sortVals_data false e er2 hal)
    have hb := Heap.lt_size q
    rw [sortedHeap_old (Nat.ne_of_lt hb) (by rw [size_push']; exact Nat.lt_succ_of_lt hb)]
    exact Heap.get?_push_of_some _ q
end
section
open PySem PySem.Spec L2
open PyProof.Rows hiding St
abbrev SV := V × PyData
theorem each_of {X : Cx} {pins : List (Addr × Obj)} {σ : L2.St} {H : Hp} {s : Shared} (I : Inv X pins σ H s) : ∀ {zs : List SV} {us : List Value}, L2.Vals (zs.map (·.1)) us → (∀ z ∈ zs, Dp X.K H z.1 z.2) →
    PySem.W.EachIs (fun u (z : SV) => L2.RelV z.1 u) us zs ∧ PySem.W.EachIs (fun u (z : SV) => ∃ as, Reads s.heap u z.2 as) us zs
  | [], _, r, _ => by cases r; exact ⟨.nil, .nil⟩
  | z :: zs, _, r, hd => by
    cases r with
    | cons r1 r2 =>
      obtain ⟨a, b⟩ := each_of I r2 fun q hq => hd q (List.mem_cons_of_mem _ hq)
      exact ⟨.cons r1 a, .cons (Dp.reads I _ _ _ (hd z List.mem_cons_self) r1) b⟩
theorem vals_of_each : ∀ {zs : List SV} {us : List Value}, PySem.W.EachIs (fun u (z : SV) => L2.RelV z.1 u) us zs → L2.Vals (zs.map (·.1)) us
  | _, _, .nil => .nil
  | _, _, .cons a b => .cons a (vals_of_each b)
/-- by values: the items with what they read as -/
def rSortD (K : PySem.W.Frag) : List V → Hp → VK → Prop := fun xs H Q => ∃ (p : Addr) (zs : List SV), xs = [.ref p] ∧ (SqL K H p (zs.map (·.1)) ∨ SqT K H p (zs.map (·.1))) ∧ (∀ z ∈ zs, Dp K H z.1 z.2) ∧
  PySem.W.AllAlike (zs.map (·.2)) ∧ PySem.W.Sortable (zs.map (·.2)) ∧ zs.length ≤ sizeLine ∧ (∀ z ∈ zs, z.2.depth ≤ 60) ∧
  ∀ q, H q = none → Q (.ref q) (upd H q (.lst ((zs.mergeSort (PySem.W.dataLe false (·.2))).map (·.1))))
theorem cr_sortD {X : Cx} (hu : X.A.units + 64 < cLine) : CallR X (.builtin "sorted") (rSortD X.K) := by
  intro pins s σ H xs us Q I rx h
  obtain ⟨p, zs, rfl, hs, hd, hal, hk, hL, hdep, q⟩ := h
  obtain ⟨u, rfl, rp⟩ := Vals.one rx
  cases rp
  have fin : ∀ {its : List Value} {T : String} {o : Obj} {n : Nat}, L2.Vals (zs.map (·.1)) its → (T = "list" ∨ T = "tuple") → s.heap.get? p = some o → o.cls = .type T → o.data = .seq its.toArray n →
      wpAny (model X.prog X.w) X.A (call (.builtin "sorted") [.ref p]) (EP X pins σ Q) X.xe s := by
    intro its T o n rv hT ho hc hdt
    obtain ⟨e1, e2⟩ := each_of I rv hd
    refine sorted_seq (bs := zs) (enc := (·.2)) (R := fun u (z : SV) => L2.RelV z.1 u) hT ho hc hdt e1 e2 hal hk hL (fun b hb => by have := hdep b hb; omega) fun h1 h' out c k1 k2 hat ho2 eo => ?_
    have I1 : Inv X pins σ H { s with heap := h1 } := I.kept (t' := s.toks) k1
    have rv' := vals_of_each eo
    have hlen : ((zs.mergeSort (PySem.W.dataLe false (·.2))).map (·.1)).length ≤ sizeLine := by rw [List.length_map, List.length_mergeSort]; exact hL
    exact ⟨.ref h1.objs.size, _, I1.laid (o := .lst ((zs.mergeSort (PySem.W.dataLe false (·.2))).map (·.1))) (t' := s.toks) k2 (Nat.le_refl _) ⟨hlen, out, c, rv', hat⟩, rfl, q _ (I1.hok.fresh (Nat.le_refl _))⟩
  rcases hs with hs | hs
  · obtain ⟨its, rv, ⟨o, n, ho, hc, _, hdt⟩, _⟩ := I.list hs
    exact fin rv (.inl rfl) ho hc hdt
  · obtain ⟨its, rv, ⟨o, ho, hc, n, hdt⟩, _⟩ := I.tuple hs
    exact fin rv (.inr rfl) ho hc hdt
/-- sorted, as data -/
def datV (x : Val) : PyData := (toD x).getD .none
def leV (x y : Val) : Bool := PySem.W.dataLe false datV x y
/-- sorted by insertion: it can be reckoned with -/
def insL {α : Type} (le : α → α → Bool) (x : α) : List α → List α
  | [] => [x]
  | y :: ys => if le x y then x :: y :: ys else y :: insL le x ys
def isort {α : Type} (le : α → α → Bool) : List α → List α
  | [] => []
  | x :: xs => insL le x (isort le xs)
section
variable {α : Type} {le : α → α → Bool}
theorem insL_mem {x z : α} : ∀ {l : List α}, z ∈ insL le x l ↔ z = x ∨ z ∈ l
  | [] => by simp [insL]
  | y :: ys => by
    unfold insL
    split
    · simp
    · rw [List.mem_cons, insL_mem, List.mem_cons]
      constructor
      · rintro (h | h | h) <;> simp [h]
      · rintro (h | h | h) <;> simp [h]
theorem insL_sorted (h : PySem.W.TotalLe le) {x : α} : ∀ {l : List α}, l.Pairwise (fun a b => le a b = true) → (insL le x l).Pairwise (fun a b => le a b = true)
  | [], _ => by simp [insL]
  | y :: ys, p => by
    obtain ⟨p1, p2⟩ := List.pairwise_cons.mp p
    unfold insL
    split
    · rename_i hxy
      refine List.pairwise_cons.mpr ⟨fun z hz => ?_, p⟩
      rcases List.mem_cons.mp hz with rfl | hz
      · exact hxy
      · exact h.trans _ _ _ hxy (p1 z hz)
    · rename_i hxy
      refine List.pairwise_cons.mpr ⟨fun z hz => ?_, insL_sorted h p2⟩
      rcases insL_mem.mp hz with rfl | hz
      · rcases h.total z y with q | q
        · exact absurd q hxy
        · exact q
      · exact p1 z hz
theorem insL_filter (h : PySem.W.TotalLe le) (c x : α) : ∀ {l : List α}, l.Pairwise (fun a b => le a b = true) → (insL le x l).filter (PySem.W.sameRank le c) = (x :: l).filter (PySem.W.sameRank le c)
  | [], _ => rfl
  | y :: ys, p => by
    obtain ⟨p1, p2⟩ := List.pairwise_cons.mp p
    unfold insL
    split
    · rfl
    · rename_i hxy
      have ih := insL_filter h c x p2
      by_cases hx : PySem.W.sameRank le c x = true
      · by_cases hy : PySem.W.sameRank le c y = true
        · exfalso
          apply hxy
          unfold PySem.W.sameRank at hx hy
          simp only [Bool.and_eq_true] at hx hy
          exact h.trans _ _ _ (by first | exact hx.2 | exact hx.1) (by first | exact hy.1 | exact hy.2)
        · rw [List.filter_cons_of_neg hy, ih, List.filter_cons_of_pos hx, List.filter_cons_of_pos hx, List.filter_cons_of_neg hy]
      · rw [List.filter_cons_of_neg hx] at ih ⊢
        rw [List.filter_cons, ih, List.filter_cons]
theorem isort_sorted (h : PySem.W.TotalLe le) : ∀ l : List α, (isort le l).Pairwise (fun a b => le a b = true)
  | [] => List.Pairwise.nil
  | x :: xs => insL_sorted h (isort_sorted h xs)
theorem isort_filter (h : PySem.W.TotalLe le) (c : α) : ∀ l : List α, (isort le l).filter (PySem.W.sameRank le c) = l.filter (PySem.W.sameRank le c)
  | [] => rfl
  | x :: xs => by
    show (insL le x (isort le xs)).filter _ = _
    rw [insL_filter h c x (isort_sorted h xs), List.filter_cons, isort_filter h c xs, List.filter_cons]
theorem isort_eq (h : PySem.W.TotalLe le) (l : List α) : isort le l = l.mergeSort le := PySem.W.sort_unique h (isort_sorted h l) fun c => isort_filter h c l
end
theorem leV_total : PySem.W.TotalLe leV := PySem.W.sortLe_total _ false _
def sortV (xs : List Val) : List Val := isort leV xs
theorem sortV_eq (xs : List Val) : sortV xs = xs.mergeSort leV := isort_eq leV_total xs
def alikeB (ds : List PyData) : Bool := ds.all fun d => ds.all fun d' => PySem.W.alike d d'
def sortableB (ds : List PyData) : Bool := (ds.all fun d => match d with | .tuple (_ :: _) => true | _ => false) || (ds.all fun d => match d with | .none => false | .tuple _ => false | _ => true)
def bSorted (c : Bool) : BF := fun xs S => match xs with
  | [x] => match seqOf S x with
    | some ys => match toDs ys with
      | some ds => if alikeB ds && sortableB ds && decide (ds.length ≤ sizeLine) && ds.all (fun d => decide (d.depth ≤ 60)) then mkL c (sortV ys) S else .stuck
      | none => .stuck
    | none => .stuck
  | _ => .stuck
theorem alikeB_of {ds : List PyData} (h : alikeB ds = true) : PySem.W.AllAlike ds := fun d hd d' hd' => by
  have := List.all_eq_true.mp h d hd
  exact List.all_eq_true.mp this d' hd'
theorem sortableB_of {ds : List PyData} (h : sortableB ds = true) : PySem.W.Sortable ds := by
  rcases Bool.or_eq_true_iff.mp h with h | h
  · refine .inl fun d hd => ?_
    have := List.all_eq_true.mp h d hd
    split at this
    · exact ⟨_, _, rfl⟩
    · cases this
  · refine .inr fun d hd => ?_
    have := List.all_eq_true.mp h d hd
    constructor
    · intro e; subst e; simp at this
    · intro xs e; subst e; simp at this
theorem zip_rp {K : PySem.W.Frag} {ad : Ads} {F : Hp} {ρ : Rts} {H : Hp} (s : Same F H) : ∀ {xs : List Val} {us : List V} {ds : List PyData}, Rps K ad F ρ xs us → toDs xs = some ds →
    ∃ zs : List (Val × V), zs.map (·.1) = xs ∧ zs.map (·.2) = us ∧ zs.map (fun z => datV z.1) = ds ∧ ∀ z ∈ zs, Rp K ad F ρ z.1 z.2 ∧ Dp K H z.2 (datV z.1)
  | _, _, _, .nil, e => by simp only [toDs] at e; cases e; exact ⟨[], rfl, rfl, rfl, by simp⟩
  | x :: xs, u :: us, _, .cons r t, e => by
    simp only [toDs] at e
    cases q1 : toD x with
    | none => rw [q1] at e; cases e
    | some a =>
      cases q2 : toDs xs with
      | none => rw [q1, q2] at e; cases e
      | some b =>
        rw [q1, q2] at e
        cases e
        obtain ⟨zs, h1, h2, h3, h4⟩ := zip_rp s t q2
        have hx : datV x = a := by unfold datV; rw [q1]; rfl
        refine ⟨(x, u) :: zs, by simp [h1], by simp [h2], by simp [h3, hx], fun z hz => ?_⟩
        rcases List.mem_cons.mp hz with rfl | hz
        · exact ⟨r, by rw [hx]; exact dp_of s r q1⟩
        · exact h4 z hz
theorem rps_of_zip {K : PySem.W.Frag} {ad : Ads} {F : Hp} {ρ : Rts} : ∀ {zs : List (Val × V)}, (∀ z ∈ zs, Rp K ad F ρ z.1 z.2) → Rps K ad F ρ (zs.map (·.1)) (zs.map (·.2))
  | [], _ => .nil
  | z :: zs, h => .cons (h z List.mem_cons_self) (rps_of_zip fun q hq => h q (List.mem_cons_of_mem _ hq))
theorem s_sorted {K : PySem.W.Frag} {ad : Ads} {c : Bool} : CallS K ad (rSortD K) (bSorted c) := by
  intro W F ρ env S σ H xs us Q rs rx q
  unfold bSorted at q
  split at q
  · cases rx with
    | cons r1 r2 =>
      cases r2
      split at q
      · rename_i ys e
        split at q
        · rename_i ds e2
          split at q
          · rename_i hb
            simp only [Bool.and_eq_true] at hb
            obtain ⟨⟨⟨b1, b2⟩, b3⟩, b4⟩ := hb
            obtain ⟨a, vs, e1, h1, r3⟩ := rs.s.seq r1 e
            subst e1
            obtain ⟨zs, z1, z2, z3, z4⟩ := zip_rp (H := H) rs.s.sub r3 e2
            have m1 : (zs.map fun z => ((z.2, datV z.1) : SV)).map (·.1) = vs := by rw [List.map_map]; exact z2
            have m2 : (zs.map fun z => ((z.2, datV z.1) : SV)).map (·.2) = ds := by rw [List.map_map]; exact z3
            refine ⟨a, zs.map fun z => ((z.2, datV z.1) : SV), rfl, by rw [m1]; exact h1, fun z hz => ?_, by rw [m2]; exact alikeB_of b1, by rw [m2]; exact sortableB_of b2, ?_, fun z hz => ?_, ?_⟩
            · obtain ⟨y, hy, rfl⟩ := List.mem_map.mp hz
              exact (z4 y hy).2
            · have : (zs.map fun z => ((z.2, datV z.1) : SV)).length = ds.length := by rw [← m2, List.length_map, List.length_map, List.length_map]
              rw [this]; exact of_decide_eq_true b3
            · have hm : z.2 ∈ ds := by rw [← m2]; exact List.mem_map.mpr ⟨z, hz, rfl⟩
              exact of_decide_eq_true (List.all_eq_true.mp b4 _ hm)
            · have s1 : ((zs.map fun z => ((z.2, datV z.1) : SV)).mergeSort (PySem.W.dataLe false (·.2))).map (·.1) = (zs.mergeSort fun z z' => leV z.1 z'.1).map (·.2) := by
                rw [← PySem.W.sort_maps (r := fun z z' : Val × V => leV z.1 z'.1) (s := PySem.W.dataLe false (fun z : SV => z.2)) (fun z => ((z.2, datV z.1) : SV)) (fun a _ b _ => rfl), List.map_map]
                rfl
              have s2 : sortV ys = (zs.mergeSort fun z z' => leV z.1 z'.1).map (·.1) := by
                rw [sortV_eq]
                rw [← z1, ← PySem.W.sort_maps (r := fun z z' : Val × V => leV z.1 z'.1) (s := leV) (·.1) (fun a _ b _ => rfl)]
              have rr : Rps K ad F ρ ((zs.mergeSort fun z z' => leV z.1 z'.1).map (·.1)) ((zs.mergeSort fun z z' => leV z.1 z'.1).map (·.2)) :=
                rps_of_zip fun z hz => (z4 z (List.mem_mergeSort.mp hz)).1
              rw [s1]
              rw [s2] at q
              exact q.lst rs rr
          · exact q.elim
        · exact q.elim
      · exact q.elim
  · exact q.elim
end
end Fl
namespace Fl
open PySem PySem.Spec L2
open PyProof.Rows hiding St

/-! ### own errors: what their __init__ does; raise -/
/-- def __init__(self, p): self.f = p -/
def spIni (K : PySem.W.Frag) (f : Str) : Sp := fun vs H Q E => ∃ a C y, vs = [.ref a, y] ∧ OexC K C ∧ PySem.W.findIn K (.ref C) f = some none ∧ H a = some (exo a C none) ∧
  ∀ dx, H dx = none → dx ≠ a → Q .non (upd (upd H dx (exd dx [(f, y)])) a (exo a C (some dx)))
/-- an own error that is made of one value, kept under the name f -/
structure ErrAt (P : Program) (w : World) (K : PySem.W.Frag) (mg : Str → Option Value) (base : Heap) (ad : Ads) (k : Nat) (c f : Str) : Prop where
  ex : ∃ C fI fd ps, ad (.inr c) = some C ∧ OexC K C ∧ PySem.W.findIn K (.ref C) "__init__" = some (some (.ref fI)) ∧ PySem.W.typeIn K (.ref fI) = some (.type "function") ∧ PySem.W.findIn K (.ref C) f = some none ∧
    FnOk P w K mg base (L2.CX P w) k fI fd ps (spIni K f) ∧ Binds K fd ps [] ∧ mg c = some (.ref C)
theorem spIni_len {K : PySem.W.Frag} {f : Str} {vs : List V} {H : Hp} {Q : VK} {E : XK} (h : spIni K f vs H Q E) : vs.length = 2 := by
  obtain ⟨a, C, y, e, _⟩ := h
  rw [e]; rfl
theorem ini_ok {P : Program} {w : World} {K : PySem.W.Frag} {mg : Str → Option Value} {base : Heap} {x qual self p f : Str} {fa : Addr} {fd : FuncData} {k : Nat} {ps1 p2 p3 pos : Pos}
    {st : Stmt} (hst : defBody st = [.Assign [.Attribute (.Name self ps1) f p2] (.Name p p3) pos]) (Fz : Fn K x qual st fa fd) (Sc : FnScope [self, p] [self, p] (defScope st))
    (hsf : ((self == ("__debug__" : Str)) = false ∧ (self == ("__classdict__" : Str)) = false) ∧ (p == ("__debug__" : Str)) = false ∧ (p == ("__classdict__" : Str)) = false := by decide) :
    FnOk P w K mg base (L2.CX P w) (k + 1) fa fd [self, p] (spIni K f) := by
  refine Fz.ok Sc (fun vs H Q E h => spIni_len h) fun cdv A outer s H vs Q E hr h => ?_
  have vis : ∀ {y : Str}, y ∈ [self, p] → Vis (defScope st) y := fun hy => (Sc.par _ hy).imp id .inl
  rw [hst]
  refine ⟨_, pss_one (ps_ost (X := cxOf (L2.CX P w) P w K mg base [self, p] qual (defScope st) fa cdv A outer s H E) (pe_var (i := 0) rfl (vis (by simp)) hsf.1.1 hsf.1.2) (pe_var (i := 1) rfl (vis (by simp)) hsf.2.1 hsf.2.2)), ?_⟩
  obtain ⟨a, C, y, rfl, hC, hf, ha, q⟩ := h
  exact ⟨y, rfl, .ref a, rfl, a, C, rfl, hC, hf, .inl ⟨ha, q⟩⟩
theorem upd_del {H : Hp} {a d : Addr} {o1 o2 o3 o : HO} (ha : H a = none) (hd : d ≠ a) : upd (del (upd (upd (upd H a o1) d o2) a o3) a) d o = upd H d o := by
  funext b
  by_cases hb : b = d
  · rw [hb, upd_same, upd_same]
  · rw [upd_ne hb, upd_ne hb]
    by_cases ha' : b = a
    · rw [ha', del_same, ha]
    · rw [del_ne ha', upd_ne ha', upd_ne hb, upd_ne ha']
/-- raise C(e) -/
def sRaise (c f : Str) (fe : EF) : SF := fun env S => (fe env S).go env fun x S1 => .exc c [(f, x)] env S1
section
variable {X : Cx} {ad : Ads} {W : WX} {k : Nat} {c f : Str} {p pos pos' : Pos} {e : Expr} {fe : EF}
theorem gs_raise (D : ErrAt X.prog X.w X.K X.mg X.base ad k c f) (hc : X.calm = true) (hr : Room (k + 1) X.A) (tk : Takes X W) (hg : Gl X c) (he : GE X ad W e fe) (hdb : (c == ("__debug__" : Str)) = false := by decide)
    (hst : starEach [e] X.env = [(false, eval e X.env)] := by rfl) : GS X ad W (.Raise (some (.Call (.Name c p) [e] [] pos)) none pos') (sRaise c f fe) := by
  obtain ⟨C, fI, fd, ps, hC, hO, iC, tI, hno, hF, hb, hm⟩ := D.ex
  have st1 : starEach [e] X.env = (false, eval e X.env) :: starEach [] X.env := hst
  refine gs_of (ps_raise hc tk (pmk_oex (dvs := []) hO iC tI hF hr hb .nil (passes_call tk (E := fun _ _ _ => False) fun _ _ _ _ h => h.elim) hg hm (pa_cons he.run pa_nil st1) hdb st1 rfl)) fun F ρ env S σ H D rs q => ?_
  refine ⟨F, ρ, env, S, rs, AftS.go q fun F1 ρ1 S1 x u H1 l1 rs1 rx q1 => ?_⟩
  refine ⟨by simp, fun a ha => ⟨a, C, u, rfl, hO, hno, upd_same, fun dx hdx hne => ?_⟩⟩
  have hdx1 : H1 dx = none := by rw [← hdx, upd_ne hne]
  obtain ⟨rs2, l2⟩ := rs1.lay (o := .xd [(f, u)]) hdx1
  refine ⟨rfl, dx, [(f, u)], upd_same, ?_, hdx1, ?_⟩
  · rw [upd_ne hne, upd_same]
  · rw [upd_del ha hne]
    exact q1 _ ρ1 σ _ _ _ l2 rs2 ⟨C, hC, rfl, .inr ⟨dx, [(f, u)], rfl, upd_same, .cons (rx.mono l2) .nil⟩⟩
end
end Fl
namespace Fl
open PySem PySem.Spec L2
open PyProof.Rows hiding St

/-! ### try: body, except C1 as n1: .., except C2 as n2: .. -/
/-- the error a stands before the clauses of the frame of X -/
structure Caught (X : Cx) (pins : List (Addr × Obj)) (σ : L2.St) (H : Hp) (cls : Value) (d : Option Addr) (a : Addr) (s : Shared) : Prop where
  ex : ∃ B sI, Inv X pins σ H sI ∧ (∀ b o, sI.heap.get? b = some o → b ∉ frs X.stack → B.get? b = some o) ∧ sI.heap.UpToSlots s.heap ∧ HandSPX.FlyingZ B (X.env :: X.outer) a (Zc cls d) s.heap ∧ s.os = sI.os ∧ AllBare s.gens
  na : H a = none
/-- what the clauses do with it, where w holds -/
def Hnd (X : Cx) (hds : List ExceptHandler) (w : Ends → WX) : Prop := ∀ (pins : List (Addr × Obj)) (D : Ends) (σ : L2.St) (H : Hp) (cls : Value) (d : Option Addr) (a : Addr) (s : Shared),
  Caught X pins σ H cls d a s → w D cls d σ H → wpAny (model X.prog X.w) X.A (handleBy (.ref a) X.env hds) (SP X pins D) X.xe s
section
variable {X : Cx} {pins : List (Addr × Obj)} {σ : L2.St} {H : Hp} {cls : Value} {d : Option Addr} {a : Addr} {s : Shared}
/-- no clause takes it -/
theorem hnd_nil {Wout : WX} (hs : X.stack = X.env :: X.outer) (hf : X.env.frame = some X.env.locals) (tk : Takes X Wout) : Hnd X [] fun _ => Wout := by
  intro pins D σ H cls d a s ⟨⟨B, sI, J, nb, up, fl, os, ag⟩, na⟩ hw
  refine wpAny_handleBy_nil ?_
  have there := fl.2.2.2
  obtain ⟨oe, vs, T, oT, ts, he, _, hd, h1, _⟩ := there
  unfold PySem.passOn
  refine wpAny_bind (wpAny_field he hd h1 ?_)
  have hT : ¬ ((Value.ref T == Value.none) = true) := by simp
  rw [if_neg hT]
  have last : wpAny (model X.prog X.w) X.A (setFlight (.ref a) X.env.frame) (fun _ s4 => wpAny (model X.prog X.w) X.A (throw (.ref a) : Sem Flow) (SP X pins D) X.xe s4) X.xe s := by
    rw [hf]
    refine HandSPX.setFlight_upZ fl fun h4 held up4 => wpAny_throw (tk _ _ ⟨a, B, sI, pins, σ, H, cls, d, rfl, J, nb, up.trans up4, .inr (.inr ?_), na, os, ag, hw⟩)
    rw [hs]; exact held
  first
    | exact wpAny_bind last
    | exact wpAny_bind (wpAny_pure (wpAny_bind last))
theorem Caught.outer {o : Obj} {vs : Array Value} {B : Heap} {h : Heap} (ff : h.FunFrames B (X.env :: X.outer)) (e : h.get? a = some o) (dd : o.data = .fields vs) : a ∉ frs (X.env :: X.outer) := by
  intro hm
  obtain ⟨_, o', e', hnf⟩ := ff.mem hm
  rw [e] at e'
  cases e'
  exact hnf _ dd
/-- the first clause -/
def wH (K : PySem.W.Frag) (c : Value) (i : Nat) (ts : Addr → Value → Option Addr → TS) (w : Ends → WX) (D : Ends) : WX := fun cls d σ H => ∃ b, PySem.W.exmOne K cls c = some b ∧
  match b with
  | true => ∀ a, H a = none → ts a cls d ⟨fun σ' H' => D.nx (σ'.set i none) H', D.rt, fun σ' H' => D.bk (σ'.set i none) H', fun σ' H' => D.ct (σ'.set i none) H'⟩ (σ.set i (some (.ref a))) H
  | false => w D cls d σ H
theorem hnd_cons {x n : Str} {c : Value} {i : Nat} {ts : Addr → Value → Option Addr → TS} {b0 : Stmt} {suite : List Stmt} {np p2 : Pos} {hds : List ExceptHandler} {w : Ends → WX}
    (hs : X.stack = X.env :: X.outer) (hf : X.env.frame = some X.env.locals) (hN : X.N.Nodup) (hi : X.N[i]? = some n) (hk : X.env.kindOf n = some .local) (hc : Names X x c)
    (hsu : ∀ (a : Addr) (oe : Obj) (cls : Value) (d : Option Addr) (pn : List (Addr × Obj)), Zc cls d oe → (∃ vs, oe.data = .fields vs) → PSs (X.suite a ((a, oe) :: pn)) (b0 :: suite) (ts a cls d))
    (hr : Hnd X hds w) : Hnd X (.ExceptHandler (some (.Name x np)) (some n) (b0 :: suite) p2 :: hds) (wH X.K c i ts w) := by
  intro pins D σ H cls d a s cg hw
  have cg' := cg
  obtain ⟨⟨B, sI, J, nb, up, fl, os, ag⟩, na⟩ := cg
  have ok := J.ok
  obtain ⟨o1, v1, g1, z1, d1⟩ := fl.there
  have J1 : Inv X pins σ H s := J.landed nb fl.1 up os ag
  have off := Caught.outer fl.2.2.1 g1 d1
  have offL : a ≠ X.env.locals := fun q => off (List.mem_filterMap.mpr ⟨_, List.mem_cons_self, by rw [hf, q]⟩)
  have offF : a ∉ X.fs := fun q => by
    obtain ⟨v, hv, e⟩ := List.mem_filterMap.mp q
    exact off (List.mem_filterMap.mpr ⟨v, List.mem_cons_of_mem _ hv, e⟩)
  have S1 := J1.suite g1 d1 na offL offF
  obtain ⟨b, hb, hw⟩ := hw
  have looks : PySem.W.Looks (model X.prog X.w) s.heap (typeOf (.ref a)) cls := fun _ _ _ _ k q => wpAny_typeOf_ref (k _ _ g1) (by rw [z1.1]; exact q)
  have asked := PySem.W.exm_one (M := model X.prog X.w) J1.kIn looks hb
  have name : ∀ {Q : Value → Shared → Prop} {E : Value → Shared → Prop}, Q c s → wpAny (model X.prog X.w) (X.A.mark (some (.ref a))) (eval (.Name x np) X.env) Q E s := by
    intro Q E q
    obtain ⟨hg, hdb, hm | ⟨hm, hv, hnn⟩⟩ := hc
    · exact ld_glob (X := X.suite a ((a, o1) :: (X.pn ++ pins))) S1 hg hm q hdb
    · exact ld_blt (X := X.suite a ((a, o1) :: (X.pn ++ pins))) S1 hg hm hv q hnn hdb
  refine wpAny_handleBy_cons (codeAny_handlers_test (name (asked.here ?_))) (fun q => by cases q)
  cases b with
  | false => exact hr pins D σ H cls d a s cg' hw
  | true =>
    refine codeAny_handlers_suite_as (HandSPX.lands_againZ fl fun h2 fl2 up2 => ?_)
    obtain ⟨o2, v2, g2, z2, d2⟩ := fl2.there
    have S2 := (show Inv X pins σ H { s with heap := h2 } from J.landed nb fl2.1 (up.trans up2) os ag).suite g2 d2 na offL offF
    refine store_ok (X := X.suite a ((a, o2) :: (X.pn ++ pins))) (v := .ref a) S2 hN hi (.inl hk) rfl (fun s3 S3 => ?_) (.inr hk)
    refine wpAny_mono ((hsu a o2 cls d (X.pn ++ pins) z2 ⟨_, d2⟩).run [] s3 _ H _ S3 (hw a na)) (fun f s4 hsp => ?_) fun _ _ z => z.elim
    have bye : ∀ {σ4 : L2.St} {H4 : Hp} {Q : Shared → Prop}, Inv (X.suite a ((a, o2) :: (X.pn ++ pins))) [] σ4 H4 s4 → (∀ s5, Inv X pins (σ4.set i none) H4 s5 → Q s5) →
        wpAny (model X.prog X.w) X.A (do bindName X.env n .none; unbindBehindTheSuite X.env n p2) (fun _ s5 => Q s5) X.xe s4 := fun S4 hq => gone_ok (S4.unsuite ok) hN hi hk hq
    cases f with
    | ret u => obtain ⟨v4, σ4, H4, S4, r4, q4⟩ := hsp; exact bye S4 fun _ J5 => ⟨_, _, _, J5, r4, q4⟩
    | next => obtain ⟨σ4, H4, S4, q4⟩ := hsp; exact bye S4 fun _ J5 => ⟨_, _, J5, q4⟩
    | brk => obtain ⟨σ4, H4, S4, q4⟩ := hsp; exact bye S4 fun _ J5 => ⟨_, _, J5, q4⟩
    | cont => obtain ⟨σ4, H4, S4, q4⟩ := hsp; exact bye S4 fun _ J5 => ⟨_, _, J5, q4⟩
theorem ps_tries {body : List Stmt} {h0 : ExceptHandler} {hds : List ExceptHandler} {pos : Pos} {tb : WX → TS} {w : Ends → WX} (hs : X.stack = X.env :: X.outer)
    (hf : X.env.frame = some X.env.locals) (hh : Hnd X (h0 :: hds) w)
    (hb : ∀ (W : WX) (pn : List (Addr × Obj)) (xe : Value → Shared → Prop), Takes (X.tr pn xe) W → PassesOwn (model X.prog X.w) X.A X.env xe → PSs (X.tr pn xe) body (tb W)) :
    PS X (.Try body (h0 :: hds) [] [] pos) (fun D σ H => tb (w D) D σ H) := by
  refine ⟨fun pins s σ H D I h => wpAny_Try_except ?_⟩
  have ok := I.ok
  have fr0 : X.A.frames = some (X.env :: X.outer) := by rw [ok.frames, hs]
  have run := (hb (w D) (X.pn ++ pins) (fun e s1 => wpAny (model X.prog X.w) X.A (noteFrame e X.env) (fun _ s2 => wpAny (model X.prog X.w) X.A (setFlight e none) (fun _ s3 =>
    wpAny (model X.prog X.w) X.A (handleBy e X.env (h0 :: hds)) (SP X pins D) X.xe s3) X.xe s2) X.xe s1) (by
      intro u s1 ⟨a, B, sI, pins', σ', H', cls, d, eu, J', nb, up, sky, na, os, ag, hw⟩
      subst eu
      rw [show (X.tr (X.pn ++ pins) _).stack = X.env :: X.outer from hs] at sky
      refine Sky.land Zc.steady fr0 hf sky fun h3 fl3 up3 => ?_
      exact hh pins D σ' H' cls d a _ ⟨⟨B, sI, J'.ofTry ok, nb, up.trans up3, fl3, os, ag⟩, na⟩ hw) PassesOwn.looking).run [] s σ H D (I.toTry _) h
  refine wpAny_mono run (fun f s1 hsp => ?_) fun _ _ q => q
  cases f with
  | next => obtain ⟨σ1, H1, J1, q1⟩ := hsp; exact wpAny_execs_nil ⟨σ1, H1, J1.ofTry ok, q1⟩
  | ret u => obtain ⟨v, σ1, H1, J1, r1, q1⟩ := hsp; exact ⟨v, σ1, H1, J1.ofTry ok, r1, q1⟩
  | brk => obtain ⟨σ1, H1, J1, q1⟩ := hsp; exact ⟨σ1, H1, J1.ofTry ok, q1⟩
  | cont => obtain ⟨σ1, H1, J1, q1⟩ := hsp; exact ⟨σ1, H1, J1.ofTry ok, q1⟩
end
end Fl
namespace Fl
open PySem PySem.Spec L2
open PyProof.Rows hiding St

/-! ### another table, the same classes -/
section
variable {K : PySem.W.Frag} {ad ad' : Ads} {F : Hp} {ρ : Rts} (h : ad.cls = ad'.cls)
include h
mutual
theorem Rp.tab : ∀ {x : Val} {v : V}, Rp K ad F ρ x v → Rp K ad' F ρ x v
  | _, _, .non => .non
  | _, _, .bl b => .bl b
  | _, _, .int i => .int i
  | _, _, .str x => .str x
  | _, _, .tup q r => .tup q (Rps.tab r)
  | _, _, .lst q r => .lst q (Rps.tab r)
  | _, _, .wls q r => .wls q (Rps.tab r)
  | _, _, .obj e q r => .obj (by rw [← h]; exact e) q (Rpf.tab r)
  | _, _, .ref q => .ref q
  | _, _, .glb a => .glb a
  | _, _, .cls e => .cls (by rw [← h]; exact e)
theorem Rps.tab : ∀ {x : List Val} {v : List V}, Rps K ad F ρ x v → Rps K ad' F ρ x v
  | _, _, .nil => .nil
  | _, _, .cons a b => .cons (Rp.tab a) (Rps.tab b)
theorem Rpf.tab : ∀ {x : List (Str × Val)} {v : List (Str × V)}, Rpf K ad F ρ x v → Rpf K ad' F ρ x v
  | _, _, .nil => .nil
  | _, _, .cons a b => .cons (Rp.tab a) (Rpf.tab b)
theorem Rpk.tab : ∀ {x : List (Str × Val)} {v : List (Key × V)}, Rpk K ad F ρ x v → Rpk K ad' F ρ x v
  | _, _, .nil => .nil
  | _, _, .cons a b => .cons (Rp.tab a) (Rpk.tab b)
end
theorem Rc.tab : ∀ {c : Cel} {o : HO}, Rc K ad F ρ c o → Rc K ad' F ρ c o
  | .lst _, _, ⟨vs, e, r⟩ => ⟨vs, e, r.tab h⟩
  | .dct _, _, ⟨ks, e, r⟩ => ⟨ks, e, r.tab h⟩
  | .lck _, _, q => by
    obtain ⟨od, ks, e, r⟩ := q
    exact ⟨od, ks, e, r.tab h⟩
  | .ins _ _, _, ⟨C, dx, vs, e, e2, r⟩ => ⟨C, dx, vs, e, by rw [← h]; exact e2, r.tab h⟩
theorem RS0.tab {S : Store} {H : Hp} (r : RS0 K ad F ρ S H) : RS0 K ad' F ρ S H :=
  ⟨r.sub, r.len, fun i b c e => let ⟨a, o, e1, e2, e3, e4⟩ := r.cel i b c e; ⟨a, o, e1, e2.tab h, e3, e4⟩, r.inj, r.prv, r.prn⟩
end

/-! ### try -/
abbrev HF := Str → List (Str × Val) → SF
def hNil : HF := fun c fs env S => .exc c fs env S
/-- except x as n: n in slot i; t: which errors are x's -/
def hCons (t : Str → Bool) (i : Nat) (h : HF) (r : HF) : HF := fun c fs env S => if t c then
    match h c fs (env.set i none) S with
    | .nx e S' => .nx (e.set i none) S'
    | .brk e S' => .brk (e.set i none) S'
    | .cnt e S' => .cnt (e.set i none) S'
    | .ret v S' => .ret v S'
    | _ => .stuck
  else r c fs env S
def sTry (b : SF) (h : HF) : SF := fun env S => match b env S with
  | .exc c fs env' S' => h c fs env' S'
  | r => r
def tH (K : PySem.W.Frag) (ad : Ads) (W : WX) (h : HF) (D : Ends) : WX := fun cls d σ H => ∃ F ρ env S c fs, RS K ad F ρ env S σ H ∧ RpX K ad F ρ c fs cls d H ∧ AftS K ad W F ρ (h c fs env S) D
structure GH (X : Cx) (ad : Ads) (W : WX) (hds : List ExceptHandler) (h : HF) : Prop where
  run : Hnd X hds (tH X.K ad W h)
/-- the table in the suite -/
@[reducible] def Ads.on (ad : Ads) (i : Nat) (a dx : Addr) (fs : List (Str × Val)) : Ads := ⟨ad.cls, some (i, a, dx, fs)⟩
section
variable {X : Cx} {ad : Ads} {W : WX}
theorem Hnd.imp {hds : List ExceptHandler} {w w' : Ends → WX} (h : Hnd X hds w) (q : ∀ D cls d σ H, w' D cls d σ H → w D cls d σ H) : Hnd X hds w' :=
  fun pins D σ H cls d a s cg hw => h pins D σ H cls d a s cg (q D cls d σ H hw)
theorem gh_nil (hs : X.stack = X.env :: X.outer) (hf : X.env.frame = some X.env.locals) (tk : Takes X W) : GH X ad W [] hNil :=
  ⟨(hnd_nil hs hf tk).imp fun D cls d σ H ⟨F, ρ, env, S, c, fs, rs, rx, q⟩ => q F ρ σ H cls d .refl rs rx⟩
theorem gh_cons {x n : Str} {i : Nat} {t : Str → Bool} {h r : HF} {b0 : Stmt} {suite : List Stmt} {np p2 : Pos} {hds : List ExceptHandler} (nh : ad.hold = none)
    (hx : ∃ v, X.mg x = some v ∧ ∀ c C, ad (.inr c) = some C → PySem.W.exmOne X.K (.ref C) v = some (t c)) (hN : X.N.Nodup) (hi : X.N[i]? = some n) (hk : X.env.kindOf n = some .local) (hg : Gl X x)
    (hsu : ∀ (a : Addr) (oe : Obj) (c : Str) (C : Addr) (d : Option Addr) (dx : Addr) (fs : List (Str × Val)) (pn : List (Addr × Obj)), Zc (.ref C) d oe → (∃ vs, oe.data = .fields vs) → ad (.inr c) = some C → (fs = [] ∨ d = some dx) →
      GSs (X.suite a ((a, oe) :: pn)) (ad.on i a dx fs) (fun _ _ _ _ => False) (b0 :: suite) (h c fs))
    (hr : GH X ad W hds r) (hs : X.stack = X.env :: X.outer := by rfl) (hf : X.env.frame = some X.env.locals := by rfl) (hdb : (x == ("__debug__" : Str)) = false := by decide) :
    GH X ad W (.ExceptHandler (some (.Name x np)) (some n) (b0 :: suite) p2 :: hds) (hCons t i h r) := by
  obtain ⟨v, hm, he⟩ := hx
  refine ⟨(hnd_cons (c := v) (ts := fun a cls d D σ H => ∃ c C dx fs, cls = .ref C ∧ ad (.inr c) = some C ∧ (fs = [] ∨ d = some dx) ∧ tS X.K (ad.on i a dx fs) (fun _ _ _ _ => False) (h c fs) D σ H)
    hs hf hN hi hk ⟨hg, hdb, .inl hm⟩ (fun a oe cls d pn hz hv => ?_) hr.run).imp fun D cls d σ H ⟨F, ρ, env, S, c, fs, rs, rx, q⟩ => ?_⟩
  · refine ⟨fun p s σ H D I ⟨c, C, dx, fs, e1, e2, e3, q⟩ => ?_⟩
    subst e1
    exact (hsu a oe c C d dx fs pn hz hv e2 e3).run.run p s σ H D I q
  · obtain ⟨C, hC, e1, hd⟩ := rx
    subst e1
    refine ⟨t c, he c C hC, ?_⟩
    unfold hCons at q
    cases ht : t c with
    | false =>
      simp only [ht, Bool.false_eq_true, if_false] at q
      exact ⟨F, ρ, env, S, c, fs, rs, ⟨C, hC, rfl, hd⟩, q⟩
    | true =>
      simp only [ht, if_true] at q
      intro a ha
      have hdd : ∃ dx, (fs = [] ∨ d = some dx) ∧ (fs = [] ∨ ∃ vs, F dx = some (.xd vs) ∧ Rpf X.K ad F ρ fs vs) := by
        rcases hd with e | ⟨dx, vs, e1, e2, e3⟩
        · exact ⟨0, .inl e, .inl e⟩
        · exact ⟨dx, .inr e1, .inr ⟨vs, e2, e3⟩⟩
      obtain ⟨dx, hd1, hd2⟩ := hdd
      have cl : ad.cls = (ad.on i a dx fs).cls := rfl
      have re : RE X.K (ad.on i a dx fs) F ρ (env.set i none) (σ.set i (some (.ref a))) := by
        refine ⟨by rw [List.length_set, List.length_set]; exact rs.e.len, fun j w e => ?_, fun j a' dx' fs' e1 e2 => ?_⟩
        · by_cases hj : j = i
          · subst hj
            by_cases hl : j < env.length
            · rw [List.getElem?_set_self hl] at e; cases e
            · rw [List.getElem?_eq_none (by simpa using hl)] at e; cases e
          · rw [List.getElem?_set_ne (Ne.symm hj)] at e ⊢
            obtain ⟨w', h1, h2⟩ := rs.e.at_ j w e
            exact ⟨w', h1, h2.tab cl⟩
        · cases e1
          by_cases hl : i < env.length
          · exact ⟨by rw [List.getElem?_set_self (by rw [← rs.e.len]; exact hl)], hd2.imp id fun ⟨vs, h1, h2⟩ => ⟨vs, h1, h2.tab cl⟩⟩
          · rw [List.getElem?_eq_none (by simpa using hl)] at e2; cases e2
      refine ⟨c, C, dx, fs, rfl, hC, hd1, F, ρ, _, S, ⟨rs.s.tab cl, re⟩, ?_⟩
      have off : ∀ {F' : Hp} {ρ' : Rts} {e : Env} {S' : Store} {σ' : L2.St} {H' : Hp}, RS X.K (ad.on i a dx fs) F' ρ' e S' σ' H' → RS X.K ad F' ρ' (e.set i none) S' (σ'.set i none) H' := fun r =>
        ⟨r.s.tab cl.symm, RE.unset nh ⟨r.e.len, fun j w e => let ⟨w', h1, h2⟩ := r.e.at_ j w e; ⟨w', h1, h2.tab cl.symm⟩, fun _ _ _ _ e1 => by rw [nh] at e1; cases e1⟩⟩
      cases hh : h c fs (env.set i none) S with
      | nx e S' => rw [hh] at q; exact fun F' ρ' σ' H' l r => q F' ρ' _ H' l (off r)
      | brk e S' => rw [hh] at q; exact fun F' ρ' σ' H' l r => q F' ρ' _ H' l (off r)
      | cnt e S' => rw [hh] at q; exact fun F' ρ' σ' H' l r => q F' ρ' _ H' l (off r)
      | ret w S' => rw [hh] at q; exact fun F' ρ' u H' l r rv => q F' ρ' u H' l (r.tab cl.symm) (rv.tab cl.symm)
      | exc c' fs' e S' => rw [hh] at q; exact q.elim
      | stuck => rw [hh] at q; exact q.elim
theorem gs_try {body : List Stmt} {h0 : ExceptHandler} {hds : List ExceptHandler} {pos : Pos} {fb : SF} {h : HF}
    (hb : ∀ (W' : WX) (pn : List (Addr × Obj)) (xe : Value → Shared → Prop), Takes (X.tr pn xe) W' → PassesOwn (model X.prog X.w) X.A X.env xe → GSs (X.tr pn xe) ad W' body fb)
    (hh : GH X ad W (h0 :: hds) h) (hs : X.stack = X.env :: X.outer := by rfl) (hf : X.env.frame = some X.env.locals := by rfl) : GS X ad W (.Try body (h0 :: hds) [] [] pos) (sTry fb h) := by
  refine gs_of (ps_tries (tb := fun W' => tS X.K ad W' fb) hs hf hh.run fun W' pn xe tk po => (hb W' pn xe tk po).run) fun F ρ env S σ H D rs q => ⟨F, ρ, env, S, rs, ?_⟩
  unfold sTry at q
  cases e : fb env S with
  | exc c fs env' S' =>
    rw [e] at q
    exact fun F' ρ' σ' H' cls d l rs' rx' => ⟨F', ρ', env', S', c, fs, rs', rx', AftS.later l q⟩
  | nx _ _ => rw [e] at q; exact q
  | brk _ _ => rw [e] at q; exact q
  | cnt _ _ => rw [e] at q; exact q
  | ret _ _ => rw [e] at q; exact q
  | stuck => rw [e] at q; exact q.elim
/-- n.f in a suite, n the error's name -/
def eXf (i : Nat) (f : Str) (fs : List (Str × Val)) : EF := fun env S => match env[i]? with
  | some none => match fs.lookup f with
    | some v => .ok v S
    | none => .stuck
  | _ => .stuck
theorem g_xf {i : Nat} {n f c : Str} {a dx C : Addr} {oe : Obj} {d : Option Addr} {fs : List (Str × Val)} {pn : List (Addr × Obj)} {p pos : Pos} (T : ∀ c C, ad (.inr c) = some C → XfC X.K C ∧ PySem.W.findIn X.K (.ref C) f = some none)
    (hz : Zc (.ref C) d oe) (hv : ∃ vs, oe.data = .fields vs) (hC : ad (.inr c) = some C) (hd : fs = [] ∨ d = some dx) (hN : X.N[i]? = some n) (hl : X.env.scope.names.lookup n = some .local := by rfl)
    (hd1 : (n == ("__debug__" : Str)) = false := by decide) (hd2 : (n == ("__classdict__" : Str)) = false := by decide)
    (hb : attributeBase (.Name n p) f X.env (eval (.Name n p) X.env) = eval (.Name n p) X.env := by rfl) :
    GE (X.suite a ((a, oe) :: pn)) (ad.on i a dx fs) W (.Attribute (.Name n p) f pos) (eXf i f fs) := by
  refine g_of (pe_xf (X := X) (T c C hC).1 (T c C hC).2 hz hv (pe_var (X := X.suite a ((a, oe) :: pn)) (i := i) hN (.inl hl) hd1 hd2) hb) fun F ρ env S σ H Q rs q => ?_
  unfold eXf at q
  split at q
  · rename_i e
    obtain ⟨e1, hF⟩ := rs.e.hold i a dx fs rfl e
    split at q
    · rename_i v e2
      rcases hF with rfl | ⟨vs, h1, h2⟩
      · cases e2
      · obtain ⟨u, h3, h4⟩ := h2.lookup e2
        rcases hd with rfl | rfl
        · cases e2
        · exact ⟨_, e1, rfl, rfl, dx, vs, u, rfl, rs.s.sub _ _ h1, h3, q F ρ u H .refl rs h4⟩
    · exact q.elim
  · exact q.elim
end
end Fl
namespace Fl
open PySem PySem.Spec L2
open PyProof.Rows hiding St

/-! ### isinstance -/
inductive TK where
  | non | bl | int | str | tup | lst | dct | own (c : Str)
def tyK (S : Store) : Val → Option TK
  | .non => some .non
  | .bl _ => some .bl
  | .int _ => some .int
  | .str _ => some .str
  | .tup _ => some .tup
  | .lst _ => some .lst
  | .wls _ => some .lst
  | .dct _ => some .dct
  | .obj c _ => some (.own c)
  | .ref i => match S[i]? with
    | some (_, .lst _) => some .lst
    | some (_, .dct _) => some .dct
    | some (_, .lck _) => some .dct
    | some (_, .ins c _) => some (.own c)
    | none => none
  | .glb _ => none
  | .cls _ => none
def TKV (ad : Ads) : TK → Value → Prop
  | .non, t => t = .type "NoneType"
  | .bl, t => t = .type "bool"
  | .int, t => t = .type "int"
  | .str, t => t = .type "str"
  | .tup, t => t = .type "tuple"
  | .lst, t => t = .type "list"
  | .dct, t => t = .type "dict"
  | .own c, t => ∃ C, ad (.inl c) = some C ∧ t = .ref C
/-- what a class must say, so that its instances may be asked -/
structure InsTy (K : PySem.W.Frag) (C : Addr) : Prop where
  cl : Cls K C
  ha : PySem.W.findIn K (.ref C) "__class__" = some (some (.builtin "object.__class__"))
  hn : PySem.W.specialIn K (.builtin "object.__class__") "__get__" = some (some (.builtin "getset_descriptor.__get__"))
  ht : PySem.W.takesIn K (.builtin "object.__class__") = some true
  hm : PySem.W.mroIn K C (.type "object") = some true
section
variable {K : PySem.W.Frag} {ad : Ads} {F : Hp} {ρ : Rts} {S : Store} {H : Hp}
theorem tyx_L {a : Addr} {xs : List V} (h : SqL K H a xs) : TyX K H (.ref a) (.type "list") := by
  rcases h with (h | ⟨o, h⟩) | ⟨o, its, n, h1, h2, _⟩
  · exact .base (.lst h)
  · exact .base (.frz h)
  · exact .kList h1 h2
theorem tyx_T {a : Addr} {xs : List V} (h : SqT K H a xs) : TyX K H (.ref a) (.type "tuple") := by
  rcases h with (h | ⟨o, h⟩) | ⟨o, its, n, h1, h2, _⟩
  · exact .base (.tup h)
  · exact .fTuple h
  · exact .kTuple h1 h2
theorem tyx_D {a : Addr} {o : HO} {ks : List (Key × V)} (h : H a = some o) (b : bare o = .dK ks) : TyX K H (.ref a) (.type "dict") := by
  cases o with
  | frz ob u =>
    cases u <;> first | (cases b; done) | skip
    exact .fDict h
  | dK k => exact .base (.dK h)
  | _ => cases b
theorem tyx_of (hI : ∀ c C, ad (.inl c) = some C → InsTy K C) (rs : RS0 K ad F ρ S H) {x : Val} {u : V} {k : TK} (r : Rp K ad F ρ x u) (e : tyK S x = some k) : ∃ t, TyX K H u t ∧ TKV ad k t := by
  cases r with
  | non => cases e; exact ⟨_, .base .non, rfl⟩
  | bl b => cases e; exact ⟨_, .base (.bl b), rfl⟩
  | int b => cases e; exact ⟨_, .base (.int b), rfl⟩
  | str b => cases e; exact ⟨_, .base (.str b), rfl⟩
  | tup h _ => cases e; exact ⟨_, tyx_T (Sub.tup rs.sub h), rfl⟩
  | lst h _ => cases e; exact ⟨_, .base (.lst (rs.sub _ _ h)), rfl⟩
  | wls h _ => cases e; exact ⟨_, tyx_L (Same.seq rs.sub h), rfl⟩
  | obj hC h _ =>
    cases e
    have q := hI _ _ hC
    exact ⟨_, .base (.ins (rs.sub _ _ h) q.cl q.ha q.hn q.ht q.hm), _, hC, rfl⟩
  | @ref i a hr =>
    simp only [tyK] at e
    cases hs : S[i]? with
    | none => rw [hs] at e; cases e
    | some p =>
      obtain ⟨b, c⟩ := p
      rw [hs] at e
      obtain ⟨a', o, o', e1, e3, e2, e5⟩ := rs.rd hs
      rw [hr] at e1; cases e1
      cases c with
      | lst xs =>
        cases e
        obtain ⟨vs, rfl, _⟩ := e3
        rw [e5.other fun _ => bare_lst] at e2
        exact ⟨_, .base (.lst e2), rfl⟩
      | dct xs =>
        cases e
        obtain ⟨vs, rfl, _⟩ := e3
        exact ⟨_, tyx_D e2 (e5.dict rfl), rfl⟩
      | lck xs =>
        cases e
        obtain ⟨od, vs, rfl, _⟩ := e3
        exact ⟨_, tyx_D e2 (e5.dict rfl), rfl⟩
      | ins c fs =>
        cases e
        obtain ⟨C, dx, vs, rfl, hC, _⟩ := e3
        rw [e5.other fun _ => bare_ins] at e2
        have q := hI _ _ hC
        exact ⟨_, .base (.ins e2 q.cl q.ha q.hn q.ht q.hm), _, hC, rfl⟩
  | glb a => cases e
  | cls a => cases e
end
/-- the answers for the class u -/
def IsiOk (K : PySem.W.Frag) (ad : Ads) (u : Value) (t : TK → Bool) : Prop := ∀ k v, TKV ad k v → PySem.W.kitOne K v u = some (t k)
def isLst : TK → Bool | .lst => true | _ => false
def isTup : TK → Bool | .tup => true | _ => false
def isStr : TK → Bool | .str => true | _ => false
def isInt : TK → Bool | .int => true | .bl => true | _ => false
def isBl : TK → Bool | .bl => true | _ => false
def isDct : TK → Bool | .dct => true | _ => false
def isOwn (c : Str) : TK → Bool | .own d => d == c | _ => false
theorem isi_ty {K : PySem.W.Frag} {ad : Ads} {n : String} {t : TK → Bool} (h0 : ∀ c C, ad (.inl c) = some C → PySem.W.kitOne K (.ref C) (.type n) = some false)
    (h : ([kitB "NoneType" n, kitB "bool" n, kitB "int" n, kitB "str" n, kitB "tuple" n, kitB "list" n, kitB "dict" n] == [some (t .non), some (t .bl), some (t .int), some (t .str), some (t .tup), some (t .lst), some (t .dct)]) = true)
    (ho : ∀ c, t (.own c) = false) : IsiOk K ad (.type n) t := by
  have h' := eq_of_beq h
  simp only [List.cons.injEq, and_true] at h'
  obtain ⟨h1, h2, h3, h4, h5, h6, h7⟩ := h'
  intro k v e
  cases k <;> simp only [TKV] at e
  · subst e; exact kit_ty h1
  · subst e; exact kit_ty h2
  · subst e; exact kit_ty h3
  · subst e; exact kit_ty h4
  · subst e; exact kit_ty h5
  · subst e; exact kit_ty h6
  · subst e; exact kit_ty h7
  · obtain ⟨C, hC, rfl⟩ := e
    rw [ho]
    exact h0 _ _ hC
/-- the name of a class -/
structure ClE (X : Cx) (e : Expr) (c : V) (u : Value) : Prop where
  run : PE X e (tC c)
  cls : ClsV c u
structure ClEs (X : Cx) (es : List Expr) (cs : List V) (us : List Value) : Prop where
  run : PA X es fun σ H Q => Q cs H
  cls : Paired ClsV cs us
def eIsi (t : TK → Bool) (fe : EF) : EF := fun env S => (fe env S).bind fun x S1 => match tyK S1 x with
  | some k => .ok (.bl (t k)) S1
  | none => .stuck
section
variable {X : Cx} {ad : Ads} {W : WX} {p pos pt px : Pos} {e ce : Expr} {es : List Expr} {fe : EF} {x : Str}
theorem cl_ty {n : String} (hg : Gl X x) (hm : X.mg x = none) (hv : bootBuiltins x = some (.type n)) (hn : x ≠ "__name__" := by decide) (hd : (x == ("__debug__" : Str)) = false := by decide) : ClE X (.Name x px) (.ty n) (.type n) :=
  ⟨pe_bltn hg hm hv rfl hn hd, .ty n⟩
theorem cl_own {C : Addr} (hg : Gl X x) (hm : X.mg x = some (.ref C)) (hd : (x == ("__debug__" : Str)) = false := by decide) : ClE X (.Name x px) (.ref C) (.ref C) := ⟨pe_glob hg hm rfl hd, .own C⟩
theorem cls_nil : ClEs X [] [] [] := ⟨pa_nil, .nil⟩
theorem cls_cons {c : V} {u : Value} {cs : List V} {us : List Value} (h : ClE X e c u) (h2 : ClEs X es cs us) (he : starEach (e :: es) X.env = (false, eval e X.env) :: starEach es X.env := by rfl) : ClEs X (e :: es) (c :: cs) (u :: us) :=
  ⟨pa_cons h.run h2.run he, .cons h.cls h2.cls⟩
theorem g_isi {c : V} {u : Value} {t : TK → Bool} (hI : ∀ c C, ad (.inl c) = some C → InsTy X.K C) (hg : Gl X "isinstance") (hm : X.mg "isinstance" = none) (he : GE X ad W e fe) (hc : ClE X ce c u) (ht : IsiOk X.K ad u t)
    (h1 : starEach [e, ce] X.env = [(false, eval e X.env), (false, eval ce X.env)] := by rfl) (h2 : starEach [ce] X.env = [(false, eval ce X.env)] := by rfl) :
    GE X ad W (.Call (.Name "isinstance" p) [e, ce] [] pos) (eIsi t fe) := by
  have h3 : starEach [e, ce] X.env = (false, eval e X.env) :: starEach [ce] X.env := by rw [h1, h2]
  refine g_of (pe_callB call_isi hg hm (by rfl) (pa_cons he.run (pa_cons hc.run pa_nil h2) h3) (he := h3) (hpl := by rw [h2]; rfl)) fun F ρ env S σ H Q rs q => ⟨F, ρ, env, S, rs, Aft.bind q fun F1 ρ1 S1 x w H1 l1 rs1 rx q1 => ?_⟩
  cases e1 : tyK S1 x with
  | none => simp only [e1] at q1; exact q1.elim
  | some k =>
    simp only [e1] at q1
    obtain ⟨v, ty, kv⟩ := tyx_of hI rs1.s rx e1
    exact ⟨w, c, v, u, t k, rfl, hc.cls, ty, ht k v kv, q1 F1 ρ1 _ H1 .refl rs1 (.bl _)⟩
def anyT : List (TK → Bool) → TK → Bool
  | [], _ => false
  | t :: ts, k => t k || anyT ts k
inductive IsiAll (K : PySem.W.Frag) (ad : Ads) : List Value → List (TK → Bool) → Prop
  | nil : IsiAll K ad [] []
  | cons {u : Value} {us : List Value} {t : TK → Bool} {ts : List (TK → Bool)} : IsiOk K ad u t → IsiAll K ad us ts → IsiAll K ad (u :: us) (t :: ts)
theorem IsiAll.any {K : PySem.W.Frag} {ad : Ads} {k : TK} {v : Value} (kv : TKV ad k v) : ∀ {us : List Value} {ts : List (TK → Bool)}, IsiAll K ad us ts → PySem.W.kitAny K v us = some (anyT ts k)
  | _, _, .nil => kitAny_nil
  | _, _, .cons (t := t) (ts := ts) h r => by
    refine kitAny_cons (h k v kv) (fun hb => ?_) fun hb => ?_
    · show _ = some (t k || anyT ts k)
      rw [hb]
      exact IsiAll.any kv r
    · show (t k || anyT ts k) = true
      rw [hb]; rfl
theorem g_isiT {cs : List V} {us : List Value} {ts : List (TK → Bool)} {j} (hI : ∀ c C, ad (.inl c) = some C → InsTy X.K C) (hg : Gl X "isinstance") (hm : X.mg "isinstance" = none) (he : GE X ad W e fe) (hc : ClEs X es cs us) (ht : IsiAll X.K ad us ts)
    (hl : us.length ≤ 30 := by decide) (h1 : starEach [e, .Tuple es j pt] X.env = [(false, eval e X.env), (false, eval (.Tuple es j pt) X.env)] := by rfl) (h2 : starEach [.Tuple es j pt] X.env = [(false, eval (.Tuple es j pt) X.env)] := by rfl) :
    GE X ad W (.Call (.Name "isinstance" p) [e, .Tuple es j pt] [] pos) (eIsi (anyT ts) fe) := by
  have h3 : starEach [e, .Tuple es j pt] X.env = (false, eval e X.env) :: starEach [.Tuple es j pt] X.env := by rw [h1, h2]
  refine g_of (pe_callB call_isiT hg hm (by rfl) (pa_cons he.run (pa_cons (pe_tup hc.run) pa_nil h2) h3) (he := h3) (hpl := by rw [h2]; rfl)) fun F ρ env S σ H Q rs q => ⟨F, ρ, env, S, rs, Aft.bind q fun F1 ρ1 S1 x w H1 l1 rs1 rx q1 => ?_⟩
  cases e1 : tyK S1 x with
  | none => simp only [e1] at q1; exact q1.elim
  | some k =>
    simp only [e1] at q1
    have hcl : cs.length = us.length := Paired.length hc.cls
    refine ⟨by rw [hcl, sizeLine_eq]; omega, fun tp htp => ?_⟩
    obtain ⟨rs2, l2⟩ := rs1.lay (o := .tup cs) htp
    obtain ⟨v, ty, kv⟩ := tyx_of hI rs2.s (rx.mono l2) e1
    exact ⟨w, tp, cs, v, us, anyT ts k, rfl, upd_same, hc.cls, ty, ht.any kv, q1 _ ρ1 _ _ l2 rs2 (.bl _)⟩
end
end Fl
namespace Fl
open PySem PySem.Spec L2
open PyProof.Rows hiding St

/-! ### isinstance(e, C), e the error that the suite holds -/
def rIsX (K : PySem.W.Frag) (C a dd : Addr) : List V → Hp → VK → Prop := fun xs H Q => ∃ (c : V) (u : Value) (b : Bool) (fs : List (Str × V)), xs = [.ref a, c] ∧ ClsV c u ∧ PySem.W.kitOne K (.ref C) u = some b ∧ H dd = some (.xd fs) ∧ Q (.bl b) H
theorem call_isX {X : Cx} {a C dd : Addr} {oe : Obj} {pn : List (Addr × Obj)} (T : ExcC X.K C) (hz : Zc (.ref C) (some dd) oe) (hf : ∃ vs, oe.data = .fields vs) : CallR (X.suite a ((a, oe) :: pn)) (.builtin "isinstance") (rIsX X.K C a dd) := by
  intro pins s σ H xs us Q I r h
  obtain ⟨c, u, b, fs, rfl, hc, hb, hx, q⟩ := h
  obtain ⟨u1, u2, rfl, r1, r2⟩ := vals2 r
  cases (show u1 = Value.ref a from r1)
  have e2 := hc.eq r2
  subst e2
  obtain ⟨here, _⟩ := I.pin (a, oe) (List.mem_append_left _ List.mem_cons_self)
  obtain ⟨vs, hd⟩ := hf
  have hX : ObjOk X.prog X.w H s.heap dd (.xd fs) := I.hok dd _ hx
  obtain ⟨mA, hns, _⟩ := hX
  obtain ⟨od, ho, _⟩ := lookIn_ns hns
  have J : PySem.W.InstAt s.heap a oe C (some od) := ⟨here, hz.1, by unfold PySem.W.notCls; rw [hd] <;> rfl, by rw [hz.2]; exact ho⟩
  obtain ⟨cd, hcl, _⟩ := PySem.W.any_some T.hd
  have hsome : (PySem.W.clsIn X.K C).isSome = true := by rw [hcl]; rfl
  exact PySem.W.kia_one (PySem.W.kitx_exc hsome T.hg T.hk T.hs T.ha T.hn T.ht T.hm) I.kIn J hb (fun z => nomatch z) fun tk => ⟨.bl b, H, I.kept (t' := tk) fun _ _ z => z, rfl, q⟩
def eIsX (i : Nat) (t : Str → Bool) (c : Str) (fs : List (Str × Val)) : EF := fun env S => match env[i]? with
  | some none => if fs.isEmpty then .stuck else .ok (.bl (t c)) S
  | _ => .stuck
theorem g_isx {X : Cx} {ad : Ads} {W : WX} {i : Nat} {n c : Str} {a dx C : Addr} {oe : Obj} {d : Option Addr} {fs : List (Str × Val)} {pn : List (Addr × Obj)} {p pe pos : Pos} {ce : Expr} {cv : V} {u : Value} {t : Str → Bool}
    (T : ∀ c C, ad (.inr c) = some C → ExcC X.K C) (ht : ∀ c C, ad (.inr c) = some C → PySem.W.kitOne X.K (.ref C) u = some (t c)) (hc : ClE (X.suite a ((a, oe) :: pn)) ce cv u)
    (hz : Zc (.ref C) d oe) (hv : ∃ vs, oe.data = .fields vs) (hC : ad (.inr c) = some C) (hd : fs = [] ∨ d = some dx) (hg : Gl X "isinstance") (hm : X.mg "isinstance" = none) (hN : X.N[i]? = some n) (hl : X.env.scope.names.lookup n = some .local := by rfl)
    (hd1 : (n == ("__debug__" : Str)) = false := by decide) (hd2 : (n == ("__classdict__" : Str)) = false := by decide)
    (h1 : starEach [.Name n pe, ce] X.env = [(false, eval (.Name n pe) X.env), (false, eval ce X.env)] := by rfl) (h2 : starEach [ce] X.env = [(false, eval ce X.env)] := by rfl) :
    GE (X.suite a ((a, oe) :: pn)) (ad.on i a dx fs) W (.Call (.Name "isinstance" p) [.Name n pe, ce] [] pos) (eIsX i t c fs) := by
  have h3 : starEach [.Name n pe, ce] X.env = (false, eval (.Name n pe) X.env) :: starEach [ce] X.env := by rw [h1, h2]
  by_cases hfs : fs = []
  · subst hfs
    have hnone : ∀ env S, eIsX i t c [] env S = .stuck := fun env S => by unfold eIsX; split <;> rfl
    exact ⟨⟨fun pins s σ H Q I ⟨F, ρ, env, S, rs, q⟩ => by rw [hnone] at q; exact q.elim⟩⟩
  · have hd' : d = some dx := hd.resolve_left hfs
    subst hd'
    refine g_of (pe_callB (X := X.suite a ((a, oe) :: pn)) (call_isX (T c C hC) hz hv) hg hm (by rfl) (pa_cons (pe_var (X := X.suite a ((a, oe) :: pn)) (i := i) hN (.inl hl) hd1 hd2) (pa_cons hc.run pa_nil h2) h3) (he := h3) (hpl := by rw [show starEach [ce] (X.suite a ((a, oe) :: pn)).env = _ from h2]; rfl)) fun F ρ env S σ H Q rs q => ?_
    unfold eIsX at q
    split at q
    · rename_i e
      obtain ⟨e1, hF⟩ := rs.e.hold i a dx fs rfl e
      rcases hF with e3 | ⟨vs, q1, q2⟩
      · exact absurd e3 hfs
      · have hne : fs.isEmpty = false := by cases fs with
          | nil => exact absurd rfl hfs
          | cons _ _ => rfl
        rw [hne] at q
        exact ⟨_, e1, cv, u, t c, vs, rfl, hc.cls, ht c C hC, rs.s.sub _ _ q1, q F ρ _ H .refl rs (.bl _)⟩
    · exact q.elim
end Fl
namespace Fl
open PySem PySem.Spec L2
open PyProof.Rows hiding St

/-! ### self.f = e; self.f op= e -/
/-- the cell that a field is put into -/
def putAt (f : Str) (c0 : Option Str) (x y : Val) (env : Env) (S : Store) : ResS := match x with
  | .ref i => match S[i]? with
    | some (true, .ins c fs) => if fs.length < 1000 ∧ (c0 = none ∨ c0 = some c) then .nx env (S.set i (true, .ins c (putV f y fs))) else .stuck
    | _ => .stuck
  | _ => .stuck
def sFld (f : Str) (fo fe : EF) : SF := fun env S => (fe env S).go env fun y S1 => (fo env S1).go env fun x S2 => putAt f none x y env S2
def sFAug (f : Str) (o : Val → Val → Store → Res Val) (fo fe : EF) : SF := fun env S => (fo env S).go env fun x S1 => match insOf S1 x with
  | some (c, fs) => match fs.lookup f with
    | some v => (fe env S1).go env fun y S2 => (o v y S2).go env fun z S3 => putAt f (some c) x z env S3
    | none => .stuck
  | none => .stuck
section
variable {X : Cx} {ad : Ads} {W : WX} {f : Str} {pos p pt : Pos} {o e : Expr} {fo fe : EF}
theorem put_read {c0 : Option Str} {F ρ env S σ H D} {x y : Val} {u v : V} (rs : RS X.K ad F ρ env S σ H) (rx : Rp X.K ad F ρ x u) (ry : Rp X.K ad F ρ y v) (q : AftS X.K ad W F ρ (putAt f c0 x y env S) D) :
    ∃ a c C dx fs, u = .ref a ∧ H a = some (.ins C dx fs) ∧ ad (.inl c) = some C ∧ fs.length < 1000 ∧ (c0 = none ∨ c0 = some c) ∧ D.nx σ (upd H a (.ins C dx (putF f v fs))) := by
  cases rx <;> first | exact q.elim | skip
  rename_i i a hr
  unfold putAt at q
  dsimp only at q
  split at q
  · rename_i c fs hs
    split at q
    · rename_i hl
      obtain ⟨a', o', e1, ⟨C, dx, vs, e2, hC, r2⟩, e3, _⟩ := rs.s.cel _ _ _ hs
      subst e2
      rw [hr] at e1; cases e1
      exact ⟨a, c, C, dx, vs, rfl, (e3 rfl).1, hC, by rw [← r2.length]; exact hl.1, hl.2, q F ρ σ _ .refl (rs.put hs hr ⟨C, dx, _, rfl, hC, Rpf.put ry r2⟩)⟩
    · exact q.elim
  · exact q.elim
theorem gs_fld (T : ∀ c C, ad (.inl c) = some C → Cls X.K C ∧ NoAttr X.K C f) (ho : GE X ad W o fo) (he : GE X ad W e fe) (hs : swapsWith e (some (.Attribute o f p)) pos.line X.env = pure false := by rfl) :
    GS X ad W (.Assign [.Attribute o f p] e pos) (sFld f fo fe) := by
  refine gs_of (ps_fld ho.run he.run hs) fun F ρ env S σ H D rs q => ⟨F, ρ, env, S, rs, AftS.go q fun F1 ρ1 S1 y v H1 l1 rs1 ry q1 => ⟨F1, ρ1, env, S1, rs1, AftS.go q1 fun F2 ρ2 S2 x u H2 l2 rs2 rx q2 => ?_⟩⟩
  obtain ⟨a, c, C, dx, fs, e1, e2, hC, e3, _, e4⟩ := put_read rs2 rx (ry.mono l2) q2
  exact ⟨a, C, dx, fs, e1, e2, (T c C hC).1, (T c C hC).2, e3, e4⟩
theorem gs_faug {op : Operator} {r : R2} {ov : Val → Val → Store → Res Val} (hop : OpR X (inplaceOp op) r) (hs : OpS X.K ad r ov) (T : ∀ c C, ad (.inl c) = some C → Cls X.K C ∧ NoAttr X.K C f) (ho : GE X ad W o fo) (he : GE X ad W e fe) :
    GS X ad W (.AugAssign (.Attribute o f pt) op e pos) (sFAug f ov fo fe) := by
  refine gs_of (ps_fldaug (rd := r) ho.run he.run hop) fun F ρ env S σ H D rs q => ⟨F, ρ, env, S, rs, AftS.go q fun F1 ρ1 S1 x u H1 l1 rs1 rx q1 => ?_⟩
  cases e1 : insOf S1 x with
  | none => simp only [e1] at q1; exact q1.elim
  | some cf =>
    obtain ⟨c, fs⟩ := cf
    simp only [e1] at q1
    cases e2 : fs.lookup f with
    | none => simp only [e2] at q1; exact q1.elim
    | some v =>
      simp only [e2] at q1
      obtain ⟨a, C, dx, vs, rfl, hC, h2, r2⟩ := rs1.s.ins rx e1
      obtain ⟨w, h3, r3⟩ := r2.lookup e2
      refine ⟨a, C, dx, vs, w, rfl, h2, (T c C hC).1, (T c C hC).2, h3, F1, ρ1, env, S1, rs1, AftS.go q1 fun F2 ρ2 S2 y u2 H2 l2 rs2 ry q2 => ?_⟩
      refine hs W F2 ρ2 env S2 σ H2 v y w u2 _ rs2 (r3.mono l2) ry ?_
      refine AftS.go q2 fun F3 ρ3 S3 z u3 H3 l3 rs3 rz q3 => ?_
      obtain ⟨a', c', C', dx', fs', e3, e4, hC', e5, e6, e7⟩ := put_read rs3 (rx.mono (l2.trans l3)) rz q3
      cases e3
      rcases e6 with e6 | e6
      · cases e6
      · cases e6
        rw [hC] at hC'; cases hC'
        exact ⟨dx', fs', e4, e5, e7⟩
end

/-! ### a < b < c -/
def eChain (o1 o2 : Val → Val → Store → Res Val) (fa fb fc : EF) : EF := fun env S => (fa env S).bind fun x S1 => (fb env S1).bind fun y S2 => (o1 x y S2).bind fun z S3 => match z with
  | .bl true => (fc env S3).bind fun w S4 => o2 y w S4
  | .bl false => .ok (.bl false) S3
  | _ => .stuck
section
variable {X : Cx} {ad : Ads} {W : WX} {pos : Pos} {a b c : Expr} {fa fb fc : EF} {op1 op2 : CmpOp} {r1 r2 : R2} {o1 o2 : Val → Val → Store → Res Val}
theorem g_chain (h1 : OpR X (compareOp op1) r1) (s1 : OpS X.K ad r1 o1) (h2 : OpR X (compareOp op2) r2) (s2 : OpS X.K ad r2 o2) (ha : GE X ad W a fa) (hb : GE X ad W b fb) (hc : GE X ad W c fc)
    (hm : lastMarks [op1, op2] [b, c] = false := by with_unfolding_all rfl) : GE X ad W (.Compare a [op1, op2] [b, c] pos) (eChain o1 o2 fa fb fc) := by
  refine g_of (pe_chain h1 h2 ha.run hb.run hc.run hm) fun F ρ env S σ H Q rs q => ⟨F, ρ, env, S, rs, Aft.bind q fun F1 ρ1 S1 x u H1 l1 rs1 rx q1 => ⟨F1, ρ1, env, S1, rs1, Aft.bind q1 fun F2 ρ2 S2 y v H2 l2 rs2 ry q2 => ?_⟩⟩
  refine s1 W F2 ρ2 env S2 σ H2 x y u v _ rs2 (rx.mono l2) ry (Aft.bind q2 fun F3 ρ3 S3 z w H3 l3 rs3 rz q3 => ?_)
  cases rz <;> first | exact q3.elim | skip
  rename_i k
  refine ⟨k, rfl, ?_⟩
  cases k with
  | false => exact q3 F3 ρ3 _ H3 .refl rs3 (.bl _)
  | true =>
    refine ⟨F3, ρ3, env, S3, rs3, Aft.bind q3 fun F4 ρ4 S4 t w4 H4 l4 rs4 rt q4 => ?_⟩
    exact s2 W F4 ρ4 env S4 σ H4 y t v w4 Q rs4 (ry.mono (l3.trans l4)) rt q4
end
end Fl
namespace Fl
open PySem PySem.Spec L2
open PyProof.Rows hiding St

/-! ### f-strings -/
def fmtV (x : Val) (S : Store) : Res Val := match x with
  | .str y => if y.length ≤ sizeLine then .ok (.str y) S else .stuck
  | .int i => if i.natAbs.log2 < 1920 then .ok (.str (toString i)) S else .stuck
  | _ => .stuck
def fmtR (x : Val) (S : Store) : Res Val := match x with
  | .str y => if (reprText y).length ≤ sizeLine then .ok (.str (reprText y)) S else .stuck
  | .int i => if i.natAbs.log2 < 1920 then .ok (.str (toString i)) S else .stuck
  | _ => .stuck
def eFmt (f : EF) : EF := fun env S => (f env S).bind fmtV
def eFmtR (f : EF) : EF := fun env S => (f env S).bind fmtR
def jGo : List EF → Str → EF
  | [], acc => fun _ S => .ok (.str acc) S
  | f :: fs, acc => fun env S => (f env S).bind fun x S1 => match x with
    | .str y => if (acc ++ y).length ≤ sizeLine then jGo fs (acc ++ y) env S1 else .stuck
    | _ => .stuck
inductive GJ (X : Cx) (ad : Ads) (W : WX) : List Expr → List EF → Prop
  | nil : GJ X ad W [] []
  | cons {e : Expr} {f : EF} {es : List Expr} {fs : List EF} : GE X ad W e f → GJ X ad W es fs → GJ X ad W (e :: es) (f :: fs)
section
variable {X : Cx} {ad : Ads} {W : WX} {pos : Pos}
theorem g_fmt {e : Expr} {f : EF} (h : GE X ad W e f) : GE X ad W (.FormattedValue e (-1) none pos) (eFmt f) := by
  refine g_of (pe_fmt h.run) fun F ρ env S σ H Q rs q => ⟨F, ρ, env, S, rs, Aft.bind q fun F1 ρ1 S1 x u H1 l1 rs1 rx q1 => ?_⟩
  cases rx <;> first | exact q1.elim | skip
  · unfold fmtV at q1
    dsimp only at q1
    split at q1
    · rename_i hl
      exact .inr ⟨_, rfl, hl, q1.pure rs1 (.str _)⟩
    · exact q1.elim
  · unfold fmtV at q1
    dsimp only at q1
    split at q1
    · rename_i hl
      exact .inl ⟨_, rfl, hl, q1.pure rs1 (.str _)⟩
    · exact q1.elim
theorem g_fmtR {e : Expr} {f : EF} (h : GE X ad W e f) : GE X ad W (.FormattedValue e 114 none pos) (eFmtR f) := by
  refine g_of (pe_fmtR h.run) fun F ρ env S σ H Q rs q => ⟨F, ρ, env, S, rs, Aft.bind q fun F1 ρ1 S1 x u H1 l1 rs1 rx q1 => ?_⟩
  cases rx <;> first | exact q1.elim | skip
  · unfold fmtR at q1
    dsimp only at q1
    split at q1
    · rename_i hl
      exact .inr ⟨_, rfl, hl, q1.pure rs1 (.str _)⟩
    · exact q1.elim
  · unfold fmtR at q1
    dsimp only at q1
    split at q1
    · rename_i hl
      exact .inl ⟨_, rfl, hl, q1.pure rs1 (.str _)⟩
    · exact q1.elim
theorem GJ.pj {es : List Expr} {fs : List EF} (h : GJ X ad W es fs) : PJ X es (fs.map fun f => tG X.K ad (Rp X.K ad) W f) := by
  induction h with
  | nil => exact .nil
  | cons a _ ih => exact .cons a.run ih
theorem j_read {σ : L2.St} {Q : VK} : ∀ {fs : List EF} {acc : Str} {F : Hp} {ρ : Rts} {env : Env} {S : Store} {H : Hp}, RS X.K ad F ρ env S σ H → Aft X.K ad (Rp X.K ad) W F ρ env σ (jGo fs acc env S) Q →
    tJs (fs.map fun f => tG X.K ad (Rp X.K ad) W f) acc σ H fun out H1 => Q (.str out) H1
  | [], acc, F, ρ, env, S, H, rs, q => q F ρ _ H .refl rs (.str _)
  | f :: fs, acc, F, ρ, env, S, H, rs, q => by
    refine ⟨F, ρ, env, S, rs, Aft.bind q fun F1 ρ1 S1 x u H1 l1 rs1 rx q1 => ?_⟩
    cases rx <;> first | exact q1.elim | skip
    rename_i y
    dsimp only at q1
    split at q1
    · rename_i hl
      exact ⟨y, rfl, hl, j_read rs1 q1⟩
    · exact q1.elim
theorem g_join2 {v1 v2 : Expr} {rest : List Expr} {fs : List EF} (h : GJ X ad W (v1 :: v2 :: rest) fs) : GE X ad W (.JoinedStr (v1 :: v2 :: rest) pos) (jGo fs Str.empty) :=
  g_of (pe_joined h.pj) fun F ρ env S σ H Q rs q => j_read rs q
theorem g_join1 {e : Expr} {f : EF} (h : GE X ad W e f) : GE X ad W (.JoinedStr [e] pos) f := ⟨pe_joined1 h.run⟩
end
end Fl
namespace Fl
open PySem PySem.Spec L2
open PyProof.Rows hiding St
open ClX (CRead CMet pin_at unpinE getmethcm_ok callwith_cm base_none)

/-! ### classmethods; classes as values; C(*xs) -/
structure ClmAt (P : Program) (w : World) (K : PySem.W.Frag) (mg : Str → Option Value) (base : Heap) (ad : Ads) (k : Nat) (c m : Str) (n : Nat) (dv : List Val) (f : BF) : Prop where
  ex : ∃ C mc p g fd ps dvs ds, ad (.inl c) = some C ∧ CRead K C mc ∧ CMet K C mc m p g ∧ FnOk P w K mg base (L2.CX P w) k g fd ps (spOf K ad n f) ∧ ps.length = n ∧ Binds K fd ps ds ∧ Vals dvs ds ∧ ∀ F ρ, Rps K ad F ρ dv dvs
def tCMethS (C : Addr) (sp : Sp) (dvs : List V) (E : L2.St → XK) (ta : TE) (t : TA) : TE := fun σ H Q => ta σ H fun x H1 => x = .ref C ∧ t σ H1 fun vs H2 => sp (.ref C :: (vs ++ dvs)) H2 Q (E σ)
section
variable {X : Cx} {k : Nat} {f C p g : Addr} {mc : Value} {fd : FuncData} {ps : List Str} {sp : Sp} {dvs : List V} {ds : List Value} {E : L2.St → XK} {x m : Str} {ppos pos apos : Pos} {e o : Expr} {es : List Expr} {ta : TE} {t : TA} {CX : CXT}
theorem run_cmS {pins : List (Addr × Obj)} {σ : L2.St} {H : Hp} {s : Shared} {q : Addr} {Q : VK} {us : List Value} {vs : List V} (F : FnOk X.prog X.w X.K X.mg X.base CX k g fd ps sp) (hr : Room k X.A) (hb : Binds X.K fd ps ds) (hd : Vals dvs ds) (hx : PassesAt CX X σ (E σ))
    (I : Inv X ((q, PySem.W.methodObj (.ref g) (.ref C)) :: pins) σ H s) (r : Vals vs us) (h : sp (.ref C :: (vs ++ dvs)) H Q (E σ)) : wpAny (model X.prog X.w) X.A (call (.ref q) us) (EP X pins σ Q) X.xe s := by
  have r2 : Vals (V.ref C :: (vs ++ dvs)) (Value.ref C :: (us ++ ds)) := .cons rfl (r.append hd)
  have hl : (Value.ref C :: us ++ ds).length = ps.length := by
    have e := r2.length
    rw [F.len _ _ _ _ h] at e
    exact e.symm
  have z : wpAny (model X.prog X.w) X.A (call (.ref q) us) (EP X ((q, PySem.W.methodObj (.ref g) (.ref C)) :: pins) σ Q) X.xe s := by
    refine wpAny_call (PySem.W.method_call (pin_at I) (codeAny_mono (F.run X.A X.stack s H ⟨Value.ref C :: us, []⟩ (Value.ref C :: (us ++ ds)) _ Q (E σ) hr I.env0 (hb s _ I.kIn hl) r2 h) fun r s' hq => ?_))
    cases r with
    | error er => exact hx _ H s er s' I hq
    | ok fl =>
      cases fl with
      | ret u => exact I.after hq
      | next => exact False.elim hq
      | brk => exact False.elim hq
      | cont => exact False.elim hq
  exact thn z fun _ _ y => unpinE y
theorem pe_cmethS {pl : Sem Bool} (he : PE X o ta) (r : CRead X.K C mc) (c : CMet X.K C mc m p g) (F : FnOk X.prog X.w X.K X.mg X.base CX k g fd ps sp) (hr : Room k X.A) (hb : Binds X.K fd ps ds) (hd : Vals dvs ds) (hx : ∀ σ, PassesAt CX X σ (E σ)) (ha : PA X (e :: es) t)
    (hst : starEach (e :: es) X.env = (false, eval e X.env) :: starEach es X.env := by rfl) (hpl : (backTo pos (starEach es X.env)).any (·.1) = false := by rfl)
    (ht : eval (.Call (.Attribute o m apos) (e :: es) [] pos) X.env = (do
      let ov ← eval o X.env
      standAt apos.atName
      let (f, first) ← holding [ov] (getMethod ov m pl)
      callWith pos f first (backTo pos (starEach (e :: es) X.env)) (backToKw pos (keywordEach [] X.env))) := by rfl) :
    PE X (.Call (.Attribute o m apos) (e :: es) [] pos) (tCMethS C sp dvs E ta t) := by
  refine ⟨fun pins s σ H Q I h => ?_⟩
  refine PySem.W.methodCall_KW (pl := pl) (thn (he.run pins s σ H _ I h) fun u s1 ⟨x, H1, I1, rx, ex, q⟩ => ?_) ht
  subst ex
  obtain rfl : u = Value.ref C := rx
  refine getmethcm_ok I1 r c fun s2 I2 => callwith_cm I2 (base_none I1 (Nat.le_refl _)) c.fi (thn (ha.run pos _ s2 σ H1 _ I2 q) fun us s3 ⟨vs, H2, I3, rv, q2⟩ => ⟨⟨pin_at I3, I3.kIn⟩, run_cmS F hr hb hd (hx σ) I3 rv q2⟩) hst hpl
/-- C(..), C held by a local name -/
theorem pe_makeL {i : Nat} (M : Mk X.K C f) (F : FnOk X.prog X.w X.K X.mg X.base CX k f fd ps sp) (hr : Room (k + 1) X.A) (hN : X.N[i]? = some x) (hv : Vis X.env.scope x) (hb : Binds X.K fd ps ds) (hd : Vals dvs ds) (hx : ∀ σ, PassesAt CX X σ (E σ))
    (ha : PA X (e :: es) t) (hdb : (x == ("__debug__" : Str)) = false := by decide) (hcd : (x == ("__classdict__" : Str)) = false := by decide)
    (he : starEach (e :: es) X.env = (false, eval e X.env) :: starEach es X.env := by rfl) (hpl : (backTo pos (starEach es X.env)).any (·.1) = false := by rfl) :
    PE X (.Call (.Name x ppos) (e :: es) [] pos) (fun σ H Q => σ[i]? = some (some (.ref C)) ∧ tMakeS C sp dvs E t σ H Q) := by
  refine ⟨fun pins s σ H Q I ⟨h0, h⟩ => ?_⟩
  refine wpAny_Call_Name_kw (thn ((pe_var (pos := ppos) hN hv hdb hcd).run pins s σ H (fun v H1 => v = .ref C ∧ H1 = H) I ⟨.ref C, h0, rfl, rfl⟩) fun u s1 ⟨v, H1, I1, r1, e1, e2⟩ => ?_)
  subst e1 e2
  cases r1
  refine PySem.W.callWith_K (h₀ := X.base) I.ok.mod.kin M.kp (thn (ha.run pos pins s1 σ _ _ I1 h) fun us s2 ⟨vs, H2, I2, r, q⟩ => ⟨I2.kIn, ?_⟩) he hpl
  exact run_makeS M F hr hb hd (hx σ) I2 r q
/-- C(*xs) -/
theorem pe_makeX {sp_ : Pos} {te : TE} (M : Mk X.K C f) (F : FnOk X.prog X.w X.K X.mg X.base CX k f fd ps sp) (hr : Room (k + 1) X.A) (hg : Gl X x) (hm : X.mg x = some (.ref C)) (hb : Binds X.K fd ps ds) (hd : Vals dvs ds) (hx : ∀ σ, PassesAt CX X σ (E σ))
    (he : PE X e te) (hdb : (x == ("__debug__" : Str)) = false := by decide) (hst : starEach [.Starred e sp_] X.env = [(true, eval e X.env)] := by rfl) :
    PE X (.Call (.Name x ppos) [.Starred e sp_] [] pos) (fun σ H Q => te σ H fun y H1 => ∃ a xs, y = V.ref a ∧ (SqT X.K H1 a xs ∨ SqL X.K H1 a xs) ∧ ∀ z dx, H1 z = none → H1 dx = none → dx ≠ z →
      sp (.ref z :: (xs ++ dvs)) (upd (upd H1 dx (.own z)) z (.ins C dx [])) (fun v H2 => v = .non ∧ Q (.ref z) H2) (E σ)) := by
  refine ⟨fun pins s σ H Q I h => ?_⟩
  refine wpAny_Call_Name_kw (ld_glob I hg hm ?_ hdb)
  refine PySem.W.callWith_S (h₀ := X.base) I.ok.mod.kin M.kp (thn (he.run pins s σ H _ I h) fun v s1 ⟨y, H1, I1, ry, a, xs, ey, hxs, q⟩ => ?_) hst
  subst ey
  obtain rfl : v = Value.ref a := ry
  exact StX.star_any I1 hxs fun us s2 I2 rv => ⟨I2.kIn, run_makeS M F hr hb hd (hx σ) I2 rv q⟩
end
def eCMet (c : Str) (f : BF) (n : Nat) (dv : List Val) (fo : EF) (a : AF) : EF := fun env S => (fo env S).bind fun x S1 => match x with
  | .cls c' => if c' = c then (a env S1).bind fun xs S2 => if (x :: (xs ++ dv)).length = n then f (x :: (xs ++ dv)) S2 else .stuck else .stuck
  | _ => .stuck
def eMakL (i : Nat) (c : Str) (keep : Bool) (f : BF) (n : Nat) (dv : List Val) (a : AF) : EF := fun env S => match env[i]? with
  | some (some (.cls c')) => if c' = c then eMak c keep f n dv a env S else .stuck
  | _ => .stuck
def aSeq (f : EF) : AF := fun env S => (f env S).bind fun x S1 => match seqOf S1 x with
  | some xs => .ok xs S1
  | none => .stuck
section
variable {X : Cx} {ad : Ads} {W : WX} {k n : Nat} {x c m : Str} {dv : List Val} {f : BF} {pos p apos : Pos} {e o : Expr} {es : List Expr} {a : AF} {fo : EF}
theorem g_clsN (hg : Gl X c) (hm : ∃ C, X.mg c = some (.ref C) ∧ ad (.inl c) = some C) (hd : (c == ("__debug__" : Str)) = false := by decide) : GE X ad W (.Name c p) (eC (.cls c)) := by
  obtain ⟨C, h1, h2⟩ := hm
  exact g_of (pe_glob (v := .ref C) hg h1 rfl hd) fun F ρ env S σ H Q rs q => q F ρ _ H .refl rs (.cls h2)
theorem g_cmet {pl : Sem Bool} (D : ClmAt X.prog X.w X.K X.mg X.base ad k c m n dv f) (hr : Room k X.A) (tk : Takes X W) (ho : GE X ad W o fo) (ha : GA X ad W (e :: es) a)
    (hst : starEach (e :: es) X.env = (false, eval e X.env) :: starEach es X.env := by rfl) (hpl : (backTo pos (starEach es X.env)).any (·.1) = false := by rfl)
    (ht : eval (.Call (.Attribute o m apos) (e :: es) [] pos) X.env = (do
      let ov ← eval o X.env
      standAt apos.atName
      let (f, first) ← holding [ov] (getMethod ov m pl)
      callWith pos f first (backTo pos (starEach (e :: es) X.env)) (backToKw pos (keywordEach [] X.env))) := by rfl) :
    GE X ad W (.Call (.Attribute o m apos) (e :: es) [] pos) (eCMet c f n dv fo a) := by
  obtain ⟨C, mc, q, g, fd, ps, dvs, ds, hC, hrd, hcm, hF, hn, hb, hv, hd⟩ := D.ex
  refine g_of (pe_cmethS (E := WE W) (pl := pl) ho.run hrd hcm hF hr hb hv (passAt tk) ha.run hst hpl ht) fun F ρ env S σ H Q rs q => ⟨F, ρ, env, S, rs, Aft.bind q fun F1 ρ1 S1 y u H1 l1 rs1 rx q1 => ?_⟩
  cases rx <;> first | exact q1.elim | skip
  rename_i c' C' hC'
  dsimp only at q1
  split at q1
  · rename_i hcc
    subst hcc
    rw [hC] at hC'; cases hC'
    refine ⟨rfl, F1, ρ1, env, S1, rs1, Aft.bind q1 fun F2 ρ2 S2 z v H2 l2 rs2 rz q2 => ?_⟩
    exact sp_call (xs := .cls c' :: z) (us := .ref C :: v) rs2 (.cons (.cls hC) rz) hd q2
  · exact q1.elim
theorem g_makL {i : Nat} (keep : Bool) (D : MakAt X.prog X.w X.K X.mg X.base ad k c n dv f) (hr : Room (k + 1) X.A) (tk : Takes X W) (hN : X.N[i]? = some x) (hv' : Vis X.env.scope x) (ha : GA X ad W (e :: es) a) (hdb : (x == ("__debug__" : Str)) = false := by decide)
    (hcd : (x == ("__classdict__" : Str)) = false := by decide) (he : starEach (e :: es) X.env = (false, eval e X.env) :: starEach es X.env := by rfl) (hpl : (backTo pos (starEach es X.env)).any (·.1) = false := by rfl) :
    GE X ad W (.Call (.Name x p) (e :: es) [] pos) (eMakL i c keep f n dv a) := by
  obtain ⟨C, fa, fd, ps, dvs, ds, hC, hM, hm, hF, hn, hb, hv, hd⟩ := D.ex
  refine g_of (pe_makeL (i := i) (E := WE W) hM hF hr hN hv' hb hv (passAt tk) ha.run hdb hcd he hpl) fun F ρ env S σ H Q rs q => ?_
  unfold eMakL at q
  split at q
  · rename_i c' e1
    split at q
    · rename_i hcc
      subst hcc
      obtain ⟨v', h1, h2⟩ := rs.e.at_ _ _ e1
      cases h2 with
      | cls h3 =>
        rw [hC] at h3; cases h3
        exact ⟨h1, F, ρ, env, S, rs, Aft.bind q fun F1 ρ1 S1 y u H1 l1 rs1 rx q1 => sp_mak hC rs1 rx hd q1⟩
    · exact q.elim
  · exact q.elim
theorem g_makX {sp_ : Pos} (keep : Bool) (D : MakAt X.prog X.w X.K X.mg X.base ad k c n dv f) (hr : Room (k + 1) X.A) (tk : Takes X W) (hg : Gl X c) (he : GE X ad W e fo) (hdb : (c == ("__debug__" : Str)) = false := by decide)
    (hst : starEach [.Starred e sp_] X.env = [(true, eval e X.env)] := by rfl) : GE X ad W (.Call (.Name c p) [.Starred e sp_] [] pos) (eMak c keep f n dv (aSeq fo)) := by
  obtain ⟨C, fa, fd, ps, dvs, ds, hC, hM, hm, hF, hn, hb, hv, hd⟩ := D.ex
  refine g_of (pe_makeX (E := WE W) hM hF hr hg hm hb hv (passAt tk) he.run hdb hst) fun F ρ env S σ H Q rs q => ?_
  refine ⟨F, ρ, env, S, rs, ?_⟩
  unfold eMak aSeq at q
  cases e1 : fo env S with
  | stuck => rw [e1] at q; exact q.elim
  | exc c' fs S1 => rw [e1] at q; exact q
  | ok y S1 =>
    rw [e1] at q
    intro F1 ρ1 u H1 l1 rs1 ry
    have q1 := Aft.later l1 q
    cases e2 : seqOf S1 y with
    | none => simp only [Res.bind, e2] at q1; exact q1.elim
    | some xs =>
      simp only [Res.bind, e2] at q1
      obtain ⟨b, vs, e3, h1, r1⟩ := rs1.s.seq ry e2
      exact ⟨b, vs, e3, h1.symm, sp_mak hC rs1 r1 hd q1⟩
end
end Fl
namespace Fl
open PySem PySem.Spec L2
open PyProof.Rows hiding St

/-! ### D.get(k), D a dict of the module -/
structure WDict (K : PySem.W.Frag) (w : World) (ad : Ads) (p : Addr) (tab : List (Str × Val)) : Prop where
  ex : ∃ es n, K.lookup p = some ⟨.type "dict", none, .dict es n, #[]⟩ ∧ PySem.W.KeysLit w.params es.toList ∧ (p == sysModules) = false ∧
    ∀ z : Str, (∃ u v x, PySem.W.nsIn K p z = some (some u) ∧ RelV v u ∧ tab.lookup z = some x ∧ ∀ F ρ, Rp K ad F ρ x v) ∨ (PySem.W.nsIn K p z = some none ∧ tab.lookup z = none)
def tWGet (p : Addr) (K : PySem.W.Frag) (ty : TE) : TE := fun σ H Q => ty σ H fun y H2 => ∃ (z : Str) (r : Option Value), y = .str z ∧ PySem.W.nsIn K p z = some r ∧ ∃ v : V, RelV v (r.getD .none) ∧ Q v H2
theorem pe_wget {X : Cx} {p : Addr} {x : Str} {px apos cpos : Pos} {e : Expr} {ty : TE} {es : Array DictEntry} {n : Nat} (hl : X.K.lookup p = some ⟨.type "dict", none, .dict es n, #[]⟩) (hk : PySem.W.KeysLit X.w.params es.toList) (low : (p == sysModules) = false)
    (hg : Gl X x) (hm : X.mg x = some (.ref p)) (he : PE X e ty) (m : M1 X (.Name x px) "get" apos e cpos) (hd : (x == ("__debug__" : Str)) = false := by decide) :
    PE X (.Call (.Attribute (.Name x px) "get" apos) [e] [] cpos) (tWGet p X.K ty) := by
  refine ⟨fun pins s σ H Q I h => ?_⟩
  refine wpAny_Call_method m.base m.few m.line PySem.F.plainAttrs_dict PySem.F.slot_dict_get PySem.F.type_dict_get (ld_glob I hg hm ?_ hd)
  have mo := PySem.W.mapOf_K (prog := X.prog) (w := X.w) I.kIn hl hk
  refine ⟨mo.typeIs, fun b q => (by cases q; exact ⟨_, I.kIn _ _ hl, rfl⟩), ?_⟩
  rw [m.trees]
  refine Calls.callWith_builtin rfl (Calls.evalArgs_plain (Calls.spliced_cons (thn (he.run pins s σ H _ I h) fun iv s2 ⟨y, H2, I2, ry, z, r, ey, hr, v, rv, q2⟩ => Calls.spliced_nil ?_)))
  subst ey
  obtain ⟨t, rfl⟩ := (show ∃ t, iv = Value.str z t from ry)
  have mo2 := PySem.W.mapOf_K (prog := X.prog) (w := X.w) I2.kIn hl hk
  refine call_meetsIn PySem.F.slot_dict_get mo2.typeIs PySem.F.entry_dict_get (PySem.F.args_dict_get_2 _ _) (meets_dict_get (strKind X.prog X.w) p (strKind_is X.prog X.w z t) low) ⟨_, mo2, ?_⟩
  rw [PySem.W.find_K hl hr]
  exact ⟨v, H2, I2.tok _, rv, q2⟩
def eWGet (tab : List (Str × Val)) (fe : EF) : EF := fun env S => (fe env S).bind fun x S1 => match x with
  | .str z => .ok ((tab.lookup z).getD .non) S1
  | _ => .stuck
theorem g_wget {X : Cx} {ad : Ads} {W : WX} {x : Str} {px apos cpos : Pos} {e : Expr} {fe : EF} {tab : List (Str × Val)} (D : ∃ p, X.mg x = some (.ref p) ∧ WDict X.K X.w ad p tab) (hg : Gl X x) (he : GE X ad W e fe)
    (hb : attributeBase (.Name x px) "get" X.env (eval (.Name x px) X.env) = eval (.Name x px) X.env := by rfl)
    (hf : ((backTo cpos (starEach [e] X.env)).all (fun x => !x.1) && (backToKw cpos (keywordEach [] X.env)).all (fun x => x.1.isSome)
      && decide (([e] : List Expr).length + ([] : List Keyword).length + (if ([] : List Keyword).isEmpty then 0 else 1) < 30)) = true := by rfl)
    (hl : (apos.endLine == cpos.line) = true := by rfl) (ht : backTo cpos (starEach [e] X.env) = [(false, eval e X.env)] := by rfl) (hd : (x == ("__debug__" : Str)) = false := by decide) :
    GE X ad W (.Call (.Attribute (.Name x px) "get" apos) [e] [] cpos) (eWGet tab fe) := by
  obtain ⟨p, hm, ⟨es, n, h1, h2, h3, h4⟩⟩ := D
  refine g_of (pe_wget h1 h2 h3 hg hm he.run ⟨hb, hf, hl, ht⟩ hd) fun F ρ env S σ H Q rs q => ⟨F, ρ, env, S, rs, Aft.bind q fun F1 ρ1 S1 y u H1 l1 rs1 ry q1 => ?_⟩
  cases ry <;> first | exact q1.elim | skip
  rename_i z
  rcases h4 z with ⟨u, v, a, e1, e2, e3, e4⟩ | ⟨e1, e2⟩
  · dsimp only at q1
    rw [e3] at q1
    exact ⟨z, _, rfl, e1, v, e2, q1 F1 ρ1 v H1 .refl rs1 (e4 F1 ρ1)⟩
  · dsimp only at q1
    rw [e2] at q1
    exact ⟨z, _, rfl, e1, .non, rfl, q1 F1 ρ1 .non H1 .refl rs1 .non⟩
end Fl
namespace Fl
open PySem PySem.Spec L2
open PyProof.Rows hiding St

/-- a module's constant -/
def GlAt (K : PySem.W.Frag) (mg : Str → Option Value) (ad : Ads) (x : Str) (a : Val) : Prop := ∃ v u, mg x = some u ∧ RelV v u ∧ ∀ F ρ, Rp K ad F ρ a v
theorem g_gl {X : Cx} {ad : Ads} {W : WX} {pos : Pos} {x : Str} {a : Val} (hg : Gl X x) (h : GlAt X.K X.mg ad x a) (hd : (x == ("__debug__" : Str)) = false := by decide) : GE X ad W (.Name x pos) (eC a) := by
  obtain ⟨v, u, h1, h2, h3⟩ := h
  exact g_glob hg ⟨u, h1, h2⟩ h3 hd
/-- a def that calls itself, so deep -/
def recF (body : BF → BF) : Nat → BF
  | 0 => fun _ _ => .stuck
  | n + 1 => body (recF body n)
theorem rec_ok {P : Program} {w : World} {K : PySem.W.Frag} {mg : Str → Option Value} {base : Heap} {ad : Ads} {k n : Nat} {x : Str} {f : Addr} {fd : FuncData} {ps : List Str} {body : BF → BF}
    (hm : mg x = some (.ref f)) (hk : PySem.W.keepIn K (.ref f) = true) (hb : Binds K fd ps []) (hl : ps.length = n)
    (step : ∀ m g, DefAt P w K mg base ad (k + m) x n [] g → FnOk P w K mg base (L2.CX P w) (k + m + 1) f fd ps (spOf K ad n (body g))) : ∀ m, DefAt P w K mg base ad (k + m) x n [] (recF body m)
  | 0 => ⟨f, fd, ps, [], [], ⟨fun vs H Q E h => by rw [sp_len h, hl], fun A outer s H args us vs Q E _ _ _ _ h => by obtain ⟨F, ρ, S, xs, _, _, _, q⟩ := h; exact q.elim⟩, hl, hm, hk, hb, .nil, fun _ _ => .nil⟩
  | m + 1 => ⟨f, fd, ps, [], [], step m _ (rec_ok hm hk hb hl step m), hl, hm, hk, hb, .nil, fun _ _ => .nil⟩
/-- turns enough for any loop -/
def whN : Nat := 2 ^ 40
end Fl
namespace Fl
open PySem PySem.Spec L2
open PyProof.Rows hiding St

/-! ### [e for x in xs if .. for y in ys if ..] -/
def lcGo2 (g : TF) (t : TFn) (it1 : AF) (g1 : TF) (t1 : TFn) (f : EF) (env0 : Env) (vs1 : List Nat) : List Val → List Val → Store → Res (List Val)
  | [], acc, S => .ok acc S
  | x :: xs, acc, S => match g x env0 S with
    | .ok env1 S1 => match t env1 S1 with
      | .ok true S2 => match it1 env1 S2 with
        | .ok ys S3 => match lcGo g1 t1 f (wipeE env1 vs1) ys acc S3 with
          | .ok acc' S4 => lcGo2 g t it1 g1 t1 f env0 vs1 xs acc' S4
          | _ => .stuck
        | _ => .stuck
      | .ok false S2 => lcGo2 g t it1 g1 t1 f env0 vs1 xs acc S2
      | _ => .stuck
    | _ => .stuck
def eLc2 (c : Bool) (it : AF) (g : TF) (t : TFn) (it1 : AF) (g1 : TF) (t1 : TFn) (f : EF) (vs vs1 : List Nat) : EF := fun env S => (it env S).bind fun xs S1 => (lcGo2 g t it1 g1 t1 f (wipeE env vs) vs1 xs [] S1).bind (mkL c)
section
variable {X : Cx} {ad : Ads} {W : WX} {pos spos py : Pos} {elt tg iter tg1 iter1 : Expr} {ifs ifs1 : List Expr} {scope : Scope} {own : List (Str × Nat)} {it it1 : AF} {g g1 : TF} {t t1 : TFn} {f : EF} {vs1 : List Nat}
/-- the second clause's loop -/
theorem lc_inner (nh : ad.hold = none) {F2 : Hp} {ρ2 : Rts} {env1 : Env} {σ2 : L2.St} {S : Store} {H4 : Hp} {D : Addr} {av : List V} {acc acc' ys : List Val} {S' : Store} {J1 : It} {Nx : Hp → Prop}
    (rs : RS X.K ad F2 (ρ2.hid D (.lst av)) env1 S σ2 H4) (ra : Rps X.K ad F2 ρ2 acc av) (y : Yl X.K ad F2 (ρ2.hid D (.lst av)) ys J1) (q : lcGo g1 t1 f (wipeE env1 vs1) ys acc S = .ok acc' S')
    (hN : ∀ F' ρ' av' H', Le F2 ρ2 F' ρ' → RS0 X.K ad F' (ρ'.hid D (.lst av')) S' H' → Rps X.K ad F' ρ' acc' av' → Nx H') :
    ∃ W1 : Nat → Nat → Hp → Prop, (∃ m, W1 0 m H4) ∧ ∀ j k H, W1 j k H →
      (J1.stop j H ∧ Nx H) ∨ (J1.go j H ∧ ∃ Nx1 : Hp → Prop, (∀ H', Nx1 H' → ∃ k', k' < k ∧ W1 (j + 1) k' H') ∧ ∀ x H', J1.yld j H x H' → tT X.K ad vs1 W0 g1 x (wipe σ2 vs1) H' fun σ3 H5 => wipe σ3 vs1 = wipe σ2 vs1 ∧ tG X.K ad RB W0 t1 σ3 H5 fun b H6 =>
        if b = true then tG X.K ad (Rp X.K ad) W0 f σ3 H6 fun y H7 => ∃ acc, H7 D = some (.lst acc) ∧ acc.length < sizeLine ∧ Nx1 (upd H7 D (.lst (acc ++ [y]))) else Nx1 H6) := by
  let St := fun (j : Nat) (H : Hp) => ∃ F' ρ' S'' acc'' av'', Le F2 ρ2 F' ρ' ∧ RS0 X.K ad F' (ρ'.hid D (.lst av'')) S'' H ∧ Rps X.K ad F' ρ' acc'' av'' ∧ lcGo g1 t1 f (wipeE env1 vs1) (ys.drop j) acc'' S'' = .ok acc' S'
  refine ⟨fun j k H => k = ys.length - j ∧ j ≤ ys.length ∧ St j H, ⟨ys.length, by simp, Nat.zero_le _, F2, ρ2, S, acc, av, .refl, rs.s, ra, by simpa using q⟩, ?_⟩
  rintro j k H' ⟨rfl, hj, F', ρ', S'', acc2, av2, l', rh', ra', q'⟩
  have re2 : RE X.K ad F2 ρ2 env1 σ2 := rs.e.unhid
  have re' : RE X.K ad F' (ρ'.hid D (.lst av2)) env1 σ2 := (re2.mono l').hid
  have lF : Le0 F2 (ρ2.hid D (.lst av)) F' (ρ'.hid D (.lst av2)) := ⟨l'.f, l'.r⟩
  obtain ⟨ye, yg⟩ := y F' _ env1 S'' σ2 H' lF ⟨rh', re'⟩
  by_cases hlt : j < ys.length
  · obtain ⟨go, yd⟩ := yg j ys[j] (by simp [hlt])
    refine .inr ⟨go, St (j + 1), fun H2 h => ⟨ys.length - (j + 1), by omega, rfl, hlt, h⟩, fun u H2 yu => ?_⟩
    obtain ⟨F3, ρ3h, l3h, rs3, rx⟩ := yd u H2 yu
    obtain ⟨ρ3, rfl, l3⟩ := hid_le l3h
    refine ⟨F3, _, wipeE env1 vs1, S'', ys[j], ⟨rs3.s, rs3.e.wipe nh vs1⟩, rx, ?_⟩
    rw [List.drop_eq_getElem_cons hlt] at q'
    unfold lcGo at q'
    cases e : g1 ys[j] (wipeE env1 vs1) S'' with
    | stuck => rw [e] at q'; cases q'
    | exc c' fs S3 => rw [e] at q'; cases q'
    | ok env3 S3 =>
      rw [e] at q'
      dsimp only at q'
      intro F4 ρ4h σ4 H4' l4h rs4 hw
      obtain ⟨ρ4, rfl, l4⟩ := hid_le l4h
      refine ⟨hw.trans (wipe_idem σ2 vs1), F4, _, env3, S3, rs4, ?_⟩
      cases e2 : t1 env3 S3 with
      | stuck => rw [e2] at q'; cases q'
      | exc c' fs S4 => rw [e2] at q'; cases q'
      | ok b S4 =>
        rw [e2] at q'
        intro F5 ρ5h b' H5 l5h rs5 eb
        cases eb
        obtain ⟨ρ5, rfl, l5⟩ := hid_le l5h
        cases b with
        | false =>
          rw [if_neg (by simp)]
          exact ⟨F5, ρ5, S4, acc2, av2, ((l'.trans l3).trans l4).trans l5, rs5.s, ra'.mono ((l3.trans l4).trans l5), q'⟩
        | true =>
          rw [if_pos rfl]
          dsimp only at q'
          refine ⟨F5, _, env3, S4, rs5, ?_⟩
          cases e3 : f env3 S4 with
          | stuck => rw [e3] at q'; cases q'
          | exc c' fs S5 => rw [e3] at q'; cases q'
          | ok yv S5 =>
            rw [e3] at q'
            dsimp only at q'
            intro F6 ρ6h w H6 l6h rs6 rw6
            obtain ⟨ρ6, rfl, l6⟩ := hid_le l6h
            split at q'
            · rename_i hacc
              have lt := ((l3.trans l4).trans l5).trans l6
              refine ⟨av2, (rs6.s.prv (D, .lst av2) List.mem_cons_self).1, by rw [← ra'.length]; exact hacc, F6, ρ6, S5, acc2 ++ [yv], av2 ++ [w], l'.trans lt, rs6.s.rehide, (ra'.mono lt).append (.cons rw6.unhid .nil), q'⟩
            · cases q'
  · have e : j = ys.length := by omega
    subst e
    rw [List.drop_length] at q'
    unfold lcGo at q'
    cases q'
    exact .inl ⟨ye, hN F' ρ' av2 H' l' rh' ra'⟩
theorem lc2_read (nh : ad.hold = none) {c : Bool} {vs : List Nat} {F ρ env S σ H} {Q : VK} (rs : RS X.K ad F ρ env S σ H) (q : Aft X.K ad (Rp X.K ad) W F ρ env σ (eLc2 c it g t it1 g1 t1 f vs vs1 env S) Q) :
    tLc2 (tG X.K ad (Yl X.K ad) W it) (tT X.K ad vs W0 g) (tG X.K ad RB W0 t) (tG X.K ad (Yl X.K ad) W0 it1) (tT X.K ad vs1 W0 g1) (tG X.K ad RB W0 t1) (tG X.K ad (Rp X.K ad) W0 f) vs vs1 σ H Q := by
  refine ⟨F, ρ, env, S, rs, Aft.bind q fun F1 ρ1 S1 xs J H1 l1 rs1 y q1 => ?_⟩
  intro D hD
  obtain ⟨rh, lh⟩ := rs1.s.hide (o := .lst []) hD
  refine ⟨fun i m H => m = xs.length - i ∧ i ≤ xs.length ∧ ∃ F' ρ' S' acc av, Le F1 ρ1 F' ρ' ∧ RS0 X.K ad F' (ρ'.hid D (.lst av)) S' H ∧ Rps X.K ad F' ρ' acc av ∧
    Aft X.K ad (Rp X.K ad) W F' ρ' env σ ((lcGo2 g t it1 g1 t1 f (wipeE env vs) vs1 (xs.drop i) acc S').bind (mkL c)) Q, ⟨xs.length, by simp, Nat.zero_le _, F1, ρ1, S1, [], [], .refl, rh, .nil, by simpa using q1⟩, ?_⟩
  rintro i m H' ⟨rfl, hi, F', ρ', S', acc, av, l', rh', ra, q'⟩
  have re' : RE X.K ad F' (ρ'.hid D (.lst av)) env σ := (rs1.e.mono l').hid
  have lF : Le0 F1 ρ1 F' (ρ'.hid D (.lst av)) := ⟨l'.f, l'.r⟩
  obtain ⟨ys, yg⟩ := y F' _ env S' σ H' lF ⟨rh', re'⟩
  by_cases hlt : i < xs.length
  · obtain ⟨go, yd⟩ := yg i xs[i] (by simp [hlt])
    refine .inr ⟨go, fun H2 => ∃ F' ρ' S' acc av, Le F1 ρ1 F' ρ' ∧ RS0 X.K ad F' (ρ'.hid D (.lst av)) S' H2 ∧ Rps X.K ad F' ρ' acc av ∧
      Aft X.K ad (Rp X.K ad) W F' ρ' env σ ((lcGo2 g t it1 g1 t1 f (wipeE env vs) vs1 (xs.drop (i + 1)) acc S').bind (mkL c)) Q, fun H2 h => ⟨xs.length - (i + 1), by omega, rfl, hlt, h⟩, fun u H2 yu => ?_⟩
    obtain ⟨F2, ρ2h, l2h, rs2, rx⟩ := yd u H2 yu
    obtain ⟨ρ2, rfl, l2⟩ := hid_le l2h
    refine ⟨F2, _, wipeE env vs, S', xs[i], ⟨rs2.s, rs2.e.wipe nh vs⟩, rx, ?_⟩
    rw [List.drop_eq_getElem_cons hlt] at q'
    unfold lcGo2 at q'
    cases e : g xs[i] (wipeE env vs) S' with
    | stuck => rw [e] at q'; exact q'.elim
    | exc c' fs S3 => rw [e] at q'; exact q'.elim
    | ok env3 S3 =>
      rw [e] at q'
      dsimp only at q'
      intro F3 ρ3h σ3 H3 l3h rs3 hw
      obtain ⟨ρ3, rfl, l3⟩ := hid_le l3h
      refine ⟨hw.trans (wipe_idem σ vs), F3, _, env3, S3, rs3, ?_⟩
      cases e2 : t env3 S3 with
      | stuck => rw [e2] at q'; exact q'.elim
      | exc c' fs S4 => rw [e2] at q'; exact q'.elim
      | ok b S4 =>
        rw [e2] at q'
        intro F4 ρ4h b' H4 l4h rs4 eb
        cases eb
        obtain ⟨ρ4, rfl, l4⟩ := hid_le l4h
        cases b with
        | false =>
          rw [if_neg (by simp)]
          exact ⟨F4, ρ4, S4, acc, av, ((l'.trans l2).trans l3).trans l4, rs4.s, ra.mono ((l2.trans l3).trans l4), Aft.later ((l2.trans l3).trans l4) q'⟩
        | true =>
          rw [if_pos rfl]
          dsimp only at q'
          refine ⟨F4, _, env3, S4, rs4, ?_⟩
          cases e3 : it1 env3 S4 with
          | stuck => rw [e3] at q'; exact q'.elim
          | exc c' fs S5 => rw [e3] at q'; exact q'.elim
          | ok zs S5 =>
            rw [e3] at q'
            dsimp only at q'
            intro F5 ρ5h J1 H5 l5h rs5 y1
            obtain ⟨ρ5, rfl, l5⟩ := hid_le l5h
            cases e4 : lcGo g1 t1 f (wipeE env3 vs1) zs acc S5 with
            | stuck => rw [e4] at q'; exact q'.elim
            | exc c' fs S6 => rw [e4] at q'; exact q'.elim
            | ok acc6 S6 =>
              rw [e4] at q'
              have lt := ((l2.trans l3).trans l4).trans l5
              refine lc_inner nh rs5 (ra.mono lt) y1 e4 fun F6 ρ6 av6 H6 l6 rs6 ra6 => ?_
              exact ⟨F6, ρ6, S6, acc6, av6, (l'.trans lt).trans l6, rs6, ra6, Aft.later (lt.trans l6) q'⟩
  · have e : i = xs.length := by omega
    subst e
    refine .inl ⟨ys, ?_⟩
    rw [List.drop_length] at q'
    unfold lcGo2 at q'
    have q'' : Aft X.K ad (Rp X.K ad) W F' ρ' env σ (mkL c acc S') Q := q'
    unfold mkL at q''
    cases c with
    | false =>
      obtain ⟨r2, l2⟩ := rh'.drop
      have lz : Le F' ρ' (upd F' D (.lst av)) ρ' := ⟨⟨l2.f, fun i a h => h⟩, rfl⟩
      exact q'' _ ρ' _ H' lz ⟨r2, (rs1.e.mono l').mono lz⟩ (.lst upd_same (ra.mono lz))
    | true =>
      obtain ⟨r2, l2⟩ := rh'.dropC (c := .lst acc) ⟨av, rfl, ra.mono0 le0hid⟩
      have lz : Le F' ρ' F' (ρ'.add D) := ⟨⟨l2.f, fun i a h => l2.r i a h⟩, rfl⟩
      have hl : ρ'.l.length = S'.length := rh'.len
      exact q'' _ _ _ H' lz ⟨r2, (rs1.e.mono l').mono lz⟩ (.ref (by rw [← hl]; simp [Rts.add]))
theorem g_lc2 (nh : ad.hold = none) (c : Bool) (hc : X.calm = true) (hN : X.N.Nodup) (hi : GI X ad W tg iter it) (ok : BlkOk X.N X.env.scope scope own) (hv : ∀ i ∈ vs1, i ∈ own.map (·.2))
    (hg : ∀ (s : Shared) (H : Hp) (C : Addr) (cl : List (Str × Addr)) (fp : List Addr), GG (X.blk s H scope (compEnvC scope cl C X.env) fp) ad (own.map (·.2)) W0 tg g) (ht : ∀ (s : Shared) (H : Hp) (C : Addr) (cl : List (Str × Addr)) (fp : List Addr), GTs (X.blk s H scope (compEnvC scope cl C X.env) fp) ad W0 ifs t)
    (hi1 : ∀ (s : Shared) (H : Hp) (C : Addr) (cl : List (Str × Addr)) (fp : List Addr), GI (X.blk s H scope (compEnvC scope cl C X.env) fp) ad W0 tg1 iter1 it1)
    (hg1 : ∀ (s : Shared) (H : Hp) (C : Addr) (cl : List (Str × Addr)) (fp : List Addr), GG (X.blk s H scope (compEnvC scope cl C X.env) fp) ad vs1 W0 tg1 g1) (ht1 : ∀ (s : Shared) (H : Hp) (C : Addr) (cl : List (Str × Addr)) (fp : List Addr), GTs (X.blk s H scope (compEnvC scope cl C X.env) fp) ad W0 ifs1 t1)
    (he : ∀ (s : Shared) (H : Hp) (C : Addr) (cl : List (Str × Addr)) (fp : List Addr), GE (X.blk s H scope (compEnvC scope cl C X.env) fp) ad W0 elt f)
    (hs : ∀ x, foldedSetIterable iter X.env x = pure x := by intro _; rfl) (hs1 : ∀ env x, foldedSetIterable iter1 env x = pure x := by intro _ _; rfl) :
    GE X ad W (.ListComp elt [⟨tg, iter, ifs, 0⟩, ⟨tg1, iter1, ifs1, 0⟩] scope pos) (eLc2 c it g t it1 g1 t1 f (own.map (·.2)) vs1) :=
  g_of (pe_lc2 hc hN hi.run ok hv (fun s H C cl fp => (hg s H C cl fp).run) (fun s H C cl fp => (ht s H C cl fp).run) (fun s H C cl fp => (hi1 s H C cl fp).run) (fun s H C cl fp => (hg1 s H C cl fp).run) (fun s H C cl fp => (ht1 s H C cl fp).run)
    (fun s H C cl fp => (he s H C cl fp).run) hs hs1) fun F ρ env S σ H Q rs q => lc2_read nh rs q
end
end Fl
/-! Sets of ints and texts that can be walked: what they are, add. -/
namespace Fl
open PySem PySem.Spec L2
open PyProof.Rows hiding St

def kOf (e : Int × Value) : Key := match e.2 with | .int k _ => .inl k | .str x _ => .inr x | _ => .inl 0
def GdW (P : Program) (w : World) (e : Int × Value) : Prop := RelV (kV (kOf e)) e.2 ∧ e.1 = (mixKind P w).hash (kOf e)
/-- the set at a with the members ks, in any order -/
def SetWR (P : Program) (w : World) (h : Heap) (a : Addr) (ks : List Key) : Prop := ∃ o es ep t, h.get? a = some o ∧ o.ExactSet ∧ o.data = .set es ep t ∧ (∀ e ∈ es.toList, GdW P w e) ∧ (es.toList.map kOf).Perm ks ∧ ks.Nodup ∧
  es.size < scanBound ∧ t.fits es.size = true ∧ Ris t.place.toList ∧ (w.params.followText "set-order" = true ∨ t.led = true)
instance decKey (k : Key) (ks : List Key) : Decidable (k ∈ ks) := @List.instDecidableMemOfLawfulBEq _ instBEqOfDecidableEq inferInstance k ks
def insK (ks : List Key) (k : Key) : List Key := if k ∈ ks then ks else ks ++ [k]
theorem insK_nodup {ks : List Key} {k : Key} (h : ks.Nodup) : (insK ks k).Nodup := by
  unfold insK
  split
  · exact h
  · rename_i n
    exact List.nodup_append.mpr ⟨h, by simp, fun a ha b hb => by rw [List.mem_singleton.mp hb]; exact fun e => n (e ▸ ha)⟩
section
variable {P : Program} {w : World} {A : Around} {E : Value → Shared → Prop} {s : Shared} {h h' : Heap} {a : Addr} {ks : List Key}
theorem kOf_rel {k : Key} {v : Value} {i : Int} (r : RelV (kV k) v) : kOf (i, v) = k := by
  cases k with
  | inl j => obtain ⟨t, e⟩ := (show ∃ t, v = Value.int j t from r); subst e; rfl
  | inr x => obtain ⟨t, e⟩ := (show ∃ t, v = Value.str x t from r); subst e; rfl
theorem gdw_key {k : Key} {v : Value} (r : RelV (kV k) v) : GdW P w ((mixKind P w).hash k, v) := by
  unfold GdW
  rw [kOf_rel r]
  exact ⟨r, rfl⟩
theorem gdw_is {e : Int × Value} (g : GdW P w e) (k : Key) : (mixKind P w).is k e.2 = true ↔ kOf e = k :=
  ⟨fun q => (mixKind P w).inj _ _ _ (kV_is g.1) q, fun q => by rw [← q]; exact kV_is g.1⟩
theorem gdw_elems {l : List (Int × Value)} (g : ∀ e ∈ l, GdW P w e) : ElemsOf (mixKind P w) l := fun e he => ⟨⟨kOf e, kV_is (g e he).1, (g e he).2⟩, key_scan (g e he).1⟩
theorem gdw_mem {l : List (Int × Value)} (g : ∀ e ∈ l, GdW P w e) (k : Key) : k ∈ l.map kOf ↔ ∃ e ∈ l, (mixKind P w).is k e.2 = true :=
  ⟨fun m => by obtain ⟨e, he, q⟩ := List.mem_map.mp m; exact ⟨e, he, (gdw_is (g e he) k).2 q⟩, fun ⟨e, he, q⟩ => List.mem_map.mpr ⟨e, he, (gdw_is (g e he) k).1 q⟩⟩
theorem SetWR.keep (R : SetWR P w h a ks) (k : ∀ o, h.get? a = some o → h'.get? a = some o) : SetWR P w h' a ks :=
  let ⟨o, es, ep, t, ho, r⟩ := R
  ⟨o, es, ep, t, k o ho, r⟩
theorem SetWR.few (R : SetWR P w h a ks) : ks.length < scanBound := by
  obtain ⟨o, es, ep, t, _, _, _, _, pm, _, hb, _⟩ := R
  rw [← pm.length_eq, List.length_map, Array.length_toList]
  exact hb
theorem SetWR.setOf (R : SetWR P w h a ks) : h.SetOf (mixKind P w) a (fun k => decide (k ∈ ks)) ks.length := by
  obtain ⟨o, es, ep, t, ho, hx, hd, g, pm, nd, hb, hf, _⟩ := R
  refine ⟨o, es, ep, t, ho, hx, hd, gdw_elems g, fun k => ?_, hb, hf, by rw [← pm.length_eq, List.length_map, Array.length_toList]⟩
  rw [decide_eq_true_eq, ← pm.mem_iff]
  exact gdw_mem g k
/-- what is left behind a new member is laid -/
theorem addw_tail {f : Bool → Sem Unit} (hf0 : ∀ (b : Bool) (s1 : Shared) (Z : Unit → Shared → Prop), Z () s1 → wpAny (model P w) A (f b) Z E s1) {o : Obj} {es : Array (Int × Value)} {ep : Nat} {t : SetTable}
    (ho : s.heap.get? a = some o) (hex : o.ExactSet) (hd : o.data = .set es ep t) {fs : Array (Int × Value)} {t2 : SetTable} {ls : List Key} (gd : ∀ e ∈ fs.toList, GdW P w e) (pm : (fs.toList.map kOf).Perm ls) (nd : ls.Nodup)
    (few : fs.size < scanBound) (fit : t2.fits fs.size = true) (ris : Ris t2.place.toList) (led : w.params.followText "set-order" = true ∨ t2.led = true) {dm : Bool} {Z : Option Bool → Shared → Prop}
    (fin : ∀ h', Heap.SameBut a s.heap h' → SetWR P w h' a ls → Z (some true) { s with heap := h' }) :
    wpAny (model P w) A (do
        storeSet a fs t2
        if (!dm && t2.tooFull) = true then do
            f (relayAll t2 fs (SetTable.grown fs.size)).2.2
            storeSet a (relayAll t2 fs (SetTable.grown fs.size)).1 (relayAll t2 fs (SetTable.grown fs.size)).2.1
            pure (some true)
          else pure (some true)) Z E s := by
  refine wpAny_bind (wpAny_storeSet_of ho hd ?_ (fits_of_scanBound few))
  have o1 := store_at (es' := fs) (t' := t2) ho hd
  have same1 := Heap.SameBut.update s.heap a (Obj.putSet fs t2)
  split
  · have pm2 := relayAll_perm t2 fs (SetTable.grown fs.size)
    have fit2 := relayAll_fits t2 fs (SetTable.grown fs.size)
    have ris2 := relayAll_ris t2 fs (SetTable.grown fs.size)
    have led2 := relayAll_led t2 fs (SetTable.grown fs.size)
    generalize relayAll t2 fs (SetTable.grown fs.size) = T at pm2 fit2 ris2 led2 ⊢
    obtain ⟨gs, t3, gave⟩ := T
    dsimp only at pm2 fit2 ris2 led2 ⊢
    have few2 : gs.size < scanBound := by
      rw [show gs.size = fs.size from by rw [← Array.length_toList, pm2.length_eq, Array.length_toList]]
      exact few
    refine wpAny_bind (hf0 _ _ _ (wpAny_bind (wpAny_storeSet_of o1 rfl ?_ (fits_of_scanBound few2))))
    have o2 := store_at (es' := gs) (t' := t3) o1 rfl
    refine wpAny_pure (fin _ (same1.trans (Heap.SameBut.update _ a _)) ⟨_, gs, _, t3, o2, hex, rfl, fun e he => gd e (pm2.mem_iff.mp he), (pm2.map kOf).trans pm, nd, few2, fit2, ris2, led.imp id fun z => by rw [led2]; exact z⟩)
  · exact wpAny_pure (fin _ same1 ⟨_, fs, _, t2, o1, hex, rfl, gd, pm, nd, few, fit, ris, led⟩)
theorem addw_hashed {k : Key} {v : Value} {Z : Bool → Shared → Prop} (rv : RelV (kV k) v) (R : SetWR P w s.heap a ks) (room : ks.length + 1 < scanBound)
    (hZ : ∀ (b : Bool) h', Heap.SameBut a s.heap h' → SetWR P w h' a (insK ks k) → Z b { s with heap := h' }) : wpAny (model P w) A (setAddHashed a v ((mixKind P w).hash k)) Z E s := by
  obtain ⟨o, es, ep, t, ho, hex, hd, g, pm, nd, hb, hf, hr, hl⟩ := R
  have isk : (mixKind P w).is k v = true := kV_is rv
  have hsc : v.scannable = true := key_scan rv
  have hel : ElemsOf (mixKind P w) es.toList := gdw_elems g
  unfold setAddHashed setAddHashedIn
  refine wpAny_holding (wpAny_bind (wpAny_setState_of ho hd hf ?_))
  dsimp only
  rw [byScan_of hsc hb hel, if_pos rfl]
  unfold setAddByScan
  refine wpAny_bind (wpAny_bind (wpAny_rule (wpAny_bind (wpAny_setScan_of isk ho hd hf hel ?_))))
  cases fi : List.findIdx? (fun e => (mixKind P w).is k e.2) es.toList with
  | some j =>
    obtain ⟨hj, pj, _⟩ := List.findIdx?_eq_some_iff_getElem.mp fi
    have hm : k ∈ ks := pm.mem_iff.mp ((gdw_mem g k).2 ⟨es.toList[j], List.getElem_mem hj, pj⟩)
    have ei : insK ks k = ks := if_pos hm
    dsimp only
    refine wpAny_pure (wpAny_pure ?_)
    have q := hZ false s.heap (Heap.SameBut.refl a s.heap) (by rw [ei]; exact ⟨o, es, ep, t, ho, hex, hd, g, pm, nd, hb, hf, hr, hl⟩)
    exact q
  | none =>
    dsimp only
    have nk : k ∉ es.toList.map kOf := fun z => by
      obtain ⟨e, he, q⟩ := (gdw_mem g k).1 z
      have c := List.findIdx?_eq_none_iff.mp fi e he
      rw [q] at c
      exact Bool.noConfusion c
    have nks : k ∉ ks := fun z => nk (pm.mem_iff.mpr z)
    have ei : insK ks k = ks ++ [k] := if_neg nks
    have gw : ∀ (b : Bool) {s1 : Shared} {Y : Unit → Shared → Prop}, Y () s1 → wpAny (model P w) A (match b with | true => rule "set.scan.the-table-gave-way" | false => pure ()) Y E s1 := fun b s1 Y q => by
      cases b
      · exact wpAny_pure q
      · exact wpAny_rule q
    have pm1 := layNew_perm t es ((mixKind P w).hash k) v
    have fit1 := layNew_fits t es ((mixKind P w).hash k) v
    have ris1 := layNew_ris t es ((mixKind P w).hash k) v hr
    have led1 := layNew_led t es ((mixKind P w).hash k) v
    generalize layNew t es ((mixKind P w).hash k) v = T at pm1 fit1 ris1 led1 ⊢
    obtain ⟨fs, t1, dm, gave⟩ := T
    dsimp only at pm1 fit1 ris1 led1 ⊢
    rw [Array.toList_push] at pm1
    have pc : fs.toList.Perm (((mixKind P w).hash k, v) :: es.toList) := pm1.trans (List.perm_append_singleton _ _)
    have gd : ∀ e ∈ fs.toList, GdW P w e := fun e he => (List.mem_cons.mp (pc.mem_iff.mp he)).elim (fun z => by rw [z]; exact gdw_key rv) (g e)
    have pk : (fs.toList.map kOf).Perm (insK ks k) := by
      rw [ei]
      have q := pc.map kOf
      rw [List.map_cons, kOf_rel rv] at q
      exact (q.trans (pm.cons k)).trans (List.perm_append_singleton _ _).symm
    have few : fs.size < scanBound := by
      have q := pk.length_eq
      rw [List.length_map, Array.length_toList, ei, List.length_append] at q
      rw [q]; exact room
    have ndk : (insK ks k).Nodup := insK_nodup nd
    have led2 : w.params.followText "set-order" = true ∨ t1.led = true := hl.imp id fun z => led1.trans z
    have tailF : ∀ (b : Bool) (s1 : Shared) (Y : Unit → Shared → Prop), Y () s1 → wpAny (model P w) A (match b with | true => rule "set.scan.the-table-gave-way" | false => pure ()) Y E s1 := fun b s1 Y q => gw b q
    refine wpAny_bind (gw _ ?_)
    split
    · refine wpAny_bind ?_
      rw [hashByValue_scannable 8 hsc]
      refine wpAny_pure (addw_tail ?_ ho hex hd gd pk ndk few ?_ ?_ ?_ fun h' sb r => ?_)
      · intro b s1 Y q; cases b <;> first | exact wpAny_pure q | exact wpAny_rule q
      · first | (split <;> first | exact fit1 | exact SetTable.fits_plain_off fit1) | exact fit1
      · first | (split <;> exact ris1) | exact ris1
      · first | (split <;> exact led2) | exact led2
      · dsimp only; exact wpAny_pure (hZ true h' sb r)
    · refine wpAny_bind (wpAny_pure ?_)
      simp only [↓reduceIte]
      refine addw_tail ?_ ho hex hd gd pk ndk few fit1 ris1 led2 fun h' sb r => ?_
      · intro b s1 Y q; cases b <;> first | exact wpAny_pure q | exact wpAny_rule q
      · dsimp only; exact wpAny_pure (hZ true h' sb r)
/-- set.add -/
theorem addw_call {k : Key} {v : Value} {Z : Value → Shared → Prop} (rv : RelV (kV k) v) (R : SetWR P w s.heap a ks) (room : ks.length + 1 < scanBound)
    (hZ : ∀ h', Heap.SameBut a s.heap h' → SetWR P w h' a (insK ks k) → Z .none { s with heap := h', toks := s.toks + 1 }) : wpAny (model P w) A (call (.builtin "set.add") [.ref a, v]) Z E s := by
  have hS := R.setOf
  refine wpAny_call_entry F.slot_set_add hS.typeIs F.entry_set_add ?_ (F.args_set_add_2 _ _)
  unfold Builtin.«set.add» Builtin.Frozenset.oneOther
  simp only [List.isEmpty_nil, bind_assoc]
  unfold Builtin.Frozenset.addrOf setAdd
  refine wpAny_bind (wpAny_pure ?_)
  try dsimp only
  refine wpAny_bind (wpAny_pure ?_)
  try dsimp only
  refine wpAny_bind (wpAny_holding (wpAny_bind ((mixKind P w).pyHash (kV_is rv) (addw_hashed (s := { s with toks := s.toks + 1 }) rv R room fun b h' sb r => ?_))))
  show wpAny _ _ (ret Value.none) _ _ _
  exact wpAny_pure ⟨_, rfl, hZ h' sb r⟩
theorem setW_fresh : SetWR P w (h.push ⟨.type "set", none, .set #[] 0 (.fresh 0 0 (!w.params.followText "set-order")), #[]⟩) h.objs.size [] :=
  ⟨_, #[], 0, _, Heap.get?_push_size _ rfl, ⟨rfl, rfl, rfl⟩, rfl, fun e he => by simp at he, .nil, List.nodup_nil, by decide, by rfl, List.Pairwise.nil, by
    show _ ∨ (!w.params.followText "set-order") = true
    cases w.params.followText "set-order"
    · exact .inr rfl
    · exact .inl rfl⟩
end
/-- the object -/
def SetW (P : Program) (w : World) (a : Addr) (ks : List Key) : HO := .ext fun h => SetWR P w h a ks
theorem setW_new {w : World} {P : Program} {H : Hp} {h : Heap} {a : Addr} {ks : List Key} (R : SetWR P w h a ks) : ObjOk P w H h a (SetW P w a ks) := by
  exact ⟨R, (let ⟨o, _, _, _, ho, _⟩ := R; ⟨o, ho⟩), fun _ _ p k => p.keep k⟩
theorem setW_get {X : Cx} {pins : List (Addr × Obj)} {σ : L2.St} {H : Hp} {s : Shared} {a : Addr} {ks : List Key} (I : Inv X pins σ H s) (ha : H a = some (SetW X.prog X.w a ks)) : SetWR X.prog X.w s.heap a ks := (I.hok a _ ha).1
end Fl
namespace Fl
open PySem PySem.Spec L2
open PyProof.Rows hiding St
open PpSet (eval_SetComp compLoopS_any codeAny_compStart_set newSet_ok)

/-! ### {e for x in xs if ..}: sets of texts and ints -/
abbrev SetK0 (X : Cx) (D : Addr) : HO := SetW X.prog X.w D []
def tScK (P : Program) (w : World) (wi : TI) (g : TG) (tt : TT) (te : TE) (vs : List Nat) : TE := fun σ H Q => wi σ H fun J H1 => ∀ D, H1 D = none →
  ∃ W : Nat → Nat → Hp → Prop, (∃ m, W 0 m (upd H1 D (SetW P w D []))) ∧ ∀ i m H, W i m H → (J.stop i H ∧ Q (.ref D) H) ∨ (J.go i H ∧
    ∃ Nx : Hp → Prop, (∀ H', Nx H' → ∃ m', m' < m ∧ W (i + 1) m' H') ∧ ∀ x H', J.yld i H x H' → g x (wipe σ vs) H' fun σ2 H2 => wipe σ2 vs = wipe σ vs ∧ tt σ2 H2 fun b H3 => match b with
      | true => te σ2 H3 fun y H4 => ∃ (c : Key) (ks : List Key), y = kV c ∧ H4 D = some (SetW P w D ks) ∧ ks.length + 1 < scanBound ∧ Nx (upd H4 D (SetW P w D (insK ks c)))
      | false => Nx H3)
theorem add_ok {X : Cx} {pins : List (Addr × Obj)} {σ : L2.St} {H : Hp} {s : Shared} {E : Value → Shared → Prop} {D : Addr} {ks : List Key} {c : Key} {u : Value} {Q : Value → Shared → Prop} (I : Inv X pins σ H s)
    (hD : H D = some (SetW X.prog X.w D ks)) (room : ks.length + 1 < scanBound) (ru : RelV (kV c) u)
    (h : ∀ s', Inv X pins σ (upd H D (SetW X.prog X.w D (insK ks c))) s' → Q .none s') : wpAny (model X.prog X.w) X.A (call (.builtin "set.add") [.ref D, u]) Q E s := by
  refine addw_call ru (setW_get I hD) room fun h' sb new => h _ ?_
  have there : ∃ o, h'.get? D = some o := let ⟨o, _, _, _, ho, _⟩ := new; ⟨o, ho⟩
  exact I.write (e := D) (t' := s.toks + 1) (by rw [hD]; trivial) (.inl rfl) (fun b o hb ho => (sb.2 b hb).trans ho) there (setW_new new)
section
variable {X : Cx} {elt tg iter : Expr} {ifs : List Expr} {scope : Scope} {own : List (PySem.Str × Nat)} {pos : Pos} {wi : TI} {g : TG} {tt : TT} {te : TE}
theorem pe_sck (calm : X.calm = true) (nd : X.N.Nodup) (src : PI X tg iter wi) (bo : BlkOk X.N X.env.scope scope own)
    (tgt : ∀ (s : Shared) (H : Hp) (C : Addr) (cl : List (PySem.Str × Addr)) (fp : List Addr), PG (X.blk s H scope (compEnvC scope cl C X.env) fp) tg g)
    (tst : ∀ (s : Shared) (H : Hp) (C : Addr) (cl : List (PySem.Str × Addr)) (fp : List Addr), PTs (X.blk s H scope (compEnvC scope cl C X.env) fp) ifs tt)
    (val : ∀ (s : Shared) (H : Hp) (C : Addr) (cl : List (PySem.Str × Addr)) (fp : List Addr), PE (X.blk s H scope (compEnvC scope cl C X.env) fp) elt te)
    (hs : ∀ x, foldedSetIterable iter X.env x = pure x := by intro _; rfl) : PE X (.SetComp elt [⟨tg, iter, ifs, 0⟩] scope pos) (tScK X.prog X.w wi g tt te (own.map (·.2))) := by
  refine ⟨fun pins s σ H Q I h => ?_⟩
  rw [eval_SetComp]
  have frees : ∀ y ∈ scope.names, y.2 = .free → ∃ c, X.env.cells.lookup y.1 = some c := fun y hy e =>
    (bo.free y hy e).elim (fun q => I.ok.has _ (.inl q)) fun q => I.ok.has _ (.inr q)
  refine wpAny_comprehension_free rfl hs (closure_ok frees) bo.kind (fun y hy e => by rw [bo.uniq y hy, e]) (thn (src.run pins s σ H _ I h) fun xv s1 hx => thn hx fun itv s2 hi => ?_)
  obtain ⟨walk, fp, tn, J, H2, ew, I2, T, at0, off, q⟩ := hi
  subst ew
  refine newSet_ok (newEnv_comp ?_)
  generalize eD : s2.heap.objs.size = D
  have newD : H2 D = none := I2.hok.fresh (Nat.le_of_eq eD)
  obtain ⟨W, ⟨m0, start⟩, turn⟩ := q D newD
  generalize e3 : ({ s2 with heap := s2.heap.push ⟨.type "set", none, .set #[] 0 (.fresh 0 0 (!X.w.params.followText "set-order")), #[]⟩ } : Shared) = s3
  have hp3 : s3.heap = s2.heap.push ⟨.type "set", none, .set #[] 0 (.fresh 0 0 (!X.w.params.followText "set-order")), #[]⟩ := by rw [← e3]
  have I3 : Inv X pins σ (upd H2 D (SetK0 X D)) s3 := by
    subst e3 eD
    exact I2.laid (t' := s2.toks) (fun _ _ e => Heap.get?_push_of_some _ e) (Nat.le_refl _) (setW_new setW_fresh)
  have below : ∀ b ∈ fp, b < s2.heap.objs.size := fun b hb => (T.obj _ _ at0 b hb).elim fun o e => Heap.lt_size e.1
  have off3 : ∀ b ∈ fp, FpOk X pins (upd H2 D (SetK0 X D)) b ∧ b < s3.heap.objs.size := fun b hb => by
    have lt := below b hb
    have ne : b ≠ D := by rw [← eD]; exact Nat.ne_of_lt lt
    exact ⟨⟨by rw [upd_ne ne]; exact (off b hb).1, (off b hb).2⟩, by rw [hp3, Heap.size_push]; exact Nat.lt_succ_of_lt lt⟩
  have at3 : tn 0 s3.heap := T.keep _ _ _ at0 fun _ _ _ e => by rw [hp3]; exact Heap.get?_push_of_some _ e
  have I4 := block_start I3 bo nd off3
  generalize ecl : cellsFrom (s3.heap.objs.size + 1) scope.names (cloFrom X.env.cells scope.names []) = cl at I4 ⊢
  have r1 := tgt s3 (upd H2 D (SetK0 X D)) s3.heap.objs.size cl fp
  have r2 := tst s3 (upd H2 D (SetK0 X D)) s3.heap.objs.size cl fp
  have r3 := val s3 (upd H2 D (SetK0 X D)) s3.heap.objs.size cl fp
  have none3 : ∀ b ∈ fp, (upd H2 D (SetK0 X D)) b = none := fun b hb => (off3 b hb).1.1
  have start' : W 0 m0 (upd H2 D (SetK0 X D)) := start
  generalize eC : s3.heap.objs.size = C at I4 r1 r2 r3 ⊢
  generalize eE : compEnvC scope cl C X.env = ce at I4 r1 r2 r3
  have locC : ce.locals = C := by rw [← eE]; rfl
  generalize eH : upd H2 D (SetK0 X D) = H3 at I3 I4 r1 r2 r3 none3 off3 start'
  generalize e4 : ({ s3 with heap := pushCells (s3.heap.push { cls := .type "dict", data := .dict #[] }) scope.names } : Shared) = s4 at I4
  have at4 : tn 0 s4.heap := T.keep _ _ _ at3 fun _ _ _ e => by rw [← e4]; exact pushCells_keeps _ _ _ _ (Heap.get?_push_of_some _ e)
  let B := X.blk s3 H3 scope ce fp
  let R := compPost (model X.prog X.w) X.A X.xe none (EP X pins σ Q) (.ref D) C
  show codeAny (model X.prog X.w) X.A (.compStart (.SetComp elt [⟨tg, iter, ifs, 0⟩] scope pos) 0 (.ref walk) (.ref D) (compEnvC scope cl C X.env)) R _
  rw [eE]
  have pinned : ∀ {τ : L2.St} {Ha : Hp} {sa : Shared}, Inv B [] τ Ha sa → (∀ b ∈ fp, Ha b = none) → ∀ b ∈ fp, FpOk B [] Ha b := fun Ia hn b hb =>
    ⟨hn b hb, (Ia.ok.exf b hb).1, Ia.ok.exfs b hb, .inl hb, fun y c e => (Ia.ok.exf b hb).2 y c e, fun p hp => absurd (show p ∈ ([] : List (Addr × Obj)) ++ [] from hp) (by simp)⟩
  have loop : codeAny (model X.prog X.w) X.A (.compLoop (.SetComp elt [⟨tg, iter, ifs, 0⟩] scope pos) 0 (.ref walk) (.ref D) ce) R s4 := by
    refine compLoopS_any (fun n sa => ∃ i Ha, Inv B [] (wipe σ (own.map (·.2))) Ha sa ∧ tn i sa.heap ∧ (∀ b ∈ fp, Ha b = none) ∧ W i n Ha) ?_ m0 ⟨0, H3, I4, at4, none3, start'⟩
    rintro n sa ⟨i, Ha, Ia, ata, na, wa⟩
    rcases turn i n Ha wa with ⟨stop, last⟩ | ⟨go, Nx, less, step⟩
    · refine thnF (T.done B rfl rfl rfl calm i [] sa _ Ha (fun _ _ => False) Ia (pinned Ia na) ata stop) fun r sb ⟨er, Ib⟩ => ?_
      subst er
      have home : Inv X pins σ Ha sb := I3.call' (ch := fp) Ib.os Ib.base Ib.hok Ib.bare fun b hb => ⟨(off3 b hb).1.2.2.2.1, (off3 b hb).1.2.1, (off3 b hb).1.2.2.2.2.1, (off3 b hb).1.2.2.2.2.2⟩
      have free : Ha C = none := by rw [← locC]; exact Ib.free
      obtain ⟨mm, ns, _⟩ := Ib.loc
      have ns' : sb.heap.Ns C mm := by rw [← locC]; exact ns
      have fpC : FpOk X pins Ha C := I3.fpOk (Nat.le_of_eq eC) free
      refine ⟨mm, ns', fun h'' sb' => ?_⟩
      obtain ⟨f0, f1, f2, f3, f4, f5⟩ := fpC
      exact ⟨.ref D, Ha, home.turned (t' := sb.toks) (fun b o hb e => (sb'.2 b hb).trans e) f0 f1 f3 f4 f5, rfl, last⟩
    · refine thnF (T.item B rfl rfl rfl calm i [] sa _ Ha (fun _ _ => False) Ia (pinned Ia na) ata go) fun r sb ⟨u, er, hb⟩ => ?_
      subst er
      refine thnF hb fun _ sc ⟨x, Hc, Ic, rc, yc, atc, nc⟩ => ?_
      have Ip := Ic.pinned (pinned Ic nc) (T.obj _ _ atc)
      refine thnF (r1.run _ sc _ Hc x u _ Ip rc (step x Hc yc)) fun _ sd ⟨τ, Hd, Id, wd, qd⟩ => ?_
      refine thnF (r2.run _ sd τ Hd _ Id qd) fun b se ⟨He, Ie, qe⟩ => ?_
      have next : ∀ {sz : Shared} {Hz : Hp}, Inv B ([] ++ pinsAt fp sc.heap) τ Hz sz → Nx Hz → ∃ m, m < n ∧ ∃ i Hz, Inv B [] (wipe σ (own.map (·.2))) Hz sz ∧ tn i sz.heap ∧ (∀ b ∈ fp, Hz b = none) ∧ W i m Hz := by
        intro sz Hz Iz nx
        obtain ⟨m', lt, w'⟩ := less Hz nx
        have kept : ∀ b ∈ fp, ∀ o, sc.heap.get? b = some o → sz.heap.get? b = some o ∧ Hz b = none := fun b hb o e => by
          obtain ⟨z1, z2, _⟩ := Iz.pin (b, o) (List.mem_append_right _ (List.mem_append_right _ (mem_pinsAt hb e)))
          exact ⟨z1, z2⟩
        have len : (wipe σ (own.map (·.2))).length = τ.length := by rw [← wd, wipe_length]
        refine ⟨m', lt, i + 1, Hz, (Iz.unpinned (pins := [])).weak len (fun j v e => ?_), T.keep _ _ _ atc fun b hb o e => (kept b hb o e).1, fun b hb => ?_, w'⟩
        · rw [← wd] at e
          exact (wipe_some e).1
        · obtain ⟨o, e, _⟩ := T.obj _ _ atc b hb
          exact (kept b hb o e).2
      cases b with
      | false => exact next Ie qe
      | true =>
        refine thnF (r3.run _ se τ He _ Ie qe) fun z sf ⟨y, Hf, If, rf, c, ks0, ey, hD, room, nx⟩ => ?_
        subst ey
        exact add_ok (X := B) If hD room rf fun sg Ig => next Ig nx
  exact codeAny_compStart_set loop (T.self X.A 0 _ _ _ at4 loop)
end
end Fl
namespace Fl
open PySem PySem.Spec L2
open PyProof.Rows hiding St

def keyV : Val → Option Key
  | .int i => some (.inl i)
  | .str x => some (.inr x)
  | _ => none
theorem key_rel {K : PySem.W.Frag} {ad : Ads} {F : Hp} {ρ : Rts} {x : Val} {u : V} {k : Key} (r : Rp K ad F ρ x u) (e : keyV x = some k) : u = kV k := by
  cases r <;> cases e <;> rfl
/-- a set of keys that is laid -/
def RK (P : Program) (w : World) (F : Hp) (ρ : Rts) (ks : List Key) (u : V) : Prop := ∃ D, u = .ref D ∧ ks.Nodup ∧ F D = some (SetW P w D ks)
abbrev KF := Env → Store → Res (List Key)
structure GK (X : Cx) (ad : Ads) (W : WX) (e : Expr) (f : KF) : Prop where
  run : PE X e (tG X.K ad (RK X.prog X.w) W f)
def scGo (g : TF) (t : TFn) (f : EF) (env0 : Env) : List Val → List Key → Store → Res (List Key)
  | [], ks, S => .ok ks S
  | x :: xs, ks, S => match g x env0 S with
    | .ok env1 S1 => match t env1 S1 with
      | .ok true S2 => match f env1 S2 with
        | .ok y S3 => match keyV y with
          | some k => if ks.length + 1 < scanBound then scGo g t f env0 xs (insK ks k) S3 else .stuck
          | none => .stuck
        | _ => .stuck
      | .ok false S2 => scGo g t f env0 xs ks S2
      | _ => .stuck
    | _ => .stuck
def eSc (it : AF) (g : TF) (t : TFn) (f : EF) (vs : List Nat) : KF := fun env S => (it env S).bind fun xs S1 => scGo g t f (wipeE env vs) xs [] S1
section
variable {X : Cx} {ad : Ads} {W : WX} {pos : Pos} {elt tg iter : Expr} {ifs : List Expr} {scope : Scope} {own : List (PySem.Str × Nat)} {it : AF} {g : TF} {t : TFn} {f : EF}
theorem sc_read (nh : ad.hold = none) {vs : List Nat} {F ρ env S σ H} {Q : VK} (rs : RS X.K ad F ρ env S σ H) (q : Aft X.K ad (RK X.prog X.w) W F ρ env σ (eSc it g t f vs env S) Q) :
    tScK X.prog X.w (tG X.K ad (Yl X.K ad) W it) (tT X.K ad vs W0 g) (tG X.K ad RB W0 t) (tG X.K ad (Rp X.K ad) W0 f) vs σ H Q := by
  refine ⟨F, ρ, env, S, rs, Aft.bind q fun F1 ρ1 S1 xs J H1 l1 rs1 y q1 => ?_⟩
  intro D hD
  let O := fun (ks : List Key) => SetW X.prog X.w D ks
  obtain ⟨rh, lh⟩ := rs1.s.hide (o := O []) hD
  let St := fun (i : Nat) (H : Hp) => ∃ F' ρ' S' ks, Le F1 ρ1 F' ρ' ∧ RS0 X.K ad F' (ρ'.hid D (O ks)) S' H ∧ ks.Nodup ∧ Aft X.K ad (RK X.prog X.w) W F' ρ' env σ (scGo g t f (wipeE env vs) (xs.drop i) ks S') Q
  refine ⟨fun i m H => m = xs.length - i ∧ i ≤ xs.length ∧ St i H, ⟨xs.length, by simp, Nat.zero_le _, F1, ρ1, S1, [], .refl, rh, List.nodup_nil, by simpa using q1⟩, ?_⟩
  rintro i m H' ⟨rfl, hi, F', ρ', S', ks, l', rh', nd, q'⟩
  have re' : RE X.K ad F' (ρ'.hid D (O ks)) env σ := (rs1.e.mono l').hid
  have lF : Le0 F1 ρ1 F' (ρ'.hid D (O ks)) := ⟨l'.f, l'.r⟩
  obtain ⟨ys, yg⟩ := y F' _ env S' σ H' lF ⟨rh', re'⟩
  by_cases hlt : i < xs.length
  · obtain ⟨go, yd⟩ := yg i xs[i] (by simp [hlt])
    refine .inr ⟨go, St (i + 1), fun H2 h => ⟨xs.length - (i + 1), by omega, rfl, hlt, h⟩, fun u H2 yu => ?_⟩
    obtain ⟨F2, ρ2h, l2h, rs2, rx⟩ := yd u H2 yu
    obtain ⟨ρ2, rfl, l2⟩ := hid_le l2h
    refine ⟨F2, _, wipeE env vs, S', xs[i], ⟨rs2.s, rs2.e.wipe nh vs⟩, rx, ?_⟩
    rw [List.drop_eq_getElem_cons hlt] at q'
    unfold scGo at q'
    cases e : g xs[i] (wipeE env vs) S' with
    | stuck => rw [e] at q'; exact q'.elim
    | exc c' fs S3 => rw [e] at q'; exact q'.elim
    | ok env3 S3 =>
      rw [e] at q'
      dsimp only at q'
      intro F3 ρ3h σ3 H3 l3h rs3 hw
      obtain ⟨ρ3, rfl, l3⟩ := hid_le l3h
      refine ⟨hw.trans (wipe_idem σ vs), F3, _, env3, S3, rs3, ?_⟩
      cases e2 : t env3 S3 with
      | stuck => rw [e2] at q'; exact q'.elim
      | exc c' fs S4 => rw [e2] at q'; exact q'.elim
      | ok b S4 =>
        rw [e2] at q'
        intro F4 ρ4h b' H4 l4h rs4 eb
        cases eb
        obtain ⟨ρ4, rfl, l4⟩ := hid_le l4h
        cases b with
        | false => exact ⟨F4, ρ4, S4, ks, ((l'.trans l2).trans l3).trans l4, rs4.s, nd, Aft.later ((l2.trans l3).trans l4) q'⟩
        | true =>
          dsimp only at q' ⊢
          refine ⟨F4, _, env3, S4, rs4, ?_⟩
          cases e3 : f env3 S4 with
          | stuck => rw [e3] at q'; exact q'.elim
          | exc c' fs S5 => rw [e3] at q'; exact q'.elim
          | ok yv S5 =>
            rw [e3] at q'
            dsimp only at q'
            intro F5 ρ5h w H5 l5h rs5 rw5
            obtain ⟨ρ5, rfl, l5⟩ := hid_le l5h
            cases e4 : keyV yv with
            | none => simp only [e4] at q'; exact q'.elim
            | some k =>
              simp only [e4] at q'
              split at q'
              · rename_i room
                have lt := ((l2.trans l3).trans l4).trans l5
                exact ⟨k, _, key_rel rw5 e4, (rs5.s.prv (D, O ks) List.mem_cons_self).1, room, F5, ρ5, S5, insK ks k, l'.trans lt, rs5.s.rehide, insK_nodup nd, Aft.later lt q'⟩
              · exact q'.elim
  · have e : i = xs.length := by omega
    subst e
    refine .inl ⟨ys, ?_⟩
    rw [List.drop_length] at q'
    unfold scGo at q'
    obtain ⟨r2, l2⟩ := rh'.drop
    have lz : Le F' ρ' (upd F' D (O ks)) ρ' := ⟨⟨l2.f, fun i a h => h⟩, rfl⟩
    exact q' _ ρ' _ H' lz ⟨r2, (rs1.e.mono l').mono lz⟩ ⟨D, rfl, nd, upd_same⟩
theorem gk_sc (nh : ad.hold = none) (hc : X.calm = true) (hN : X.N.Nodup) (hi : GI X ad W tg iter it) (ok : BlkOk X.N X.env.scope scope own)
    (hg : ∀ (s : Shared) (H : Hp) (C : Addr) (cl : List (Str × Addr)) (fp : List Addr), GG (X.blk s H scope (compEnvC scope cl C X.env) fp) ad (own.map (·.2)) W0 tg g) (ht : ∀ (s : Shared) (H : Hp) (C : Addr) (cl : List (Str × Addr)) (fp : List Addr), GTs (X.blk s H scope (compEnvC scope cl C X.env) fp) ad W0 ifs t)
    (he : ∀ (s : Shared) (H : Hp) (C : Addr) (cl : List (Str × Addr)) (fp : List Addr), GE (X.blk s H scope (compEnvC scope cl C X.env) fp) ad W0 elt f) (hs : ∀ x, foldedSetIterable iter X.env x = pure x := by intro _; rfl) :
    GK X ad W (.SetComp elt [⟨tg, iter, ifs, 0⟩] scope pos) (eSc it g t f (own.map (·.2))) :=
  ⟨(pe_sck hc hN hi.run ok (fun s H C cl fp => (hg s H C cl fp).run) (fun s H C cl fp => (ht s H C cl fp).run) (fun s H C cl fp => (he s H C cl fp).run) hs).imp fun σ H Q ⟨F, ρ, env, S, rs, q⟩ => sc_read nh rs q⟩
/-- len of a set -/
def rLenK (P : Program) (w : World) : List V → Hp → VK → Prop := fun xs H Q => ∃ D ks, xs = [V.ref D] ∧ H D = some (SetW P w D ks) ∧ Q (.int ks.length) H
theorem cr_lenK : CallR X (.builtin "len") (rLenK X.prog X.w) := by
  intro pins s σ H xs us Q I r h
  obtain ⟨D, ks, rfl, ha, q⟩ := h
  obtain ⟨u, rfl, rx⟩ := vals1 r
  cases rx
  have R := setW_get I ha
  have few := R.few
  obtain ⟨o, es, ep, t, ho, hex, hd, _, _, _, hf, hn⟩ := R.setOf
  have sb : scanBound < 2 ^ 63 := by decide
  refine call_len_set ho hex hd hf (by rw [hn]; omega) ⟨.int ks.length, H, I.tok _, ⟨_, by rw [hn]⟩, q⟩
def eLenK (fk : KF) : EF := fun env S => (fk env S).bind fun ks S1 => if ks.length < scanBound then .ok (.int ks.length) S1 else .stuck
theorem g_lenK {p cpos : Pos} {e : Expr} {fk : KF} (h : GK X ad W e fk) (hg : Gl X "len") (hm : X.mg "len" = none) (hst : starEach [e] X.env = [(false, eval e X.env)] := by rfl) : GE X ad W (.Call (.Name "len" p) [e] [] cpos) (eLenK fk) := by
  have st1 : starEach [e] X.env = (false, eval e X.env) :: starEach [] X.env := hst
  refine g_of (pe_callB cr_lenK hg hm (by rfl) (pa_cons h.run pa_nil st1) (he := st1) (hpl := rfl)) fun F ρ env S σ H Q rs q => ⟨F, ρ, env, S, rs, Aft.bind q fun F1 ρ1 S1 ks u H1 l1 rs1 rk q1 => ?_⟩
  obtain ⟨D, e, nd, hF⟩ := rk
  subst e
  split at q1
  · rename_i lt
    exact ⟨D, _, rfl, rs1.s.sub _ _ hF, q1 F1 ρ1 _ H1 .refl rs1 (.int _)⟩
  · exact q1.elim
end
end Fl
/-! set(list of ints and texts) -/
namespace Fl
open PySem PySem.Spec L2
open PyProof.Rows hiding St

/-- the first n of them, each once -/
def ddK (ks : List Key) : List Key := ks.foldl insK []
theorem ddK_snoc (ks : List Key) (k : Key) : ddK (ks ++ [k]) = insK (ddK ks) k := by unfold ddK; rw [List.foldl_append]; rfl
theorem insK_le (ks : List Key) (k : Key) : (insK ks k).length ≤ ks.length + 1 := by
  unfold insK
  split
  · omega
  · rw [List.length_append]; exact Nat.le_refl _
theorem foldl_insK_le : ∀ (ks acc : List Key), (ks.foldl insK acc).length ≤ acc.length + ks.length
  | [], acc => by simp
  | k :: ks, acc => by
    have h1 := foldl_insK_le ks (insK acc k)
    have h2 := insK_le acc k
    rw [List.foldl_cons, List.length_cons]
    omega
theorem ddK_le (ks : List Key) : (ddK ks).length ≤ ks.length := by
  have := foldl_insK_le ks []
  simpa [ddK] using this
theorem foldl_insK_nodup : ∀ (ks acc : List Key), acc.Nodup → (ks.foldl insK acc).Nodup
  | [], _, h => h
  | k :: ks, acc, h => foldl_insK_nodup ks _ (insK_nodup h)
theorem ddK_nodup (ks : List Key) : (ddK ks).Nodup := foldl_insK_nodup ks [] List.nodup_nil
section
variable {P : Program} {w : World} {A : Around} {E : Value → Shared → Prop} {s : Shared}
section
variable {Rz : Result → Shared → Prop} {It : Addr} {fp wr : List Addr} {G : Array GenState → Array GenState → Prop} {n : Nat} {Pv : Nat → Value → Prop} {Ss : Nat → Shared → Prop}
theorem fill_loop (Wk : WalksS P w A.in1 It fp wr G n Pv Ss) (D : Addr) (off : D ∉ fp) (ks : List Key) (many : ks.length = n) (few : n + 1 < scanBound) (at_ : ∀ (i : Nat) (v : Value), Pv i v → ∃ k, ks[i]? = some k ∧ RelV (kV k) v) :
    ∀ (m i : Nat) (t : Shared), n - i = m → i ≤ n → Ss i t → SetWR P w t.heap D (ddK (ks.take i)) → (∀ t', Moved (D :: wr) G t t' → SetWR P w t'.heap D (ddK ks) → Rz (.ok (.ret .none)) t') →
      codeAny (model P w) A (.builtin "set.update.loop" ⟨[.ref D, .ref It], []⟩) Rz t := by
  have offw : D ∉ wr := fun z => off (Wk.sub _ z)
  have more : ∀ b ∈ wr, b ∈ D :: wr := fun b z => List.mem_cons_of_mem _ z
  intro m
  induction m with
  | zero =>
    intro i t em hi st hS fin
    have ei : i = n := by omega
    subst ei
    refine codeAny_builtin PyProof.Rows.F.entry_set_update_loop ?_
    rw [Around.under_plainId PyProof.Rows.F.plain_set_update_loop _]
    show wpAny _ A.in1 (pyNext (.ref It) >>= _) _ _ t
    refine wpAny_bind (Wk.done t _ _ st fun t' mv => ?_)
    show wpAny _ A.in1 (ret Value.none) _ _ t'
    refine wpAny_pure (fin t' (mv.mono more) ?_)
    rw [← many, List.take_length] at hS
    exact hS.keep fun o e => mv.heap D o offw e
  | succ m ih =>
    intro i t em hi st hS fin
    have lt : i < n := by omega
    refine codeAny_builtin PyProof.Rows.F.entry_set_update_loop ?_
    rw [Around.under_plainId PyProof.Rows.F.plain_set_update_loop _]
    show wpAny _ A.in1 (pyNext (.ref It) >>= _) _ _ t
    refine wpAny_bind (Wk.item i t _ _ lt st fun v t' pv st' mv => ?_)
    obtain ⟨k, ek, rk⟩ := at_ i v pv
    have hS' : SetWR P w t'.heap D (ddK (ks.take i)) := hS.keep fun o e => mv.heap D o offw e
    show wpAny _ A.in1 (holding [v] (setAdd D v) >>= _) _ _ t'
    refine wpAny_bind (wpAny_holding ?_)
    unfold setAdd
    have room : (ddK (ks.take i)).length + 1 < scanBound := by
      have h1 := ddK_le (ks.take i)
      rw [List.length_take] at h1
      omega
    refine wpAny_holding (wpAny_bind ((mixKind P w).pyHash (kV_is rk) (addw_hashed (s := { t' with toks := t'.toks + 1 }) rk hS' room fun b h' sb new => ?_)))
    have new' : SetWR P w h' D (ddK (ks.take (i + 1))) := by
      have ij : i < ks.length := by omega
      have e1 : ks.take (i + 1) = ks.take i ++ [k] := by
        rw [List.take_succ_eq_append_getElem ij]
        have := List.getElem?_eq_getElem ij
        rw [ek] at this
        rw [Option.some.inj this]
      rw [e1, ddK_snoc]
      exact new
    refine wpAny_pure ⟨plainId_quiet PyProof.Rows.F.plain_set_update_loop _, ih (i + 1) _ (by omega) lt (Wk.frame _ t' _ _ st' (Nat.le_succ _) fun c hc o e => ?_) new' fun t2 mv2 S2 => ?_⟩
    · rw [sb.2 c (fun z : c = D => off (by rw [← z]; exact hc))]; exact e
    · refine fin t2 (Moved.trans Wk.gtrans ((mv.mono more).then_heap (Nat.le_succ _) fun c o hc e => ?_) mv2) S2
      rw [sb.2 c (fun z : c = D => hc (by rw [z]; exact List.mem_cons_self))]; exact e
end
abbrev fresh0 (w : World) : Obj := { cls := .type "set", dict := none, data := .set #[] 0 (.fresh 0 0 (!w.params.followText "set-order")) }
theorem code_new1 (x : Value) {Z : Value → Shared → Prop} (h : Z (.ref s.heap.objs.size) { s with heap := s.heap.push (fresh0 w) }) :
    codeAny (model P w) A (.call (.builtin "set.__new__") ⟨[.type "set", x], []⟩) (wants Z E) s := by
  refine codeAny_of_tree ?_
  show wpAny _ A.in1 (do checkBuiltinCall "set.__new__" ⟨[.type "set", x], []⟩; again (.builtin "set.__new__" ⟨[.type "set", x], []⟩)) _ _ s
  refine wpAny_bind (wpAny_of_eq (F.newCall_set_1 x) (wpAny_pure ⟨plainId_quiet F.plain_set_new _, codeAny_builtin F.entry_set_new ?_⟩))
  rw [Around.under_plainId F.plain_set_new _]
  unfold Builtin.«set.__new__» Builtin.Frozenset.newClass
  have hsub := sub_set_self
  obtain ⟨hp, g, d, tk, os⟩ := s
  dsimp only
  wp_walk
  refine wpAny_askSetting (wpAny_pure ?_)
  dsimp only
  simp only [newObj]
  exact wpAny_bind (wpAny_alloc (wpAny_pure (wpAny_pure h)))
set_option maxHeartbeats 4000000 in
theorem call_set_keys {l : Addr} {its : Array Value} {ks : List Key} {Z : Value → Shared → Prop} (hh : A.handled = none) (hl : s.heap.IsList l its) (rel : ∀ (i : Nat) (v : Value), its[i]? = some v → ∃ k, ks[i]? = some k ∧ RelV (kV k) v) (many : ks.length = its.size) (few : its.size + 1 < scanBound)
    (h : ∀ (h' : Heap) (tk : Nat), SetWR P w h' s.heap.objs.size (ddK ks) → (∀ b o, b < s.heap.objs.size → s.heap.get? b = some o → h'.get? b = some o) → Z (.ref s.heap.objs.size) { s with heap := h', toks := tk }) :
    wpAny (model P w) A (call (.type "set") [.ref l]) Z E s := by
  obtain ⟨c, tl, hmro⟩ := F.called_set.mro
  have hmade := F.called_set.made
  have hsub := F.called_set.sub
  refine wpAny_call (codeAny_of_tree ?_)
  show wpAny _ _ (callAny (.type "set") _) _ _ _
  refine wpAny_pure ⟨Code.quiet_builtin _ (by decide +kernel), codeAny_builtin F.entry_type_call ?_⟩
  rw [Around.under_plain (weight_type_call_type "set" [.ref l] []) rfl]
  have h1 := F.called_set.notType
  have h2 := F.called_set.canCreate
  have hct := F.typeCall_set_1 (.ref l)
  repeat (any_goals (first | assumption | wp_step))
  refine codeAny_mono (code_new1 (.ref l) (E := E) (Z := fun obj s1 => obj = .ref s.heap.objs.size ∧ s1 = { s with heap := s.heap.push (fresh0 w) }) ⟨rfl, rfl⟩) fun r s1 hr => ?_
  cases r with
  | error e => exact hr
  | ok fl =>
    cases fl with
    | ret obj =>
      obtain ⟨rfl, rfl⟩ := hr
      have gS : (s.heap.push (fresh0 w)).get? s.heap.objs.size = some (fresh0 w) := Heap.get?_push_size _ rfl
      have hT : Shared.TypeIs { s with heap := s.heap.push (fresh0 w) } (.ref s.heap.objs.size) "set" := ⟨_, gS, rfl⟩
      have hli := F.called_set.init.lookup
      have hbi := F.called_set.init.bind (.ref s.heap.objs.size)
      repeat (any_goals (first | assumption | wp_step))
      refine codeAny_mono (codeAny_call_builtin (R := wants (fun r s2 => r = .none ∧ ∃ h' tk, s2 = { s with heap := h', toks := tk } ∧ SetWR P w h' s.heap.objs.size (ddK ks) ∧
          (∀ b o, b < s.heap.objs.size → s.heap.get? b = some o → h'.get? b = some o)) E) F.called_set.init.plain F.entry_set_init (check_set_init_1 hT ?_)) fun r2 s2 hr2 => ?_
      · obtain ⟨ol, hol, hcl, nl, hdl⟩ := hl
        obtain ⟨ocls, odict, odata, oslots⟩ := ol
        simp only at hcl hdl
        subst hcl hdl
        have gl : (s.heap.push (fresh0 w)).get? l = some { cls := .type "list", dict := odict, data := .seq its nl, slots := oslots } := Heap.get?_push_of_some _ hol
        have hsls := F.sub_list_set
        have hslf := F.sub_list_frozenset
        have hne : (Value.type "list" == Value.type "dict") = false := by decide
        have il : (s.heap.push (fresh0 w)).IsList l its := ⟨_, gl, rfl, nl, rfl⟩
        unfold Builtin.«set.__init__» noKeywords Builtin.Frozenset.updateFrom
        generalize hPI : pyIter = PI
        wp_walk
        subst hPI
        refine wpAny_pyIter_list il (wpAny_bind (wpAny_runValue ?_))
        have ltl : l < s.heap.objs.size := Heap.lt_size hol
        have hh3 : A.in1.in1.in1.handled = none := by simp [hh]
        have size1 : (s.heap.push (fresh0 w)).objs.size = s.heap.objs.size + 1 := Heap.size_push ..
        have nel : l ≠ (s.heap.push (fresh0 w)).objs.size := by rw [size1]; exact Nat.ne_of_lt (Nat.lt_succ_of_lt ltl)
        have offD : s.heap.objs.size ∉ [(s.heap.push (fresh0 w)).objs.size, l] := by
          rw [size1]
          simp only [List.mem_cons, List.not_mem_nil, or_false, not_or]
          exact ⟨Nat.ne_of_lt (Nat.lt_succ_self _), Nat.ne_of_gt ltl⟩
        refine fill_loop ((Walks.list hh3 _ l nel its).toS) s.heap.objs.size offD ks many few rel (its.size - 0) 0 _ (by omega) (Nat.zero_le _) ⟨⟨_, Heap.get?_push_size _ rfl, rfl, rfl⟩, (il.push _)⟩ ?first ?last
        case first =>
          exact setW_fresh.keep fun o e => Heap.get?_push_of_some _ e
        case last =>
          intro t mv hS
          obtain ⟨h', g', d', tk', os'⟩ := t
          have eg : g' = s.gens := mv.gens
          have ed : d' = s.drawn := mv.drawn
          have eo : os' = s.os := mv.os
          subst eg ed eo
          show wpAny _ _ _ _ _ _
          refine wpAny_pure ?_
          show wpAny _ _ (ret Value.none) _ _ _
          refine wpAny_pure ⟨rfl, h', tk', rfl, hS, fun b o hb e => ?_⟩
          refine mv.heap b o ?_ (Heap.get?_push_of_some _ (Heap.get?_push_of_some _ e))
          rw [size1]
          simp only [List.mem_cons, List.not_mem_nil, or_false, not_or]
          exact ⟨Nat.ne_of_lt hb, Nat.ne_of_lt (Nat.lt_succ_of_lt hb)⟩
      · cases r2 with
        | error e => exact hr2
        | ok fl2 =>
          cases fl2 with
          | ret r =>
            obtain ⟨rfl, h', tk, rfl, hS, hk⟩ := hr2
            repeat (any_goals (first | assumption | wp_step))
            exact h _ _ hS hk
          | _ => exact hr2.elim
    | _ => exact hr.elim
end
def keysV : List Val → Option (List Key)
  | [] => some []
  | x :: xs => match keyV x, keysV xs with
    | some k, some ks => some (k :: ks)
    | _, _ => none
theorem keys_rel {K : PySem.W.Frag} {ad : Ads} {F : Hp} {ρ : Rts} : ∀ {xs : List Val} {us : List V} {ks : List Key}, Rps K ad F ρ xs us → keysV xs = some ks → us = ks.map kV
  | _, _, _, .nil, e => by simp only [keysV] at e; cases e; rfl
  | x :: xs, u :: us, _, .cons r t, e => by
    simp only [keysV] at e
    cases q1 : keyV x with
    | none => simp only [q1] at e; cases e
    | some a =>
      cases q2 : keysV xs with
      | none => simp only [q1, q2] at e; cases e
      | some b =>
        simp only [q1, q2] at e
        cases e
        rw [key_rel r q1, keys_rel t q2]
        rfl
section
variable {X : Cx} {ad : Ads} {W : WX} {pos p : Pos}
theorem vals_at : ∀ {us : List V} {vs : List Value}, L2.Vals us vs → ∀ (i : Nat) (v : Value), vs[i]? = some v → ∃ u, us[i]? = some u ∧ RelV u v
  | _, _, .nil, i, v, h => by simp at h
  | _, _, .cons r t, 0, v, h => by simp at h; subst h; exact ⟨_, rfl, r⟩
  | _, _, .cons r t, i + 1, v, h => by
    rw [List.getElem?_cons_succ] at h
    rw [List.getElem?_cons_succ]
    exact vals_at t i v h
def rSetK (K : PySem.W.Frag) (P : Program) (w : World) : List V → Hp → VK → Prop := fun xs H Q => ∃ l ks, xs = [V.ref l] ∧ SqL K H l (ks.map kV) ∧ ks.length + 1 < scanBound ∧ ∀ D, H D = none → Q (.ref D) (upd H D (SetW P w D (ddK ks)))
theorem cr_setK (hc : X.calm = true) : CallR X (.type "set") (rSetK X.K X.prog X.w) := by
  intro pins s σ H xs us Q I r h
  obtain ⟨l, ks, rfl, hl, few, q⟩ := h
  obtain ⟨u, rfl, rx⟩ := vals1 r
  cases rx
  obtain ⟨its, rv, pl, hz⟩ := I.list hl
  have many : ks.length = its.length := by have := rv.length; rw [List.length_map] at this; omega
  refine call_set_keys (P := X.prog) (w := X.w) (ks := ks) (I.ok.hd hc) pl.isList (fun i v e => ?_) (by simpa using many) (by simpa [many] using few) fun h' tk R k => ?_
  · have e' : its[i]? = some v := by simpa using e
    obtain ⟨u, h1, h2⟩ := vals_at rv i v e'
    rw [List.getElem?_map] at h1
    cases e3 : ks[i]? with
    | none => rw [e3] at h1; cases h1
    | some kk => rw [e3] at h1; cases h1; exact ⟨kk, rfl, h2⟩
  · exact ⟨.ref s.heap.objs.size, upd H s.heap.objs.size (SetW X.prog X.w s.heap.objs.size (ddK ks)), I.laid (t' := tk) (fun b o e => k b o (Heap.lt_size e) e) (Nat.le_refl _) (setW_new R), rfl, q _ (I.hok.fresh (Nat.le_refl _))⟩
def kSet (a : AF) : KF := fun env S => (a env S).bind fun xs S1 => match xs with
  | [x] => match lstOf S1 x with
    | some ys => match keysV ys with
      | some ks => if ks.length + 1 < scanBound then .ok (ddK ks) S1 else .stuck
      | none => .stuck
    | none => .stuck
  | _ => .stuck
theorem gk_set {e : Expr} {a : AF} (hc : X.calm = true) (hg : Gl X "set") (hm : X.mg "set" = none) (ha : GA X ad W [e] a) (hst : starEach [e] X.env = [(false, eval e X.env)] := by rfl) : GK X ad W (.Call (.Name "set" p) [e] [] pos) (kSet a) := by
  refine ⟨(pe_callTy (cr_setK hc) hg hm (by rfl) ha.run (he := hst) (hpl := rfl)).imp fun σ H Q ⟨F, ρ, env, S, rs, q⟩ => ⟨F, ρ, env, S, rs, Aft.bind q fun F1 ρ1 S1 xs us H1 l1 rs1 rx q1 => ?_⟩⟩
  split at q1
  · rename_i x
    cases rx with
    | cons r1 r2 =>
      cases r2
      split at q1
      · rename_i ys e1
        split at q1
        · rename_i ks e2
          split at q1
          · rename_i few
            obtain ⟨l, vs, rfl, hl, rr⟩ := rs1.s.lst r1 e1
            have ev := keys_rel rr e2
            subst ev
            refine ⟨l, ks, rfl, hl, few, fun D hD => ?_⟩
            obtain ⟨rs2, l2⟩ := rs1.lay (o := SetW X.prog X.w D (ddK ks)) hD
            exact q1 _ _ _ _ l2 rs2 ⟨D, rfl, ddK_nodup ks, upd_same⟩
          · exact q1.elim
        · exact q1.elim
      · exact q1.elim
  · exact q1.elim
end
end Fl
namespace Fl
open PySem PySem.Spec L2
open PyProof.Rows hiding St

/-! ### dicts with texts as keys: {}, d[k], d[k] = v, k in d, d.get(k), d.get(k, x) -/
def valD (k : Str) : List (Str × Val) → Option Val
  | [] => none
  | p :: r => if p.1 = k then some p.2 else valD k r
def putD (k : Str) (v : Val) (kvs : List (Str × Val)) : List (Str × Val) :=
  if (kvs.any fun p => decide (p.1 = k)) = true then kvs.map (fun p => if p.1 = k then (p.1, v) else p) else kvs ++ [(k, v)]
section
variable {K : PySem.W.Frag} {ad : Ads} {F : Hp} {ρ : Rts} {S : Store} {H : Hp}
theorem Rpk.len : ∀ {kvs : List (Str × Val)} {ks : List (Key × V)}, Rpk K ad F ρ kvs ks → kvs.length = ks.length
  | _, _, .nil => rfl
  | _, _, .cons _ t => congrArg (· + 1) (Rpk.len t)
theorem Rpk.val {k : Str} : ∀ {kvs : List (Str × Val)} {ks : List (Key × V)}, Rpk K ad F ρ kvs ks → match valD k kvs with
    | some x => ∃ u, valV ks (.inr k) = some u ∧ Rp K ad F ρ x u
    | none => valV ks (.inr k) = none
  | _, _, .nil => rfl
  | _, _, .cons (f := f) r t => by
    have ih := Rpk.val (k := k) t
    unfold valD
    by_cases e : f = k
    · rw [if_pos e]
      exact ⟨_, valV_pos (congrArg Sum.inr e), r⟩
    · rw [if_neg e, valV_neg (p := (Sum.inr f, _)) (fun z => e (Sum.inr.inj z))]
      exact ih
theorem Rpk.any {k : Str} : ∀ {kvs : List (Str × Val)} {ks : List (Key × V)}, Rpk K ad F ρ kvs ks → (ks.any fun p => decide (p.1 = Sum.inr k)) = kvs.any fun p => decide (p.1 = k)
  | _, _, .nil => rfl
  | _, _, .cons (f := f) r t => by
    rw [List.any_cons, List.any_cons, Rpk.any t]
    congr 1
    by_cases e : f = k
    · subst e; simp
    · have e' : ¬ (Sum.inr f : Key) = Sum.inr k := fun z => e (Sum.inr.inj z)
      rw [decide_eq_false e, decide_eq_false e']
theorem Rpk.snoc {k : Str} {x : Val} {u : V} (h : Rp K ad F ρ x u) : ∀ {kvs : List (Str × Val)} {ks : List (Key × V)}, Rpk K ad F ρ kvs ks → Rpk K ad F ρ (kvs ++ [(k, x)]) (ks ++ [(.inr k, u)])
  | _, _, .nil => .cons h .nil
  | _, _, .cons r t => .cons r (Rpk.snoc h t)
theorem Rpk.map {k : Str} {x : Val} {u : V} (h : Rp K ad F ρ x u) : ∀ {kvs : List (Str × Val)} {ks : List (Key × V)}, Rpk K ad F ρ kvs ks → Rpk K ad F ρ (kvs.map fun p => if p.1 = k then (p.1, x) else p) (ks.map fun p => if p.1 = Sum.inr k then (p.1, u) else p)
  | _, _, .nil => .nil
  | _, _, .cons (f := f) r t => by
    rw [List.map_cons, List.map_cons]
    by_cases e : f = k
    · subst e
      rw [if_pos rfl, if_pos rfl]
      exact .cons h (Rpk.map h t)
    · rw [if_neg e, if_neg (fun z => e (Sum.inr.inj z))]
      exact .cons r (Rpk.map h t)
theorem Rpk.put {k : Str} {x : Val} {u : V} (h : Rp K ad F ρ x u) {kvs : List (Str × Val)} {ks : List (Key × V)} (r : Rpk K ad F ρ kvs ks) : Rpk K ad F ρ (putD k x kvs) (putK ks (.inr k) u) := by
  unfold putD putK
  rw [r.any]
  split
  · exact r.map h
  · exact r.snoc h
theorem bare_rd {a : Addr} {o : HO} {ks : List (Key × V)} (h : H a = some o) (b : bare o = .dK ks) : Rd H a (.dK ks) := by
  cases o with
  | frz ob u =>
    cases u <;> first | (cases b; done) | skip
    cases b
    exact .inr ⟨_, h⟩
  | dK k => cases b; exact .inl h
  | _ => cases b
theorem RS0.dct (r : RS0 K ad F ρ S H) {x : Val} {u : V} {kvs : List (Str × Val)} (h : Rp K ad F ρ x u) (e : dctOf S x = some kvs) : ∃ a ks, u = .ref a ∧ Rd H a (.dK ks) ∧ Rpk K ad F ρ kvs ks := by
  cases x <;> simp only [dctOf] at e <;> try cases e
  · cases h
  · rename_i i
    split at e
    · rename_i hs
      cases e
      cases h with
      | ref h1 =>
        obtain ⟨a, o, o', e1, ⟨ks, e3, e4⟩, e2, e5⟩ := r.rd hs
        rw [h1] at e1; cases e1
        subst e3
        exact ⟨_, ks, rfl, bare_rd e2 (e5.dict rfl), e4⟩
    · rename_i hs
      cases e
      cases h with
      | ref h1 =>
        obtain ⟨a, o, o', e1, ⟨od, ks, e3, e4⟩, e2, e5⟩ := r.rd hs
        rw [h1] at e1; cases e1
        subst e3
        exact ⟨_, ks, rfl, bare_rd e2 (e5.dict rfl), e4⟩
    · cases e
end
def eD0 : EF := fun _ S => .ok (.ref S.length) (S ++ [(true, .dct [])])
def eDGet (fo fk : EF) : EF := fun env S => (fo env S).bind fun x S1 => (fk env S1).bind fun y S2 => match dctOf S2 x, y with
  | some kvs, .str k => match valD k kvs with
    | some v => .ok v S2
    | none => .stuck
  | _, _ => .stuck
def sDPut (fo fk fv : EF) : SF := fun env S => (fv env S).go env fun v S1 => (fo env S1).go env fun x S2 => (fk env S2).go env fun y S3 => match x, y with
  | .ref i, .str k => match S3[i]? with
    | some (true, .dct kvs) => if kvs.length < sizeLine then .nx env (S3.set i (true, .dct (putD k v kvs))) else .stuck
    | _ => .stuck
  | _, _ => .stuck
section
variable {X : Cx} {ad : Ads} {W : WX} {pos pos' apos cpos : Pos} {o i e : Expr} {fo fi fe : EF} {k : Nat}
theorem g_d0 : GE X ad W (.Dict [] [] pos) eD0 := by
  refine g_of pe_dnewK fun F ρ env S σ H Q rs q p hp => ?_
  obtain ⟨rs2, l2⟩ := rs.cell (c := .dct []) (o := .dK []) hp ⟨[], rfl, .nil⟩
  exact q _ _ _ _ l2 rs2 (.ref (by rw [← rs.s.len]; simp [Rts.add]))
theorem g_dget (hr : Room k X.A) (ho : GE X ad W o fo) (hi : GE X ad W i fi) (hs : NoSl i := by intro _ _; rfl) : GE X ad W (.Subscript o i pos) (eDGet fo fi) := by
  refine g_of (pe_dget (Nat.lt_of_le_of_lt (by omega) hr.units) ho.run hi.run hs) fun F ρ env S σ H Q rs q => ⟨F, ρ, env, S, rs, Aft.bind q fun F1 ρ1 S1 x u H1 l1 rs1 rx q1 => ⟨F1, ρ1, env, S1, rs1, Aft.bind q1 fun F2 ρ2 S2 y v H2 l2 rs2 ry q2 => ?_⟩⟩
  cases e1 : dctOf S2 x with
  | none => simp only [e1] at q2; exact q2.elim
  | some kvs =>
    cases ry <;> first | (simp only [e1] at q2; exact q2.elim) | skip
    rename_i z
    simp only [e1] at q2
    obtain ⟨a, ks, rfl, hd, rk⟩ := rs2.s.dct (rx.mono l2) e1
    have rv := rk.val (k := z)
    cases e2 : valD z kvs with
    | none => simp only [e2] at q2; exact q2.elim
    | some w =>
      simp only [e2] at q2 rv
      obtain ⟨w', e3, r3⟩ := rv
      exact ⟨a, w', rfl, .inl ⟨ks, .inr z, hd, rfl, e3.symm⟩, q2 F2 ρ2 w' H2 .refl rs2 r3⟩
theorem gs_dput (hr : Room k X.A) (ho : GE X ad W o fo) (hi : GE X ad W i fi) (he : GE X ad W e fe) (hs : swapsWith e (some (.Subscript o i pos')) pos.line X.env = pure false := by rfl) :
    GS X ad W (.Assign [.Subscript o i pos'] e pos) (Fl.sDPut fo fi fe) := by
  refine gs_of (ps_dput (Nat.lt_of_le_of_lt (by omega) hr.units) ho.run hi.run he.run hs) fun F ρ env S σ H D rs q => ⟨F, ρ, env, S, rs, AftS.go q fun F1 ρ1 S1 v w H1 l1 rs1 rv q1 =>
    ⟨F1, ρ1, env, S1, rs1, AftS.go q1 fun F2 ρ2 S2 x u H2 l2 rs2 rx q2 => ⟨F2, ρ2, env, S2, rs2, AftS.go q2 fun F3 ρ3 S3 y t H3 l3 rs3 ry q3 => ?_⟩⟩⟩
  have rx3 := rx.mono l3
  have rv3 := rv.mono (l2.trans l3)
  cases rx3 <;> first | exact q3.elim | skip
  rename_i j a hj
  cases ry <;> first | exact q3.elim | skip
  rename_i z
  dsimp only at q3
  split at q3
  · rename_i kvs hs3
    split at q3
    · rename_i hl
      obtain ⟨a', o', e1, ⟨ks, e2, rk⟩, e3, _⟩ := rs3.s.cel _ _ _ hs3
      subst e2
      rw [hj] at e1; cases e1
      exact ⟨a, _, rfl, .inl ⟨ks, .inr z, (e3 rfl).1, rfl, by rw [← rk.len]; exact hl, rfl⟩, q3 F3 ρ3 σ _ .refl (rs3.put hs3 hj ⟨_, rfl, rk.put rv3⟩)⟩
    · exact q3.elim
  · exact q3.elim
end
end Fl
namespace Fl
open PySem PySem.Spec L2
open PyProof.Rows hiding St

/-! ### x[y], x[y] = v, whatever x is -/
def vIxD (x y : Val) (S : Store) : Res Val := match dctOf S x with
  | some kvs => match y with
    | .str k => match valD k kvs with
      | some v => .ok v S
      | none => .stuck
    | _ => .stuck
  | none => vIx x y S
theorem eDGet_eq {fo fi : EF} {env : Env} {S S1 S2 : Store} {x y : Val} {kvs} (h1 : fo env S = .ok x S1) (h2 : fi env S1 = .ok y S2) (h3 : dctOf S2 x = some kvs) : eDGet fo fi env S = e2 vIxD fo fi env S := by
  unfold eDGet e2 vIxD
  rw [h1]
  dsimp only [Res.bind]
  rw [h2]
  dsimp only [Res.bind]
  rw [h3]
  cases y <;> rfl
theorem ix_eq {fo fi : EF} {env : Env} {S : Store} (h : ∀ x S1 y S2, fo env S = .ok x S1 → fi env S1 = .ok y S2 → dctOf S2 x = none) : e2 vIxD fo fi env S = e2 vIx fo fi env S := by
  unfold e2
  cases h1 : fo env S with
  | exc c fs S1 => rfl
  | stuck => rfl
  | ok x S1 =>
    dsimp only [Res.bind]
    cases h2 : fi env S1 with
    | exc c fs S2 => rfl
    | stuck => rfl
    | ok y S2 =>
      dsimp only [Res.bind]
      unfold vIxD
      rw [h x S1 y S2 h1 h2]
section
variable {X : Cx} {ad : Ads} {W : WX} {pos pos' apos cpos : Pos} {o i e : Expr} {fo fi fe : EF} {k : Nat}
theorem PE.or' {t u : TE} (h : PE X e t) (h2 : PE X e u) : PE X e (fun σ H Q => t σ H Q ∨ u σ H Q) := ⟨fun p s σ H Q I q => q.elim (h.run p s σ H Q I) (h2.run p s σ H Q I)⟩
theorem g_ixd (hr : Room k X.A) (h : GE X ad W (.Subscript o i pos) (e2 vIx fo fi)) (h' : GE X ad W (.Subscript o i pos) (eDGet fo fi)) : GE X ad W (.Subscript o i pos) (e2 vIxD fo fi) := by
  refine g_of (PE.or' h.run h'.run) fun F ρ env S σ H Q rs q => ?_
  by_cases hd : ∃ x S1 y S2 kvs, fo env S = .ok x S1 ∧ fi env S1 = .ok y S2 ∧ dctOf S2 x = some kvs
  · obtain ⟨x, S1, y, S2, kvs, h1, h2, h3⟩ := hd
    rw [← eDGet_eq h1 h2 h3] at q
    exact .inr ⟨F, ρ, env, S, rs, q⟩
  · rw [ix_eq fun x S1 y S2 h1 h2 => by
      cases h3 : dctOf S2 x with
      | none => rfl
      | some kvs => exact absurd ⟨x, S1, y, S2, kvs, h1, h2, h3⟩ hd] at q
    exact .inl ⟨F, ρ, env, S, rs, q⟩
theorem PS.or' {st : Stmt} {t u : TS} (h : PS X st t) (h2 : PS X st u) : PS X st (fun D σ H => t D σ H ∨ u D σ H) := ⟨fun p s σ H D I q => q.elim (h.run p s σ H D I) (h2.run p s σ H D I)⟩
/-- x[y] = v -/
def sIxPut (fo fi fe : EF) : SF := fun env S => (fe env S).go env fun v S1 => (fo env S1).go env fun x S2 => (fi env S2).go env fun y S3 => match x with
  | .ref j => match S3[j]? with
    | some (true, .dct kvs) => match y with
      | .str k => if kvs.length < sizeLine then .nx env (S3.set j (true, .dct (putD k v kvs))) else .stuck
      | _ => .stuck
    | some (true, .lst xs) => match y with
      | .int k => match ixN xs.length k with
        | some n => .nx env (S3.set j (true, .lst (xs.set n v)))
        | none => .stuck
      | _ => .stuck
    | _ => .stuck
  | _ => .stuck
theorem gs_ixput (h : GS X ad W (.Assign [.Subscript o i pos'] e pos) (sAsg fe (tgIx fo fi))) (h' : GS X ad W (.Assign [.Subscript o i pos'] e pos) (Fl.sDPut fo fi fe)) : GS X ad W (.Assign [.Subscript o i pos'] e pos) (sIxPut fo fi fe) := by
  refine gs_of (PS.or' h.run h'.run) fun F ρ env S σ H D rs q => ?_
  have key : sIxPut fo fi fe env S = sAsg fe (tgIx fo fi) env S ∨ sIxPut fo fi fe env S = Fl.sDPut fo fi fe env S ∨ sIxPut fo fi fe env S = .stuck := by
    unfold sIxPut sAsg Fl.sDPut tgIx
    cases fe env S with
    | stuck => exact .inl rfl
    | exc c fs S1 => exact .inl rfl
    | ok v S1 =>
      dsimp only [Res.go]
      cases fo env S1 with
      | stuck => exact .inl rfl
      | exc c fs S2 => exact .inl rfl
      | ok x S2 =>
        dsimp only [Res.go, Res.bind]
        cases fi env S2 with
        | stuck => exact .inl rfl
        | exc c fs S3 => exact .inl rfl
        | ok y S3 =>
          dsimp only [Res.go, Res.bind]
          cases x <;> try exact .inr (.inr rfl)
          rename_i j
          cases hs : S3[j]? with
          | none => exact .inr (.inr (by simp only [hs]))
          | some p =>
            obtain ⟨b, c⟩ := p
            cases b with
            | false => exact .inr (.inr (by cases c <;> simp only [hs]))
            | true =>
              cases c with
              | ins c fs => exact .inr (.inr (by simp only [hs]))
              | lck kvs => exact .inr (.inr (by simp only [hs]))
              | lst xs =>
                cases y with
                | int k =>
                  cases hk : ixN xs.length k with
                  | none => exact .inr (.inr (by simp only [hs, hk]))
                  | some n => exact .inl (by simp only [hs, hk])
                | _ => exact .inr (.inr (by simp only [hs]))
              | dct kvs =>
                cases y with
                | str k => exact .inr (.inl (by simp only [hs]))
                | _ => exact .inr (.inr (by simp only [hs]))
  rcases key with e | e | e
  · rw [e] at q; exact .inl ⟨F, ρ, env, S, rs, q⟩
  · rw [e] at q; exact .inr ⟨F, ρ, env, S, rs, q⟩
  · rw [e] at q; exact q.elim
end
end Fl
namespace Fl
open PySem PySem.Spec L2
open PyProof.Rows hiding St

/-! ### a dict is locked while it is walked -/
section
variable {K : PySem.W.Frag} {ad : Ads} {F F' : Hp} {ρ ρ' : Rts} {env : Env} {σ : L2.St} {S : Store} {H : Hp}
theorem RS.lockin {i : Nat} {kvs : List (Str × Val)} (r : RS K ad F ρ env S σ H) (hi : S[i]? = some (true, .dct kvs)) : ∃ a ks, ρ.l[i]? = some a ∧ H a = some (.dK ks) ∧ F a = none ∧
    ∀ od, RS K ad (upd F a (.frz od (.dK ks))) ρ env (S.set i (false, .lck kvs)) σ (upd H a (.frz od (.dK ks))) ∧ Le F ρ (upd F a (.frz od (.dK ks))) ρ := by
  obtain ⟨a, o, e1, ⟨ks, e2, rk⟩, e3, _⟩ := r.s.cel _ _ _ hi
  subst e2
  obtain ⟨hH, hF⟩ := e3 rfl
  refine ⟨a, ks, e1, hH, hF, fun od => ?_⟩
  have l : Le F ρ (upd F a (.frz od (.dK ks))) ρ := Le.same (same_upd hF) fun _ _ h => h
  have off : ∀ {j : Nat} {b : Addr}, j ≠ i → ρ.l[j]? = some b → b ≠ a := fun {j b} hj hb z => by
    subst z
    have h1 := List.getElem?_eq_some_iff.mp hb
    have h2 := List.getElem?_eq_some_iff.mp e1
    obtain ⟨l1, q1⟩ := h1
    obtain ⟨l2, q2⟩ := h2
    exact hj ((List.getElem_inj r.s.inj).mp (q1.trans q2.symm))
  have mem : a ∈ ρ.l := List.mem_of_getElem? e1
  refine ⟨⟨⟨fun b u e => ?_, by rw [List.length_set]; exact r.s.len, fun j b c e => ?_, r.s.inj, fun p hp => ?_, r.s.prn⟩, r.e.mono l⟩, l⟩
  · by_cases hb : b = a
    · subst hb; rw [upd_same] at e ⊢; exact e
    · rw [upd_ne hb] at e ⊢; exact r.s.sub b u e
  · by_cases hj : j = i
    · subst hj
      have hl := (List.getElem?_eq_some_iff.mp hi).1
      rw [List.getElem?_set_self hl] at e
      cases e
      exact ⟨a, _, e1, ⟨od, ks, rfl, rk.mono l⟩, fun z => (by cases z), fun _ => ⟨_, upd_same, rfl⟩⟩
    · rw [List.getElem?_set_ne (Ne.symm hj)] at e
      obtain ⟨b', o', f1, f2, f3, f4⟩ := r.s.cel j b c e
      have ne := off hj f1
      exact ⟨b', o', f1, f2.mono l, fun z => by rw [upd_ne ne, upd_ne ne]; exact f3 z, fun z => by rw [upd_ne ne]; exact f4 z⟩
  · obtain ⟨q1, q2, q3⟩ := r.s.prv p hp
    have ne : p.1 ≠ a := fun z => q3 (z ▸ mem)
    exact ⟨by rw [upd_ne ne]; exact q1, by rw [upd_ne ne]; exact q2, q3⟩
section
variable {a : Addr} {od : Obj} {ks : List (Key × V)} (hF : F a = some (.frz od (.dK ks)))
include hF
theorem cut_at {b : Addr} {o : HO} (h : F b = some o) (n : ∀ od ks, o ≠ .frz od (.dK ks)) : del F a b = some o := by
  have ne : b ≠ a := fun z => by
    subst z
    rw [hF] at h
    cases h
    exact n _ _ rfl
  rw [del_ne ne]; exact h
mutual
theorem Rp.less : ∀ {x : Val} {v : V}, Rp K ad F ρ x v → Rp K ad (del F a) ρ x v
  | _, _, .non => .non
  | _, _, .bl b => .bl b
  | _, _, .int i => .int i
  | _, _, .str x => .str x
  | _, _, .tup q r => .tup (by
      rcases q with (q | ⟨o, q⟩) | q
      · exact .inl (.inl (cut_at hF q fun _ _ z => by cases z))
      · exact .inl (.inr ⟨o, cut_at hF q fun _ _ z => by cases z⟩)
      · exact .inr q) (Rps.less r)
  | _, _, .lst q r => .lst (cut_at hF q fun _ _ z => by cases z) (Rps.less r)
  | _, _, .wls q r => .wls (by
      rcases q with (q | ⟨o, q⟩) | q
      · exact .inl (.inl (cut_at hF q fun _ _ z => by cases z))
      · exact .inl (.inr ⟨o, cut_at hF q fun _ _ z => by cases z⟩)
      · exact .inr q) (Rps.less r)
  | _, _, .obj e q r => .obj e (cut_at hF q fun _ _ z => by cases z) (Rpf.less r)
  | _, _, .ref q => .ref q
  | _, _, .glb a => .glb a
  | _, _, .cls e => .cls e
theorem Rps.less : ∀ {x : List Val} {v : List V}, Rps K ad F ρ x v → Rps K ad (del F a) ρ x v
  | _, _, .nil => .nil
  | _, _, .cons a b => .cons (Rp.less a) (Rps.less b)
theorem Rpf.less : ∀ {x : List (Str × Val)} {v : List (Str × V)}, Rpf K ad F ρ x v → Rpf K ad (del F a) ρ x v
  | _, _, .nil => .nil
  | _, _, .cons a b => .cons (Rp.less a) (Rpf.less b)
theorem Rpk.less : ∀ {x : List (Str × Val)} {v : List (Key × V)}, Rpk K ad F ρ x v → Rpk K ad (del F a) ρ x v
  | _, _, .nil => .nil
  | _, _, .cons a b => .cons (Rp.less a) (Rpk.less b)
end
theorem Rc.less : ∀ {c : Cel} {o : HO}, Rc K ad F ρ c o → Rc K ad (del F a) ρ c o
  | .lst _, _, ⟨vs, e, r⟩ => ⟨vs, e, r.less hF⟩
  | .dct _, _, ⟨vs, e, r⟩ => ⟨vs, e, r.less hF⟩
  | .ins _ _, _, ⟨C, dx, vs, e, h, r⟩ => ⟨C, dx, vs, e, h, r.less hF⟩
  | .lck _, _, h => by
    obtain ⟨od, ks, e, r⟩ := h
    exact ⟨od, ks, e, r.less hF⟩
theorem RE.less (r : RE K ad F ρ env σ) : RE K ad (del F a) ρ env σ :=
  ⟨r.len, fun i v e => let ⟨v', h, q⟩ := r.at_ i v e; ⟨v', h, q.less hF⟩, fun i b dx fs e1 e2 => (r.hold i b dx fs e1 e2).imp id fun h => h.imp id fun ⟨vs, h1, h2⟩ => ⟨vs, cut_at hF h1 fun _ _ z => (by cases z), h2.less hF⟩⟩
end
theorem RS.unlock {i : Nat} {kvs : List (Str × Val)} (r : RS K ad F ρ env S σ H) (hi : S[i]? = some (false, .lck kvs)) : ∃ a od ks, ρ.l[i]? = some a ∧ H a = some (.frz od (.dK ks)) ∧ F a = some (.frz od (.dK ks)) ∧
    RS K ad (del F a) ρ env (S.set i (true, .dct kvs)) σ (upd H a (.dK ks)) := by
  obtain ⟨a, o, e1, ⟨od, ks, e2, rk⟩, _, e4⟩ := r.s.cel _ _ _ hi
  subst e2
  obtain ⟨o', hF, e5⟩ := e4 rfl
  cases (show o' = HO.frz od (.dK ks) from e5)
  refine ⟨a, od, ks, e1, r.s.sub _ _ hF, hF, ⟨⟨fun b u e => ?_, by rw [List.length_set]; exact r.s.len, fun j b c e => ?_, r.s.inj, fun p hp => ?_, r.s.prn⟩, r.e.less hF⟩⟩
  · by_cases hb : b = a
    · subst hb; rw [del_same] at e; cases e
    · rw [del_ne hb] at e
      rw [upd_ne hb]; exact r.s.sub b u e
  · by_cases hj : j = i
    · subst hj
      have hl := (List.getElem?_eq_some_iff.mp hi).1
      rw [List.getElem?_set_self hl] at e
      cases e
      exact ⟨a, _, e1, ⟨ks, rfl, rk.less hF⟩, fun _ => ⟨upd_same, del_same⟩, fun z => (by cases z)⟩
    · rw [List.getElem?_set_ne (Ne.symm hj)] at e
      obtain ⟨b', o', f1, f2, f3, f4⟩ := r.s.cel j b c e
      have ne : b' ≠ a := fun z => by
        subst z
        obtain ⟨l1, q1⟩ := List.getElem?_eq_some_iff.mp f1
        obtain ⟨l2, q2⟩ := List.getElem?_eq_some_iff.mp e1
        exact hj ((List.getElem_inj r.s.inj).mp (q1.trans q2.symm))
      exact ⟨b', o', f1, f2.less hF, fun z => by rw [upd_ne ne, del_ne ne]; exact f3 z, fun z => by rw [del_ne ne]; exact f4 z⟩
  · obtain ⟨q1, q2, q3⟩ := r.s.prv p hp
    have ne : p.1 ≠ a := fun z => q3 (z ▸ List.mem_of_getElem? e1)
    exact ⟨by rw [upd_ne ne]; exact q1, by rw [del_ne ne]; exact q2, q3⟩
theorem Le.cut {a : Addr} {o : HO} (hF : F a = none) (l : Le (upd F a o) ρ F' ρ') : Le F ρ (del F' a) ρ' := by
  refine ⟨⟨fun b u e => ?_, l.r⟩, l.z⟩
  have ne : b ≠ a := ne_of_none e hF
  obtain ⟨u', h1, h2⟩ := l.f b u (by rw [upd_ne ne]; exact e)
  exact ⟨u', by rw [del_ne ne]; exact h1, h2⟩
end
/-- f, while the dict that fo is, is locked -/
def lockF (i : Nat) (kvs : List (Str × Val)) (r : Store → Res Val) (S : Store) : Res Val := match r (S.set i (false, .lck kvs)) with
  | .ok v S' => match S'[i]? with
    | some (false, .lck kvs') => .ok v (S'.set i (true, .dct kvs'))
    | _ => .stuck
  | _ => .stuck
def eLk (fo f : EF) : EF := fun env S => match fo env S with
  | .ok (.ref i) _ => match S[i]? with
    | some (true, .dct kvs) => lockF i kvs (f env) S
    | _ => f env S
  | _ => f env S
section
variable {X : Cx} {ad : Ads} {W : WX}
theorem g_lk {e : Expr} {fo f : EF} (h : GE X ad W e f) : GE X ad W e (eLk fo f) := by
  refine g_of (PE.or' (pe_lock h.run) h.run) fun F ρ env S σ H Q rs q => ?_
  unfold eLk at q
  split at q
  · rename_i i S0 e0
    split at q
    · rename_i kvs hs
      obtain ⟨a, ks, e1, hH, hF, lk⟩ := rs.lockin hs
      refine .inl ⟨a, .dK ks, hH, True.intro, fun od => ?_⟩
      obtain ⟨rs1, l1⟩ := lk od
      refine ⟨_, ρ, env, _, rs1, ?_⟩
      unfold lockF at q
      cases hf : f env (S.set i (false, .lck kvs)) with
      | stuck => rw [hf] at q; exact q.elim
      | exc c fs S' => rw [hf] at q; exact q.elim
      | ok v S' =>
        rw [hf] at q
        dsimp only at q
        split at q
        · rename_i kvs' hs'
          intro F' ρ' b H' l rs' rv
          obtain ⟨a', od', ks', g1, g2, g3, rs2⟩ := rs'.unlock hs'
          rw [l.r _ _ e1] at g1; cases g1
          have g4 : F' a = some (.frz od (.dK ks)) := by
            obtain ⟨o', h1, h2⟩ := l.f a _ upd_same
            rw [h1, show o' = _ from h2]
          rw [g4] at g3; cases g3
          exact ⟨g2, q _ ρ' b _ (Le.cut hF l) rs2 (rv.less g4)⟩
        · exact q.elim
    · exact .inr ⟨F, ρ, env, S, rs, q⟩
  · exact .inr ⟨F, ρ, env, S, rs, q⟩
/-- the keys of a locked dict -/
def keysF (S : Store) : Val → Option (List (Str × Val))
  | .ref i => match S[i]? with
    | some (false, .lck kvs) => some kvs
    | _ => none
  | _ => none
def iWalk (f : EF) : AF := fun env S => (f env S).bind fun x S1 => match keysF S1 x with
  | some kvs => .ok (kvs.map fun p => .str p.1) S1
  | none => match itmF S1 x with
    | some xs => .ok xs S1
    | none => .stuck
theorem Rpk.at_ {K : PySem.W.Frag} {ad : Ads} {F : Hp} {ρ : Rts} : ∀ {kvs : List (Str × Val)} {ks : List (Key × V)} {i : Nat} {p : Str × Val}, Rpk K ad F ρ kvs ks → kvs[i]? = some p → ∃ u, ks[i]? = some (.inr p.1, u) ∧ Rp K ad F ρ p.2 u
  | _, _, _, _, .nil, e => by simp at e
  | _, _, 0, _, .cons r _, e => by simp at e; subst e; exact ⟨_, rfl, r⟩
  | _, _, i + 1, _, .cons _ t, e => by
    obtain ⟨u, h1, h2⟩ := Rpk.at_ (i := i) t (by simpa using e)
    exact ⟨u, by simpa using h1, h2⟩
theorem yl_keys {F ρ} {a : Addr} {o : Obj} {kvs : List (Str × Val)} {ks : List (Key × V)} (h : F a = some (.frz o (.dK ks))) (r : Rpk X.K ad F ρ kvs ks) : Yl X.K ad F ρ (kvs.map fun p => .str p.1) (Itk a o ks) := fun F' ρ' env S σ H l rs => by
  obtain ⟨o', h1, h2⟩ := l.f a _ h
  cases (show o' = _ from h2)
  have hH := rs.s.sub _ _ h1
  refine ⟨⟨hH, by rw [List.length_map, r.len]; exact Nat.le_refl _⟩, fun i x e => ?_⟩
  rw [List.getElem?_map] at e
  cases e2 : kvs[i]? with
  | none => rw [e2] at e; cases e
  | some p =>
    rw [e2] at e; cases e
    obtain ⟨u, e3, _⟩ := (r.mono0 l).at_ e2
    refine ⟨⟨hH, (List.getElem?_eq_some_iff.mp e3).1⟩, fun w H2 y => ?_⟩
    obtain ⟨y1, k, v, y2, y3⟩ := y
    subst y1 y3
    rw [e3] at y2; cases y2
    exact ⟨F', ρ', .refl, rs, .str _⟩
theorem gi_walk {tg : Expr} {e : Expr} {f : EF} (h : GE X ad W e f) : GI X ad W tg e (iWalk f) := by
  refine ⟨(PI.or (gi_seq (tg := tg) h).run (pi_keys h.run)).imp fun σ H R ⟨F, ρ, env, S, rs, q⟩ => ?_⟩
  by_cases hk : ∃ x S1 kvs, f env S = .ok x S1 ∧ keysF S1 x = some kvs
  · obtain ⟨x, S1, kvs, h1, h2⟩ := hk
    refine .inr ⟨F, ρ, env, S, rs, ?_⟩
    unfold iWalk at q
    rw [h1] at q ⊢
    simp only [Res.bind, h2] at q
    intro F' ρ' u H' l rs' ru
    cases ru <;> first | (simp only [keysF] at h2; cases h2; done) | skip
    rename_i i a hr
    simp only [keysF] at h2
    split at h2
    · rename_i kvs0 hs
      cases h2
      obtain ⟨a', o, e1, ⟨od, ks, e2, rk⟩, e3, e4⟩ := rs'.s.cel _ _ _ hs
      subst e2
      rw [hr] at e1; cases e1
      obtain ⟨o', g1, g2⟩ := e4 rfl
      cases (show o' = _ from g2)
      exact ⟨a, od, rfl, .inl ⟨ks, rs'.s.sub _ _ g1, q F' ρ' _ H' l rs' (yl_keys g1 rk)⟩⟩
    · cases h2
  · refine .inl ⟨F, ρ, env, S, rs, ?_⟩
    have e : iWalk f env S = iSeq f env S := by
      unfold iWalk iSeq
      cases hf : f env S with
      | stuck => rfl
      | exc c fs S1 => rfl
      | ok x S1 =>
        simp only [Res.bind]
        cases hkk : keysF S1 x with
        | none => rfl
        | some kvs => exact absurd ⟨x, S1, kvs, hf, hkk⟩ hk
    rw [← e]
    exact q
/-- a statement, while the dict that fo is, is locked -/
def lockS (i : Nat) (kvs : List (Str × Val)) (r : Store → ResS) (S : Store) : ResS := match r (S.set i (false, .lck kvs)) with
  | .nx e S' => match S'[i]? with
    | some (false, .lck kvs') => .nx e (S'.set i (true, .dct kvs'))
    | _ => .stuck
  | .ret v S' => match S'[i]? with
    | some (false, .lck kvs') => .ret v (S'.set i (true, .dct kvs'))
    | _ => .stuck
  | _ => .stuck
def sLk (fo : EF) (b : SF) : SF := fun env S => match fo env S with
  | .ok (.ref i) _ => match S[i]? with
    | some (true, .dct kvs) => lockS i kvs (b env) S
    | _ => b env S
  | _ => b env S
theorem RS0.unlock {K : PySem.W.Frag} {F : Hp} {ρ : Rts} {S : Store} {H : Hp} {i : Nat} {kvs : List (Str × Val)} (r : RS0 K ad F ρ S H) (hi : S[i]? = some (false, .lck kvs)) : ∃ a od ks, ρ.l[i]? = some a ∧ H a = some (.frz od (.dK ks)) ∧ F a = some (.frz od (.dK ks)) ∧
    RS0 K ad (del F a) ρ (S.set i (true, .dct kvs)) (upd H a (.dK ks)) := by
  obtain ⟨a, od, ks, h1, h2, h3, h4⟩ := RS.unlock (env := []) (σ := []) ⟨r, ⟨rfl, fun i v e => by simp at e, fun i b dx fs _ e => by simp at e⟩⟩ hi
  exact ⟨a, od, ks, h1, h2, h3, h4.s⟩
theorem gs_lk {st : Stmt} {fo : EF} {b : SF} (h : GS X ad W st b) : GS X ad W st (sLk fo b) := by
  refine gs_of (PS.or' (ps_lock h.run) h.run) fun F ρ env S σ H D rs q => ?_
  unfold sLk at q
  split at q
  · rename_i i S0 e0
    split at q
    · rename_i kvs hs
      obtain ⟨a, ks, e1, hH, hF, lk⟩ := rs.lockin hs
      refine .inl ⟨a, .dK ks, hH, True.intro, fun od => ?_⟩
      obtain ⟨rs1, l1⟩ := lk od
      refine ⟨_, ρ, env, _, rs1, ?_⟩
      have back : ∀ {F' : Hp} {ρ' : Rts} {a' : Addr} {od' : Obj} {ks' : List (Key × V)}, Le (upd F a (.frz od (.dK ks))) ρ F' ρ' → ρ'.l[i]? = some a' → F' a' = some (.frz od' (.dK ks')) → a' = a ∧ od' = od ∧ ks' = ks := fun {F' ρ' a' od' ks'} l g1 g3 => by
        rw [l.r _ _ e1] at g1; cases g1
        obtain ⟨o', h1, h2⟩ := l.f a _ upd_same
        rw [h1, show o' = _ from h2] at g3
        cases g3
        exact ⟨rfl, rfl, rfl⟩
      unfold lockS at q
      cases hf : b env (S.set i (false, .lck kvs)) with
      | stuck => rw [hf] at q; exact q.elim
      | exc c fs e S' => rw [hf] at q; exact q.elim
      | brk e S' => rw [hf] at q; exact q.elim
      | cnt e S' => rw [hf] at q; exact q.elim
      | nx e S' =>
        rw [hf] at q
        dsimp only at q
        split at q
        · rename_i kvs' hs'
          intro F' ρ' σ' H' l rs'
          obtain ⟨a', od', ks', g1, g2, g3, rs2⟩ := rs'.unlock hs'
          obtain ⟨rfl, rfl, rfl⟩ := back l g1 g3
          exact ⟨g2, q _ ρ' σ' _ (Le.cut hF l) rs2⟩
        · exact q.elim
      | ret v S' =>
        rw [hf] at q
        dsimp only at q
        split at q
        · rename_i kvs' hs'
          intro F' ρ' u H' l rs' rv
          obtain ⟨a', od', ks', g1, g2, g3, rs2⟩ := rs'.unlock hs'
          obtain ⟨rfl, rfl, rfl⟩ := back l g1 g3
          exact ⟨g2, q _ ρ' u _ (Le.cut hF l) rs2 (rv.less g3)⟩
        · exact q.elim
    · exact .inr ⟨F, ρ, env, S, rs, q⟩
  · exact .inr ⟨F, ρ, env, S, rs, q⟩
end
end Fl
namespace Fl
open PySem PySem.Spec L2
open PyProof.Rows hiding St

/-! ### the end: where classes stand, by what the top has written -/
def clsAt (K : PySem.W.Frag) (c : Str) : Option Addr := match PySem.W.nsIn K mainGlobals c with
  | some (some (.ref C)) => some C
  | _ => none
def adOf (K : PySem.W.Frag) (cs es : List Str) : Ads := ⟨fun x => match x with
  | .inl c => if cs.any (fun d => decide (d = c)) = true then clsAt K c else none
  | .inr c => if es.any (fun d => decide (d = c)) = true then clsAt K c else none, none⟩
section
variable {K : PySem.W.Frag} {cs es : List Str} {c : Str} {C : Addr}
theorem clsAt_of (h : PySem.W.nsIn K mainGlobals c = some (some (.ref C))) : clsAt K c = some C := by unfold clsAt; rw [h]
theorem adOf_l (h : PySem.W.nsIn K mainGlobals c = some (some (.ref C))) (m : cs.any (fun d => decide (d = c)) = true) : adOf K cs es (.inl c) = some C := by
  show (if _ then _ else _) = _
  rw [if_pos m]; exact clsAt_of h
theorem adOf_r (h : PySem.W.nsIn K mainGlobals c = some (some (.ref C))) (m : es.any (fun d => decide (d = c)) = true) : adOf K cs es (.inr c) = some C := by
  show (if _ then _ else _) = _
  rw [if_pos m]; exact clsAt_of h
/-- what holds of each class that stands -/
inductive Each (K : PySem.W.Frag) (P : Str → Addr → Prop) : List Str → Prop
  | nil : Each K P []
  | cons {c : Str} {C : Addr} {r : List Str} : PySem.W.nsIn K mainGlobals c = some (some (.ref C)) → P c C → Each K P r → Each K P (c :: r)
theorem Each.at {P : Str → Addr → Prop} : ∀ {l : List Str}, Each K P l → l.any (fun d => decide (d = c)) = true → clsAt K c = some C → P c C
  | _, .nil, m, _ => by simp at m
  | _, .cons (c := d) h p r, m, e => by
    rw [List.any_cons, Bool.or_eq_true] at m
    rcases m with m | m
    · have hd : d = c := of_decide_eq_true m
      subst hd
      rw [clsAt_of h] at e
      cases e
      exact p
    · exact Each.at r m e
theorem each_l {P : Str → Addr → Prop} (h : Each K P cs) : ∀ c C, adOf K cs es (.inl c) = some C → P c C := fun c C e => by
  have e' : (if cs.any (fun d => decide (d = c)) = true then clsAt K c else none) = some C := e
  split at e'
  · rename_i m
    exact h.at m e'
  · cases e'
theorem each_r {P : Str → Addr → Prop} (h : Each K P es) : ∀ c C, adOf K cs es (.inr c) = some C → P c C := fun c C e => by
  have e' : (if es.any (fun d => decide (d = c)) = true then clsAt K c else none) = some C := e
  split at e'
  · rename_i m
    exact h.at m e'
  · cases e'
end
end Fl
/-! == and != by an own __eq__ (its class tells no __ne__); list(text). -/
namespace Fl
section
open PySem PySem.W PySem.Calls PyProof.Rows PySem.Spec
variable {prog : Program} {w : World} {A : Around} {E : Value → Shared → Prop} {s : Shared} {K : Frag} {x C f : Addr} {ox : Obj} {od : Option Obj} {b tb : Value}
/-- x.__ne__ is that of object -/
theorem ifBound_ne {M : Model} {Q : Option Value → Shared → Prop} (X : K.In s.heap) (I : InstAt s.heap x ox C od) (hs : findIn K (.ref C) "__ne__" = some (some (.builtin "object.__ne__")))
    (h : wpAny M A (call (.builtin "object.__ne__") [.ref x, b]) (fun v => Q (some v)) E s) : wpAny M A (callSpecialIfBound? (.ref x) "__ne__" [b]) Q E s := by
  simp only [callSpecialIfBound?, bindSpecialIfBound?]
  refine wpAny_holding (wpAny_bind (wpAny_bind (wpAny_bind (I.type.here ((looks_findIn X hs).here ?_)))))
  refine wpAny_bind (wpAny_askSetting (wpAny_ite ?_))
  have fin : wpAny M A (call (.builtin "object.__ne__") ([.ref x] ++ [b]) >>= fun v => pure (some v)) Q E s := wpAny_bind (wpAny_mono h (fun v s' h' => wpAny_pure h') fun _ _ h' => h')
  simp only [PySem.F.cmp_object.ne.bind]
  split
  · exact wpAny_bind (wpAny_pure (wpAny_pure (by exact fin)))
  · exact wpAny_tryCatch (wpAny_bind (wpAny_pure (wpAny_pure (by exact fin))))
theorem ne_entry {Q : Fin → Shared → Prop} (hu : A.units < cLine) (X : K.In s.heap) (I : InstAt s.heap x ox C od) (hs : findIn K (.ref C) "__eq__" = some (some (.ref f))) (hf : isFn K (.ref f) = true)
    (h : wpAny (model prog w) A (call (.ref f) [.ref x, b]) (fun v s' => ∃ r, v = .bool r ∧ Q (.done (.ret (.bool (!r)))) s') E s) :
    wpAny (model prog w) A (Builtin.«object.__ne__» ⟨[.ref x, b], []⟩) Q E s := by
  obtain ⟨hp, g, d, t, os⟩ := s
  unfold Builtin.«object.__ne__»
  repeat (first
    | with_reducible refine wpAny_cRoomFor hu ?_
    | (refine wpAny_bind (m := callSpecialIfBound? (.ref x) (Str.ofString "__eq__") [b])
        (ifBound_K X I hs hf (wpAny_mono h (fun r s' hr => by
          obtain ⟨b, rfl, hq⟩ := hr
          repeat (first | exact hq | exact wpAny_pure hq | exact wpAny_truthy_bool hq | (refine wpAny_bind (m := truthy (.bool _)) (wpAny_truthy_bool ?_)) | wp_step)) fun _ _ e => e)))
    | wp_step)
theorem ne_K {Q : Value → Shared → Prop} (hu : A.units + 1 < cLine) (X : K.In s.heap) (I : InstAt s.heap x ox C od) (hm : makesIn K C = true) (hb : Looks (model prog w) s.heap (typeOf b) (.ref C))
    (hn : findIn K (.ref C) "__ne__" = some (some (.builtin "object.__ne__"))) (hs : findIn K (.ref C) "__eq__" = some (some (.ref f))) (hf : isFn K (.ref f) = true)
    (h : wpAny (model prog w) A.in1 (call (.ref f) [.ref x, b]) (fun v s' => ∃ r, v = .bool r ∧ Q (.bool (!r)) s') E s) : wpAny (model prog w) A (richCompare .NotEq (.ref x) b) Q E s := by
  have one : wpAny (model prog w) A (tryCompare (.ref x) "__ne__" b) (fun r s' => ∃ v, r = some v ∧ Q v s') E s := by
    unfold tryCompare
    refine wpAny_bind (ifBound_ne X I hn ?_)
    have t2 : Looks (model prog w) s.heap (isInstance (.ref x) (.type "object")) true := I.type.andThen (makes_of X hm).top
    refine wpAny_call (codeAny_call_builtin PySem.F.cmp_object.ne.plain PySem.F.cmpEntry_ne (PySem.W.check_slot PySem.F.cmpKind_ne PySem.F.cmpSplit_ne t2 (PySem.F.cmpArgs_ne _ _) ?_))
    refine ne_entry (A := A.in1) hu X I hs hf (wpAny_mono h (fun v s' hv => ?_) fun _ _ e => e)
    obtain ⟨r, rfl, hq⟩ := hv
    first | exact ⟨r, rfl, wpAny_pure ⟨_, rfl, hq⟩⟩ | exact ⟨r, rfl, wpAny_pure (wpAny_pure ⟨_, rfl, hq⟩)⟩
  unfold richCompare
  simp only [oneThing_ref]
  refine wpAny_holding (wpAny_bind (wpAny_cRoomFor (Nat.lt_of_succ_lt hu) ?_))
  refine wpAny_bind (I.type.here (wpAny_bind (hb.here ?_)))
  rw [show (Value.ref C != Value.ref C) = false from by simp]
  simp only [Bool.false_eq_true, if_false]
  refine wpAny_bind (wpAny_pure ?_)
  simp only [Bool.false_eq_true, if_false]
  refine wpAny_bind (wpAny_mono one (fun r s' z => ?_) fun _ _ e => e)
  obtain ⟨v, rfl, hq⟩ := z
  exact wpAny_pure hq
end
section
open PySem PySem.Spec L2
open PyProof.Rows hiding St
/-- a class with an own __eq__ that does what f does -/
structure EqAt (P : Program) (w : World) (K : PySem.W.Frag) (mg : Str → Option Value) (base : Heap) (ad : Ads) (k : Nat) (c : Str) (f : BF) : Prop where
  ex : ∃ C fa fd ps, ad (.inl c) = some C ∧ Cls K C ∧ Meth K C "__eq__" fa ∧ FnOk P w K mg base (L2.CX P w) k fa fd ps (spOf K ad 2 f) ∧ Binds K fd ps [] ∧
    PySem.W.findIn K (.ref C) "__ne__" = some (some (.builtin "object.__ne__")) ∧ PySem.W.makesIn K C = true
def rOwnEq (C : Addr) (sp : Sp) : R2 := fun x y H Q => ∃ a dx fs b dy gs, x = .ref a ∧ y = .ref b ∧ H a = some (.ins C dx fs) ∧ H b = some (.ins C dy gs) ∧ sp [x, y] H (fun v H' => ∃ r, v = .bl r ∧ Q v H') fun _ _ _ => False
def rOwnNe (C : Addr) (sp : Sp) : R2 := fun x y H Q => ∃ a dx fs b dy gs, x = .ref a ∧ y = .ref b ∧ H a = some (.ins C dx fs) ∧ H b = some (.ins C dy gs) ∧ sp [x, y] H (fun v H' => ∃ r, v = .bl r ∧ Q (.bl (!r)) H') fun _ _ _ => False
section
variable {X : Cx} {k : Nat} {C fa : Addr} {fd : FuncData} {ps : List Str} {sp : Sp}
theorem run_cmp {A : Around} {pins : List (Addr × Obj)} {σ : L2.St} {H : Hp} {s : Shared} {Q : VK} {us : List Value} {vs : List V} (F : FnOk X.prog X.w X.K X.mg X.base (L2.CX X.prog X.w) k fa fd ps sp) (hr : Room k A) (e0 : Env0 X.prog X.w X.K X.mg X.base A X.stack s H)
    (hb : Binds X.K fd ps []) (I : Inv X pins σ H s) (r : Vals vs us) (h : sp vs H Q fun _ _ _ => False) : wpAny (model X.prog X.w) A (call (.ref fa) us) (EP X pins σ Q) X.xe s := by
  have hl : us.length = ps.length := by rw [← r.length]; exact F.len _ _ _ _ h
  refine wpAny_call (codeAny_mono (F.run A X.stack s H ⟨us, []⟩ us vs Q _ hr e0 (by
    have := hb s us I.kIn (by simpa using hl)
    simpa using this) r h) fun r s' hq => ?_)
  cases r with
  | error e => obtain ⟨_, _, _, _, _, _, _, _, _, _, _, _, hE⟩ := hq; exact hE.elim
  | ok fl =>
    cases fl with
    | ret u => exact I.after hq
    | next => exact False.elim hq
    | brk => exact False.elim hq
    | cont => exact False.elim hq
theorem op_ownEq (hm : Meth X.K C "__eq__" fa) (F : FnOk X.prog X.w X.K X.mg X.base (L2.CX X.prog X.w) k fa fd ps sp) (hr : Room k X.A) (hb : Binds X.K fd ps []) : OpR X (compareOp .Eq) (rOwnEq C sp) := by
  intro pins s σ H x y v u Q I rx ry h
  obtain ⟨a, dx, fs, b, dy, gs, rfl, rfl, ha, hb', q⟩ := h
  cases (show v = Value.ref a from rx)
  cases (show u = Value.ref b from ry)
  obtain ⟨mA, J, _⟩ := ins_get I.hok ha
  obtain ⟨mB, J', _⟩ := ins_get I.hok hb'
  obtain ⟨od, J, _⟩ := J.look
  obtain ⟨od', J', _⟩ := J'.look
  obtain ⟨m, hF⟩ := I.fr
  show wpAny (model X.prog X.w) X.A (richCompare .Eq (.ref a) (.ref b)) _ _ _
  refine PySem.W.cmp_K (op := .Eq) (tb := .ref C) hr.units0 hF I.ok.mod.kin J J'.type (by simp [PySem.W.notFirst]) hm.at_ hm.fn ?_
  refine wpAny_mono (run_cmp (us := [.ref a, .ref b]) (vs := [.ref a, .ref b]) F hr I.env0 hb I (.cons rfl (.cons rfl .nil)) q) (fun w s' z => ?_) fun _ _ x => x
  obtain ⟨z', H', I', rz, r, e, qz⟩ := z
  subst e
  cases (show w = Value.bool r from rz)
  exact ⟨.bl r, H', I', rfl, qz⟩
theorem op_ownNe (hm : Meth X.K C "__eq__" fa) (hne : PySem.W.findIn X.K (.ref C) "__ne__" = some (some (.builtin "object.__ne__"))) (hmk : PySem.W.makesIn X.K C = true) (F : FnOk X.prog X.w X.K X.mg X.base (L2.CX X.prog X.w) k fa fd ps sp) (hr : Room (k + 1) X.A) (hb : Binds X.K fd ps []) : OpR X (compareOp .NotEq) (rOwnNe C sp) := by
  intro pins s σ H x y v u Q I rx ry h
  obtain ⟨a, dx, fs, b, dy, gs, rfl, rfl, ha, hb', q⟩ := h
  cases (show v = Value.ref a from rx)
  cases (show u = Value.ref b from ry)
  obtain ⟨mA, J, _⟩ := ins_get I.hok ha
  obtain ⟨mB, J', _⟩ := ins_get I.hok hb'
  obtain ⟨od, J, _⟩ := J.look
  obtain ⟨od', J', _⟩ := J'.look
  show wpAny (model X.prog X.w) X.A (richCompare .NotEq (.ref a) (.ref b)) _ _ _
  refine ne_K hr.in1.units0 I.kIn J hmk J'.type hne hm.at_ hm.fn ?_
  refine wpAny_mono (run_cmp (us := [.ref a, .ref b]) (vs := [.ref a, .ref b]) F hr.in1 I.env0.in1 hb I (.cons rfl (.cons rfl .nil)) q) (fun w s' z => ?_) fun _ _ x => x
  obtain ⟨z', H', I', rz, r, e, qz⟩ := z
  subst e
  cases (show w = Value.bool r from rz)
  exact ⟨r, rfl, .bl (!r), H', I', rfl, qz⟩
end
/-- x is of the class c -/
def isOf (c : Str) (x : Val) (_ : Val) (S : Store) : Bool := match insOf S x with
  | some (c', _) => c' == c
  | none => false
def vOwnEq (neg : Bool) (c : Str) (f : BF) (x y : Val) (S : Store) : Res Val := if isOf c x y S && isOf c y x S then (match f [x, y] S with
  | .ok (.bl b) S1 => .ok (.bl (neg != b)) S1
  | _ => .stuck) else .stuck
theorem isOf_ins {K : PySem.W.Frag} {ad : Ads} {F : Hp} {ρ : Rts} {S : Store} {H : Hp} {c : Str} {C : Addr} {x y : Val} {u : V} (hC : ad (.inl c) = some C) (r : RS0 K ad F ρ S H) (rx : Rp K ad F ρ x u) (h : isOf c x y S = true) : ∃ a dx fs, u = .ref a ∧ H a = some (.ins C dx fs) := by
  unfold isOf at h
  split at h
  · rename_i c' fs e
    obtain ⟨a, C', dx, vs, e1, h1, h2, _⟩ := r.ins rx e
    rw [beq_iff_eq] at h
    subst h
    rw [hC] at h1; cases h1
    exact ⟨a, dx, vs, e1, h2⟩
  · cases h
section
variable {K : PySem.W.Frag} {ad : Ads} {c : Str} {C : Addr} {f : BF}
theorem s_ownEq (hC : ad (.inl c) = some C) : OpS K ad (rOwnEq C (spOf K ad 2 f)) (vOwnEq false c f) := by
  intro W F ρ env S σ H x y u v Q rs rx ry q
  unfold vOwnEq at q
  split at q
  · rename_i h
    obtain ⟨h1, h2⟩ := Bool.and_eq_true_iff.mp h
    obtain ⟨a, dx, fs, e1, k1⟩ := isOf_ins hC rs.s rx h1
    obtain ⟨b, dy, gs, e2, k2⟩ := isOf_ins hC rs.s ry h2
    refine ⟨a, dx, fs, b, dy, gs, e1, e2, k1, k2, F, ρ, S, [x, y], rfl, rs.s, .cons rx (.cons ry .nil), ?_⟩
    split at q
    · rename_i r S1 e
      rw [e]
      intro F' ρ' b' H' l rs' rb
      cases rb
      exact ⟨r, rfl, by simpa using q F' ρ' _ H' l ⟨rs', rs.e.mono l⟩ (.bl _)⟩
    · exact q.elim
  · exact q.elim
theorem s_ownNe (hC : ad (.inl c) = some C) : OpS K ad (rOwnNe C (spOf K ad 2 f)) (vOwnEq true c f) := by
  intro W F ρ env S σ H x y u v Q rs rx ry q
  unfold vOwnEq at q
  split at q
  · rename_i h
    obtain ⟨h1, h2⟩ := Bool.and_eq_true_iff.mp h
    obtain ⟨a, dx, fs, e1, k1⟩ := isOf_ins hC rs.s rx h1
    obtain ⟨b, dy, gs, e2, k2⟩ := isOf_ins hC rs.s ry h2
    refine ⟨a, dx, fs, b, dy, gs, e1, e2, k1, k2, F, ρ, S, [x, y], rfl, rs.s, .cons rx (.cons ry .nil), ?_⟩
    split at q
    · rename_i r S1 e
      rw [e]
      intro F' ρ' b' H' l rs' rb
      cases rb
      exact ⟨r, rfl, by simpa using q F' ρ' _ H' l ⟨rs', rs.e.mono l⟩ (.bl _)⟩
    · exact q.elim
  · exact q.elim
end
/-- == and != of data, or of instances of the class c -/
def vEqO (c : Str) (f : BF) : Val → Val → Store → Res Val := fun x y S => if isOf c x y S then vOwnEq false c f x y S else vEq x y S
def vNeO (c : Str) (f : BF) : Val → Val → Store → Res Val := fun x y S => if isOf c x y S then vOwnEq true c f x y S else vNe x y S
section
variable {X : Cx} {ad : Ads} {W : WX} {pos : Pos} {a b : Expr} {fa fb : EF} {k n : Nat} {c : Str} {f : BF}
theorem g_eqO (D : EqAt X.prog X.w X.K X.mg X.base ad k c f) (hk : Room k X.A) (hr : Room n X.A) (ha : GE X ad W a fa) (hb : GE X ad W b fb) : GE X ad W (.Compare a [.Eq] [b] pos) (e2 (vEqO c f) fa fb) :=
  let ⟨_, _, _, _, hC, _, hm, hF, hbi, _, _⟩ := D.ex
  g_cmp ((op_ownEq hm hF hk hbi).or (op_eqD hr.units)) ((s_ownEq hC).or (c := isOf c) s_eq) (nomark _) ha hb
theorem g_neO (D : EqAt X.prog X.w X.K X.mg X.base ad k c f) (hk : Room (k + 1) X.A) (hr : Room n X.A) (ha : GE X ad W a fa) (hb : GE X ad W b fb) : GE X ad W (.Compare a [.NotEq] [b] pos) (e2 (vNeO c f) fa fb) :=
  let ⟨_, _, _, _, hC, _, hm, hF, hbi, hne, hmk⟩ := D.ex
  g_cmp ((op_ownNe hm hne hmk hF hk hbi).or (op_neD hr.units)) ((s_ownNe hC).or (c := isOf c) s_ne) (nomark _) ha hb
theorem t_eqO (D : EqAt X.prog X.w X.K X.mg X.base ad k c f) (hk : Room k X.A) (hr : Room n X.A) (ha : GE X ad W a fa) (hb : GE X ad W b fb) : GT X ad W (.Compare a [.Eq] [b] pos) (eBool (e2 (vEqO c f) fa fb)) :=
  let ⟨_, _, _, _, hC, _, hm, hF, hbi, _, _⟩ := D.ex
  gt_cmp ((op_ownEq hm hF hk hbi).or (op_eqD hr.units)) ((s_ownEq hC).or (c := isOf c) s_eq) (nomark _) ha hb
theorem t_neO (D : EqAt X.prog X.w X.K X.mg X.base ad k c f) (hk : Room (k + 1) X.A) (hr : Room n X.A) (ha : GE X ad W a fa) (hb : GE X ad W b fb) : GT X ad W (.Compare a [.NotEq] [b] pos) (eBool (e2 (vNeO c f) fa fb)) :=
  let ⟨_, _, _, _, hC, _, hm, hF, hbi, hne, hmk⟩ := D.ex
  gt_cmp ((op_ownNe hm hne hmk hF hk hbi).or (op_neD hr.units)) ((s_ownNe hC).or (c := isOf c) s_ne) (nomark _) ha hb
end

/-! ### list(text) -/
def sgV (z : Str) : List V := z.cps.toList.map fun c => V.str ⟨#[c]⟩
theorem call_list_text {X : Cx} (hc : X.calm = true) : CallR X (.type "list") (fun xs H Q => ∃ z, xs = [.str z] ∧ z.length ≤ sizeLine ∧ ∀ l, H l = none → Q (.ref l) (upd H l (.lst (sgV z)))) := by
  intro pins s σ H xs us Q I r h
  obtain ⟨z, rfl, hz, q⟩ := h
  obtain ⟨u, rfl, t, rfl⟩ := vals1 r
  refine call_list_str (I.ok.hd hc) z t (fun h' tk acc' c' hk e hi => ?_) hz
  refine ⟨.ref s.heap.objs.size, upd H s.heap.objs.size (.lst (sgV z)), I.laid hk (Nat.le_refl _) (show ObjOk X.prog X.w _ _ _ (.lst (sgV z)) from ⟨?_, acc'.toList, c', ?_, ?_⟩), rfl, q _ (I.hok.fresh (Nat.le_refl _))⟩
  · show (sgV z).length ≤ sizeLine
    unfold sgV
    rw [List.length_map]
    exact hz
  · refine vals_of_at (by unfold sgV; rw [List.length_map, Array.length_toList]; show z.cps.size = _; rw [← hi.1]; simp) fun j x y h1 h2 => ?_
    obtain ⟨c, u', hcc, e'⟩ := hi.2 j y (by simpa using h2)
    unfold sgV at h1
    rw [List.getElem?_map] at h1
    have : z.cps.toList[j]? = some c := by simpa using hcc
    rw [this] at h1
    cases h1
    exact ⟨_, e'⟩
  · rw [Array.toArray_toList]; exact e
def bLstA (c : Bool) : BF := fun xs S => match xs with
  | [.str z] => if z.length ≤ sizeLine then mkL c (z.cps.toList.map strV) S else .stuck
  | _ => bLst c xs S
section
variable {K : PySem.W.Frag} {ad : Ads}
theorem rps_sg {F : Hp} {ρ : Rts} (z : Str) : Rps K ad F ρ (z.cps.toList.map strV) (sgV z) := by
  unfold sgV
  induction z.cps.toList with
  | nil => exact .nil
  | cons c t ih => exact .cons (.str _) ih
theorem s_lstA {c : Bool} : CallS K ad (fun xs H Q => (∃ z, xs = [.str z] ∧ z.length ≤ sizeLine ∧ ∀ l, H l = none → Q (.ref l) (upd H l (.lst (sgV z)))) ∨
    ∃ p ys, xs = [.ref p] ∧ (SqL K H p ys ∨ SqT K H p ys) ∧ ∀ l, H l = none → Q (.ref l) (upd H l (.lst ys))) (bLstA c) := by
  intro W F ρ env S σ H xs us Q rs rx q
  unfold bLstA at q
  split at q
  · rename_i z
    split at q
    · rename_i hz
      cases rx with
      | cons r1 r2 =>
        cases r2
        cases r1
        exact .inl ⟨z, rfl, hz, q.lst rs (rps_sg z)⟩
    · exact q.elim
  · exact .inr (s_lst W F ρ env S σ H xs us Q rs rx q)
end
theorem call_lstA {X : Cx} (hc : X.calm = true) : CallR X (.type "list") (fun xs H Q => (∃ z, xs = [.str z] ∧ z.length ≤ sizeLine ∧ ∀ l, H l = none → Q (.ref l) (upd H l (.lst (sgV z)))) ∨
    ∃ p ys, xs = [.ref p] ∧ (SqL X.K H p ys ∨ SqT X.K H p ys) ∧ ∀ l, H l = none → Q (.ref l) (upd H l (.lst ys))) := CallR.or (call_list_text hc) call_list_of

/-! ### str(x) by an own __str__ -/
def rStrOwn (C : Addr) (sp : Sp) : List V → Hp → VK → Prop := fun xs H Q => ∃ a dx fs, xs = [.ref a] ∧ H a = some (.ins C dx fs) ∧ sp [.ref a] H (fun v H' => ∃ y, v = .str y ∧ Q v H') fun _ _ _ => False
theorem call_strOwn {X : Cx} {k : Nat} {C fa : Addr} {fd : FuncData} {ps : List Str} {sp : Sp} (hm : Meth X.K C "__str__" fa) (F : FnOk X.prog X.w X.K X.mg X.base (L2.CX X.prog X.w) k fa fd ps sp) (hr : Room (k + 2) X.A) (hb : Binds X.K fd ps []) : CallR X (.type "str") (rStrOwn C sp) := by
  intro pins s σ H xs us Q I r h
  obtain ⟨a, dx, fs, rfl, ha, q⟩ := h
  obtain ⟨u, rfl, ru⟩ := r.one
  cases (show u = Value.ref a from ru)
  obtain ⟨mA, J, _⟩ := ins_get I.hok ha
  obtain ⟨od, J, _⟩ := J.look
  have hr2 : Room k X.A.in1.in1 := (show Room (k + 1) X.A.in1 from Room.in1 hr).in1
  refine PySem.W.kso_call hr2.units0 I.kIn J hm.at_ hm.fn (wpAny_mono (run_cmp (us := [.ref a]) (vs := [.ref a]) F hr2 I.env0.in1.in1 hb I (.cons rfl .nil) q) (fun w s' z => ?_) fun _ _ x => x)
  obtain ⟨z', H', I', rz, y, e, qz⟩ := z
  subst e
  obtain ⟨t, e⟩ := (show ∃ t, w = Value.str y t from rz)
  cases e
  exact ⟨.str y, H', I', ⟨t, rfl⟩, qz⟩
structure StrAt (P : Program) (w : World) (K : PySem.W.Frag) (mg : Str → Option Value) (base : Heap) (ad : Ads) (k : Nat) (c : Str) (f : BF) : Prop where
  ex : ∃ C fa fd ps, ad (.inl c) = some C ∧ Cls K C ∧ Meth K C "__str__" fa ∧ FnOk P w K mg base (L2.CX P w) k fa fd ps (spOf K ad 1 f) ∧ Binds K fd ps []
def bStrO (c : Str) (f : BF) (o : BF) : BF := fun xs S => match xs with
  | [x] => if isOf c x x S then (match f [x] S with
    | .ok (.str y) S1 => .ok (.str y) S1
    | _ => .stuck) else o xs S
  | _ => .stuck
theorem s_strO {K : PySem.W.Frag} {ad : Ads} {c : Str} {C : Addr} {f o : BF} {r : List V → Hp → VK → Prop} (hC : ad (.inl c) = some C) (ho : CallS K ad r o) : CallS K ad (fun xs H Q => rStrOwn C (spOf K ad 1 f) xs H Q ∨ r xs H Q) (bStrO c f o) := by
  intro W F ρ env S σ H xs us Q rs rx q
  unfold bStrO at q
  split at q
  · rename_i x
    split at q
    · rename_i h
      cases rx with
      | cons r1 r2 =>
        cases r2
        obtain ⟨a, dx, fs, e1, k1⟩ := isOf_ins hC rs.s r1 h
        subst e1
        refine .inl ⟨a, dx, fs, rfl, k1, F, ρ, S, [x], rfl, rs.s, .cons r1 .nil, ?_⟩
        split at q
        · rename_i y S1 e
          rw [e]
          intro F' ρ' b' H' l rs' rb
          cases rb
          exact ⟨y, rfl, q F' ρ' _ H' l ⟨rs', rs.e.mono l⟩ (.str _)⟩
        · exact q.elim
    · exact .inr (ho W F ρ env S σ H _ us Q rs rx q)
  · exact q.elim
theorem c_strO {X : Cx} {k : Nat} {C fa : Addr} {fd : FuncData} {ps : List Str} {sp : Sp} {r : List V → Hp → VK → Prop} (hm : Meth X.K C "__str__" fa) (F : FnOk X.prog X.w X.K X.mg X.base (L2.CX X.prog X.w) k fa fd ps sp) (hr : Room (k + 2) X.A) (hb : Binds X.K fd ps [])
    (ho : CallR X (.type "str") r) : CallR X (.type "str") (fun xs H Q => rStrOwn C sp xs H Q ∨ r xs H Q) := CallR.or (call_strOwn hm F hr hb) ho
theorem g_strO {X : Cx} {ad : Ads} {W : WX} {pos p : Pos} {x : Str} {e : Expr} {a : AF} {k : Nat} {c : Str} {f : BF} (D : StrAt X.prog X.w X.K X.mg X.base ad k c f) (hr : Room (k + 2) X.A) (hg : Gl X x) (hm : X.mg x = none) (hv : bootBuiltins x = some (.type "str")) (ha : GA X ad W [e] a)
    (hd : (x == ("__debug__" : Str)) = false := by decide) (hn : x ≠ "__name__" := by decide) (hst : starEach [e] X.env = (false, eval e X.env) :: starEach [] X.env := by rfl) (hpl : (backTo pos (starEach [] X.env)).any (·.1) = false := by rfl) :
    GE X ad W (.Call (.Name x p) [e] [] pos) (eCall (bStrO c f bStr) a) :=
  let ⟨_, _, _, _, hC, _, hme, hF, hbi⟩ := D.ex
  g_callT (c_strO hme hF hr hbi c_str) (s_strO hC s_str) hg hm hv ha hd hn hst hpl

/-! ### len of a dict too -/
def dctL (S : Store) : Val → Option (List (Str × Val))
  | .ref i => match S[i]? with
    | some (_, .dct kvs) => some kvs
    | _ => none
  | _ => none
def bLenA : BF := fun xs S => match xs with
  | [x] => match dctL S x with
    | some kvs => .ok (.int kvs.length) S
    | none => bLen [x] S
  | _ => .stuck
theorem rpk_len {K : PySem.W.Frag} {ad : Ads} {F : Hp} {ρ : Rts} : ∀ {kvs : List (Str × Val)} {ks : List (Key × V)}, Rpk K ad F ρ kvs ks → kvs.length = ks.length
  | _, _, .nil => rfl
  | _, _, .cons _ r => by rw [List.length_cons, List.length_cons, rpk_len r]
theorem s_lenA {K : PySem.W.Frag} {ad : Ads} : CallS K ad (fun xs H Q => (∃ a kvs, xs = [V.ref a] ∧ H a = some (.dK kvs) ∧ Q (.int kvs.length) H) ∨ ∃ x n, xs = [x] ∧ LenV K x H n ∧ Q (.int n) H) bLenA := by
  intro W F ρ env S σ H xs us Q rs rx q
  unfold bLenA at q
  split at q
  · rename_i x
    cases e : dctL S x with
    | none => simp only [e] at q; exact .inr (s_len W F ρ env S σ H _ us Q rs rx q)
    | some kvs =>
      simp only [e] at q
      cases rx with
      | cons r1 r2 =>
        cases r2
        cases x <;> simp only [dctL] at e <;> try cases e
        rename_i i
        split at e
        · rename_i hs
          cases e
          cases r1 with
          | ref h1 =>
            obtain ⟨a, o, o', e1, ⟨ks, e3, e4⟩, e2, e5⟩ := rs.s.rd hs
            rw [h1] at e1; cases e1
            subst e3
            rw [show o' = HO.dK ks from e5] at e2
            refine .inl ⟨_, ks, rfl, e2, ?_⟩
            rw [← rpk_len e4]
            exact q.pure rs (.int _)
        · cases e
  · exact q.elim
theorem call_lenA {X : Cx} : CallR X (.builtin "len") (fun xs H Q => (∃ a kvs, xs = [V.ref a] ∧ H a = some (.dK kvs) ∧ Q (.int kvs.length) H) ∨ ∃ x n, xs = [x] ∧ LenV X.K x H n ∧ Q (.int n) H) := CallR.or call_lenD call_len
end
end Fl
/-! in, not in: data of any depth. -/
namespace Fl
open PySem PySem.Spec L2
open PyProof.Rows hiding St
def rInT (K : PySem.W.Frag) (neg : Bool) : R2 := fun x y H Q => ∃ d ds, Dp K H x d ∧ Dp K H y (.tuple ds) ∧ SeqAt.shaped d = true ∧ SeqAt.shaped (.tuple ds) = true ∧ Q (.bl (if neg then !(ds.any fun z => PyData.eqv z d) else ds.any fun z => PyData.eqv z d)) H
theorem room_in_shapedT {u : Nat} {ds : List PyData} {d : PyData} (h : SeqAt.shaped d = true) (hu : u + 65 < cLine) : u + 1 + min (PyData.depthAll ds) d.depth < cLine := by
  have h1 := SeqAt.depth_of_shaped h
  have h2 : min (PyData.depthAll ds) d.depth ≤ d.depth := Nat.min_le_right _ _
  omega
section
variable {X : Cx}
theorem op_inT (hu : X.A.units + 65 < cLine) : OpR X (compareOp .In) (rInT X.K false) := by
  intro pins s σ H x y v u Q I rx ry h
  obtain ⟨d, ds, hd, he, sd, se, q⟩ := h
  obtain ⟨as, r1⟩ := Dp.reads I d x v hd rx
  obtain ⟨bs, r2⟩ := Dp.reads I (.tuple ds) y u he ry
  exact SeqAt.in_tuple_reads r2 r1 (SeqAt.canLay_of_shaped se) (SeqAt.canLay_of_shaped sd) (room_in_shapedT sd hu) ⟨.bl _, H, I, rfl, q⟩
theorem op_notInT (hu : X.A.units + 65 < cLine) : OpR X (compareOp .NotIn) (rInT X.K true) := by
  intro pins s σ H x y v u Q I rx ry h
  obtain ⟨d, ds, hd, he, sd, se, q⟩ := h
  obtain ⟨as, r1⟩ := Dp.reads I d x v hd rx
  obtain ⟨bs, r2⟩ := Dp.reads I (.tuple ds) y u he ry
  exact SeqAt.notIn_tuple_reads r2 r1 (SeqAt.canLay_of_shaped se) (SeqAt.canLay_of_shaped sd) (room_in_shapedT sd hu) ⟨.bl _, H, I, rfl, q⟩
end
def inD (neg : Bool) (d : PyData) (ds : List PyData) : Bool := if neg then !(ds.any fun z => PyData.eqv z d) else ds.any fun z => PyData.eqv z d
def vInA (neg : Bool) (x y : Val) (S : Store) : Res Val := match vIn neg x y S with
  | .ok v S1 => .ok v S1
  | .exc c fs S1 => .exc c fs S1
  | .stuck => match toDS S x, toDS S y with
    | some d, some (.list ds) => if SeqAt.shaped d && SeqAt.shaped (.list ds) then .ok (.bl (inD neg d ds)) S else .stuck
    | some d, some (.tuple ds) => if SeqAt.shaped d && SeqAt.shaped (.tuple ds) then .ok (.bl (inD neg d ds)) S else .stuck
    | _, _ => .stuck
abbrev rInDN (K : PySem.W.Frag) (neg : Bool) : R2 := fun x y H Q => ∃ d ds, Dp K H x d ∧ Dp K H y (.list ds) ∧ SeqAt.shaped d = true ∧ SeqAt.shaped (.list ds) = true ∧ Q (.bl (inD neg d ds)) H
theorem s_inA {K : PySem.W.Frag} {ad : Ads} {neg : Bool} : OpS K ad (orR (rInAll K neg) (orR (rInDN K neg) (rInT K neg))) (vInA neg) := by
  intro W F ρ env S σ H x y u v Q rs rx ry q
  unfold vInA at q
  cases e : vIn neg x y S with
  | ok w S1 => rw [e] at q; exact .inl (s_in W F ρ env S σ H x y u v Q rs rx ry (by rw [e]; exact q))
  | exc c fs S1 => rw [e] at q; exact .inl (s_in W F ρ env S σ H x y u v Q rs rx ry (by rw [e]; exact q))
  | stuck =>
    rw [e] at q
    dsimp only at q
    split at q
    · rename_i d ds h1 h2
      split at q
      · rename_i hs
        obtain ⟨s1, s2⟩ := Bool.and_eq_true_iff.mp hs
        exact .inr (.inl ⟨d, ds, rs.s.dp rx h1, rs.s.dp ry h2, s1, s2, q.pure rs (.bl _)⟩)
      · exact q.elim
    · rename_i d ds h1 h2
      split at q
      · rename_i hs
        obtain ⟨s1, s2⟩ := Bool.and_eq_true_iff.mp hs
        exact .inr (.inr ⟨d, ds, rs.s.dp rx h1, rs.s.dp ry h2, s1, s2, q.pure rs (.bl _)⟩)
      · exact q.elim
    · exact q.elim
section
variable {X : Cx} {ad : Ads} {W : WX} {pos : Pos} {a b : Expr} {fa fb : EF} {k : Nat}
theorem o_inA (hu : X.A.units + 65 < cLine) : OpR X (compareOp .In) (orR (rInAll X.K false) (orR (rInDN X.K false) (rInT X.K false))) := OpR.or o_in (OpR.or (op_inD hu) (op_inT hu))
theorem o_notInA (hu : X.A.units + 65 < cLine) : OpR X (compareOp .NotIn) (orR (rInAll X.K true) (orR (rInDN X.K true) (rInT X.K true))) := OpR.or o_notIn (OpR.or (op_notInD hu) (op_notInT hu))
theorem g_inA (hr : Room (k + 1) X.A) (ha : GE X ad W a fa) (hb : GE X ad W b fb) (hm : behindInMarks .In b = false := by rfl) : GE X ad W (.Compare a [.In] [b] pos) (e2 (vInA false) fa fb) := g_cmp (o_inA hr.in1.units) s_inA hm ha hb
theorem g_notInA (hr : Room (k + 1) X.A) (ha : GE X ad W a fa) (hb : GE X ad W b fb) (hm : behindInMarks .NotIn b = false := by rfl) : GE X ad W (.Compare a [.NotIn] [b] pos) (e2 (vInA true) fa fb) := g_cmp (o_notInA hr.in1.units) s_inA hm ha hb
theorem t_inA (hr : Room (k + 1) X.A) (ha : GE X ad W a fa) (hb : GE X ad W b fb) (hm : behindInMarks .In b = false := by rfl) : GT X ad W (.Compare a [.In] [b] pos) (eBool (e2 (vInA false) fa fb)) := gt_cmp (o_inA hr.in1.units) s_inA hm ha hb
theorem t_notInA (hr : Room (k + 1) X.A) (ha : GE X ad W a fa) (hb : GE X ad W b fb) (hm : behindInMarks .NotIn b = false := by rfl) : GT X ad W (.Compare a [.NotIn] [b] pos) (eBool (e2 (vInA true) fa fb)) := gt_cmp (o_notInA hr.in1.units) s_inA hm ha hb
end
end Fl
/-! enumerate(tuple). -/
namespace Fl
section
open PySem
open AutoSeq1 (wpAny_loadPart')
theorem draws_tuple {prog : Program} {w : World} {A : Around} (hh : A.handled = none) (it l : Addr) (hne : l ≠ it) (items : Array Value) :
    Draws prog w A it [it, l] items.size (fun i v => items[i]? = some v) (fun i h => h.IsTupleIter it l i ∧ h.IsTuple l items) where
  live := fun _ _ st => let ⟨o, ho, _⟩ := st.1; ⟨o, ho⟩
  frame := fun _ _ _ st hk => ⟨let ⟨o, ho, z⟩ := st.1; ⟨o, hk it (by simp) o ho, z⟩, let ⟨o, ho, z⟩ := st.2; ⟨o, hk l (by simp) o ho, z⟩⟩
  item := fun i s Q E hi st hQ => by
    refine wpAny_nextOf_tuple_item st.1 st.2 (x := items[i]) (by simp [hi]) fun h' hit' hs' => ?_
    exact hQ _ h' s.toks (by simp [hi]) ⟨hit', let ⟨o, ho, z⟩ := st.2; ⟨o, (hs'.2 l hne).trans ho, z⟩⟩ hs'
  done := fun s Q E st hE => wpAny_nextOf_tuple_end hh st.1 st.2 (by simp) hE
theorem meets_enumerate_newT (l : Addr) (items : Array Value) (n : Nat) (dct : Option Addr) (sl : Array (Option Value)) :
    Meets (Builtin.«enumerate.__new__» ⟨[.type "enumerate", .ref l], []⟩) (fun _ R s => s.heap.get? l = some { cls := .type "tuple", dict := dct, data := .seq items n, slots := sl } ∧
      R (.ok (.ret (.ref (s.heap.push { cls := .type "tuple_iterator", data := .fields #[.ref l, .int 0 0] }).objs.size)))
        { s with heap := (s.heap.push { cls := .type "tuple_iterator", data := .fields #[.ref l, .int 0 0] }).push { cls := .type "enumerate", data := .fields #[.none, .bool false, .ref s.heap.objs.size, rawInt 0, .none, .none] } }) :=
  .of_wp fun prog w A R s h => by
    obtain ⟨hp, g, d, tk, os⟩ := s; obtain ⟨hl, h⟩ := h
    have hsub := sub_enumerate
    have hL : Heap.IsTuple (Shared.heap ⟨hp, g, d, tk, os⟩) l items := ⟨_, hl, rfl, n, rfl⟩
    wp_walk using wpAny_loadPart' hl
    refine wpAny_stack_any fun st => wpAny_pure ?_
    split
    · rename_i c _ _ _ _ _
      cases (c == Value.type "enumerate")
      · wp_walk using wpAny_loadPart' hl, wpAny_pyIter_tuple hL
        exact ⟨_, rfl, h⟩
      · wp_walk using wpAny_loadPart' hl, wpAny_pyIter_tuple hL
        exact ⟨_, rfl, h⟩
    · wp_walk using wpAny_loadPart' hl, wpAny_pyIter_tuple hL
      exact ⟨_, rfl, h⟩
theorem call_enumerate_tuple {prog : Program} {w : World} {A : Around} {E : Value → Shared → Prop} {s : Shared} {l : Addr} {items : Array Value} {Q : Value → Shared → Prop} (hL : s.heap.IsTuple l items)
    (h : ∀ h', IsEnum h' (s.heap.objs.size + 1) s.heap.objs.size 0 .none → h'.IsTupleIter s.heap.objs.size l 0 → h'.objs.size = s.heap.objs.size + 2 →
      (∀ b o, s.heap.get? b = some o → h'.get? b = some o) → Q (.ref (s.heap.objs.size + 1)) { s with heap := h' }) :
    wpAny (model prog w) A (call (.type "enumerate") [.ref l]) Q E s := by
  obtain ⟨⟨c, dct, dt, sl⟩, hl, hc, n, hd⟩ := hL
  replace hc : c = .type "tuple" := hc
  replace hd : dt = .seq items n := hd
  subst hc hd
  refine callType_new F.called_enumerate (by decide) (F.typeCall_enumerate_1 _) (F.newCall_enumerate_1 _) (fun obj => F.args_object_init_2 obj _) F.entry_enumerate_new
    (meets_enumerate_newT l items n dct sl) ⟨hl, ?_⟩
  have hz : (s.heap.push { cls := .type "tuple_iterator", data := .fields #[.ref l, .int 0 0] }).objs.size = s.heap.objs.size + 1 := Heap.size_push ..
  show _ ∧ _
  rw [hz]
  have he : IsEnum ((s.heap.push { cls := .type "tuple_iterator", data := .fields #[.ref l, .int 0 0] }).push
      { cls := .type "enumerate", data := .fields #[.none, .bool false, .ref s.heap.objs.size, rawInt 0, .none, .none] }) (s.heap.objs.size + 1) s.heap.objs.size 0 .none := by
    have := Heap.get?_push_size (s.heap.push { cls := .type "tuple_iterator", data := .fields #[.ref l, .int 0 0] })
      (o := { cls := .type "enumerate", data := .fields #[.none, .bool false, .ref s.heap.objs.size, rawInt 0, .none, .none] }) rfl
    rw [hz] at this; exact this
  refine ⟨⟨_, he, rfl⟩, h _ he ⟨_, Heap.get?_push_of_some _ (Heap.get?_push_size _ rfl), rfl, rfl⟩ (by rw [Heap.size_push, hz]) fun b o x => Heap.get?_push_of_some _ (Heap.get?_push_of_some _ x)⟩
end
section
open PySem PySem.Spec L2
open PyProof.Rows hiding St
/-- the tuple at a, each item in a new pair -/
def IteT (K : PySem.W.Frag) (a : Addr) : It :=
  ⟨fun i H => ∃ (xs : List V) (x : V), SqT K H a xs ∧ xs[i]? = some x, fun i H v H' => ∃ T x, v = .ref T ∧ H T = none ∧ H' = upd H T (.tup [.int (i : Nat), x]) ∧ ∀ xs, SqT K H a xs → xs[i]? = some x, fun i H => ∃ xs : List V, SqT K H a xs ∧ xs.length ≤ i⟩
theorem turn_enumT {P : Program} {w : World} {K : PySem.W.Frag} {elts : List Expr} {kk : Nat} {tpos : Pos} (a e it : Addr) :
    Turn P w K (.Tuple elts kk tpos) (IteT K a) [e, it] e (fun i h => (∃ old, IsEnum h e it ((i : Nat) : Int) old) ∧ h.IsTupleIter it a i ∧ e ≠ it) where
  mem := by simp
  obj := fun i h st b hb => by
    obtain ⟨⟨old, he⟩, ⟨o, ho, hc, hd⟩, _⟩ := st
    have e' : b = e ∨ b = it := by simpa using hb
    rcases e' with z | z
    · rw [z]; exact ⟨_, he, fun v q => nomatch q⟩
    · rw [z]; exact ⟨o, ho, fun v q => by rw [hd] at q; cases q⟩
  keep := fun i h h' st k => let ⟨⟨old, he⟩, hi, hne⟩ := st; ⟨⟨old, k e (by simp) _ he⟩, let ⟨o, ho, z⟩ := hi; ⟨o, k it (by simp) o ho, z⟩, hne⟩
  item := by
    intro X hP hw hK hc i pins s σ H E I hf st hg
    subst hP hw hK
    obtain ⟨⟨old, he⟩, hit, hne⟩ := st
    obtain ⟨xs, x, hq, hx⟩ := hg
    obtain ⟨its, rv, p, hz⟩ := I.tuple hq
    obtain ⟨u, hu, ru⟩ := rv.get hx
    have hel : e < s.heap.objs.size := Heap.lt_size he
    have hil : it < s.heap.objs.size := by obtain ⟨_, q, _⟩ := hit; exact Heap.lt_size q
    have hal : a ≠ it := by
      rintro rfl
      obtain ⟨o1, q1, q2, _⟩ := hit
      obtain ⟨o2, q3, q4, _⟩ := p
      rw [q1] at q3; cases q3
      rw [q2] at q4; exact absurd q4 (by decide)
    have hae : e ∉ [it, a] := by
      intro hm
      rcases List.mem_cons.mp hm with z | hm
      · exact hne z
      · have z := List.mem_singleton.mp hm
        subst z
        obtain ⟨o2, q3, q4, _⟩ := p
        rw [he] at q3; cases q3
        exact absurd (show Value.type "enumerate" = Value.type "tuple" from q4) (by simp)
    have hlt : i < its.toArray.size := by simpa using (List.getElem?_eq_some_iff.mp hu).1
    refine wpAny_pyNext_enum_itemD (draws_tuple (A := X.A.in1) (I.ok.hd hc) it a hal its.toArray) he ⟨hit, p⟩ hlt hne hae fun y h' tk hy ho hst' hT hsz hk => ?_
    obtain ⟨hit', _⟩ := hst'
    have hyu : y = u := by
      have h2 : its[i]? = some y := by simpa using hy
      rw [hu] at h2; cases h2; rfl
    subst hyu
    refine ⟨_, rfl, wpAny_letOwnedTupleGo_enum (s := { s with heap := h', toks := tk + 1 }) ho fun h'' he' sb => ?_⟩
    have hT2 : h''.get? s.heap.objs.size = some { cls := .type "tuple", data := .seq #[.int i tk, y] } := (sb.2 _ (Nat.ne_of_gt hel)).trans hT
    have new : ObjOk X.prog X.w (upd H s.heap.objs.size (.tup [.int (i : Nat), x])) h'' s.heap.objs.size (.tup [.int (i : Nat), x]) :=
      ⟨by show 2 ≤ sizeLine; decide, [.int i tk, y], .cons ⟨_, rfl⟩ (.cons ru .nil), ⟨_, hT2, rfl, _, rfl⟩⟩
    have I1 : Inv X pins σ (upd H s.heap.objs.size (.tup [.int (i : Nat), x])) { s with heap := h'', toks := tk + 1 } :=
      I.turnedNew (ch := [e, it]) (fun b ob hb q => (sb.2 b (fun z => hb (by simp [z]))).trans (hk b ob (fun z => hb (by simp [z])) (fun z => hb (by simp [z])) q)) hf (Nat.le_refl _) new
    refine ⟨.ref s.heap.objs.size, _, I1, rfl, ⟨_, x, rfl, I.hok.fresh (Nat.le_refl _), rfl, fun ys hy => by rw [I.tuple_inj hy hq]; exact hx⟩, ⟨⟨y, ?_⟩, ?_, hne⟩, fun b hb => ?_⟩
    · have e1 : ((i + 1 : Nat) : Int) = (i : Int) + 1 := by omega
      rw [e1]; exact he'
    · obtain ⟨o, q, z⟩ := hit'
      exact ⟨o, (sb.2 it (Ne.symm hne)).trans q, z⟩
    · have hb' : b < s.heap.objs.size := by
        have e' : b = e ∨ b = it := by simpa using hb
        rcases e' with z | z
        · rw [z]; exact hel
        · rw [z]; exact hil
      rw [upd_ne (Nat.ne_of_lt hb')]
      exact (hf b hb).1
  done := by
    intro X hP hw hK hc i pins s σ H E I hf st hg
    subst hP hw hK
    obtain ⟨⟨old, he⟩, hit, hne⟩ := st
    obtain ⟨xs, hq, hx⟩ := hg
    obtain ⟨its, rv, p, hz⟩ := I.tuple hq
    obtain ⟨f0, f1, f2, f3, f4, f5⟩ := hf it (by simp)
    have hl := rv.length
    have hal : a ≠ it := by
      rintro rfl
      obtain ⟨o1, q1, q2, _⟩ := hit
      obtain ⟨o2, q3, q4, _⟩ := p
      rw [q1] at q3; cases q3
      rw [q2] at q4; exact absurd q4 (by decide)
    unfold pyNext
    have hT : s.TypeIs (.ref e) "enumerate" := ⟨_, he, rfl⟩
    refine wpAny_bind (wpAny_attempt (wpAny_callSpecial?_slot (name := Str.ofString "__next__") hT F.slot_enumerate_next
      (wpAny_call_entry F.slot_enumerate_next hT F.entry_enumerate_next ?_ (F.args_enumerate_next_1 _))))
    show wpAny _ _ (field (.ref e) 2 >>= _) _ _ _
    refine wpAny_bind (wpAny_field he rfl (x := .ref it) rfl ?_)
    refine wpAny_bind (wpAny_nextOf_tuple_end (I.ok.hd hc) hit p (by simp; omega) fun h' x he' hx' => ?_)
    obtain ⟨o, ho, hc'⟩ := hx'
    refine wpAny_bind (wpAny_isInstance (T := "StopIteration") (b := true) ⟨o, ho, hc'⟩ isSubtype_stop ?_)
    exact wpAny_pure ⟨rfl, I.turned (t' := s.toks) (fun b o hb q => he' b o hb q) f0 f1 f3 f4 f5⟩
  self := fun A i s Q E st h => let ⟨⟨_, he⟩, _⟩ := st; wpAny_pyIter_enum he h
def iEnumT (K : PySem.W.Frag) (ta : TA) : TI := fun σ H R => ta σ H fun vs H1 => ∃ a xs, vs = [.ref a] ∧ SqT K H1 a xs ∧ R (IteT K a) H1
theorem pi_enumT {X : Cx} {e : Expr} {ta : TA} {p pos tpos : Pos} {elts : List Expr} {kk : Nat} (hg : Gl X "enumerate") (hm : X.mg "enumerate" = none) (ha : PA X [e] ta) (hs : starEach [e] X.env = [(false, eval e X.env)] := by rfl) :
    PI X (.Tuple elts kk tpos) (.Call (.Name "enumerate" p) [e] [] pos) (iEnumT X.K ta) := by
  refine ⟨fun pins s σ H R I h => ?_⟩
  refine Call_ (ld_blt I hg hm boot_enumerate (PyProof.Rows.callWith_type1 (thn (ha.run pos pins s σ H _ I h) fun us s1 ⟨vs, H1, I1, r1, q1⟩ => ?_) hs rfl))
  obtain ⟨a, xs, ex, hq, q⟩ := q1
  subst ex
  cases r1 with
  | cons r rr =>
    cases rr
    cases r
    obtain ⟨its, rv, p', hz⟩ := I1.tuple hq
    refine call_enumerate_tuple p' fun h' he hit hsz hk => wpAny_pyIter_enum he ?_
    have I2 : Inv X pins σ H1 { s1 with heap := h' } := I1.kept (t' := s1.toks) hk
    refine ⟨s1.heap.objs.size + 1, [s1.heap.objs.size + 1, s1.heap.objs.size], _, _, H1, rfl, I2, turn_enumT a (s1.heap.objs.size + 1) s1.heap.objs.size, ⟨⟨.none, he⟩, hit, Nat.succ_ne_self _⟩, fun b hb => ?_, q⟩
    have e' : b = s1.heap.objs.size + 1 ∨ b = s1.heap.objs.size := by simpa using hb
    have hle : s1.heap.objs.size ≤ b := by
      rcases e' with z | z
      · rw [z]; exact Nat.le_add_right _ _
      · rw [z]; exact Nat.le_refl _
    exact I1.fpOk hle (I1.hok.fresh hle)
def enuV (ys : List Val) : List Val := ys.mapIdx fun (i : Nat) y => Val.tup [.int (i : Int), y]
def iEnuA (a : AF) : AF := fun env S => (a env S).bind fun xs S1 => match xs with
  | [.tup ys] => .ok (enuV ys) S1
  | [.lst ys] => .ok (enuV ys) S1
  | [.wls ys] => .ok (enuV ys) S1
  | _ => .stuck
section
variable {X : Cx} {ad : Ads} {W : WX} {tg : Expr} {pos p : Pos}
theorem yl_enuT {F ρ} {a : Addr} {xs : List Val} {vs : List V} (h : SqT X.K F a vs) (r : Rps X.K ad F ρ xs vs) : Yl X.K ad F ρ (enuV xs) (IteT X.K a) := fun F' ρ' env S σ H l rs => by
  have hs : SqT X.K H a vs := Sub.tup rs.s.sub (sqT_mono l h)
  unfold enuV
  refine ⟨⟨vs, hs, by rw [List.length_mapIdx, r.length]; exact Nat.le_refl _⟩, fun i x e => ?_⟩
  rw [List.getElem?_mapIdx] at e
  cases e2 : xs[i]? with
  | none => rw [e2] at e; cases e
  | some y =>
    rw [e2] at e; cases e
    obtain ⟨u, e1, r1⟩ := (r.mono0 l).get e2
    refine ⟨⟨vs, u, hs, e1⟩, fun w H2 y => ?_⟩
    obtain ⟨T, x', y1, y2, y3, y4⟩ := y
    subst y1 y3
    have := y4 vs hs
    rw [e1] at this; cases this
    obtain ⟨rs', l'⟩ := rs.lay (o := .tup [.int (i : Int), u]) y2
    exact ⟨_, _, l', rs', .tup (.inl (.inl upd_same)) (.cons (.int _) (.cons (r1.mono l') .nil))⟩
theorem gi_enumA {e : Expr} {elts : List Expr} {kk : Nat} {tpos : Pos} {f : AF} (hg : Gl X "enumerate") (hm : X.mg "enumerate" = none) (ha : GA X ad W [e] f) (hs : starEach [e] X.env = [(false, eval e X.env)] := by rfl) :
    GI X ad W (.Tuple elts kk tpos) (.Call (.Name "enumerate" p) [e] [] pos) (iEnuA f) := by
  refine ⟨(PI.or (pi_enumT hg hm ha.run hs) (pi_enum hg hm ha.run hs)).imp fun σ H R ⟨F, ρ, env, S, rs, q⟩ => ?_⟩
  cases e0 : f env S with
  | stuck => unfold iEnuA at q; rw [e0] at q; exact q.elim
  | exc c fs S1 =>
    unfold iEnuA at q; rw [e0] at q
    exact .inl ⟨F, ρ, env, S, rs, by rw [e0]; exact q⟩
  | ok xs S1 =>
    have q0 := q
    unfold iEnuA at q
    rw [e0] at q
    dsimp only [Res.bind] at q
    split at q
    · rename_i ys
      refine .inl ⟨F, ρ, env, S, rs, ?_⟩
      rw [e0]
      intro F1 ρ1 u H1 l1 rs1 rx
      cases rx with
      | cons r1 r2 =>
        cases r2
        cases r1 with
        | tup h1 r1 => exact ⟨_, _, rfl, Sub.tup rs1.s.sub h1, q F1 ρ1 _ H1 l1 rs1 (yl_enuT h1 r1)⟩
    · rename_i ys
      refine .inr ⟨F, ρ, env, S, rs, ?_⟩
      rw [e0]
      intro F1 ρ1 u H1 l1 rs1 rx
      cases rx with
      | cons r1 r2 =>
        cases r2
        cases r1 with
        | lst h1 r1 => exact ⟨_, _, rfl, SqL.of (rs1.s.sub _ _ h1), q F1 ρ1 _ H1 l1 rs1 (yl_enu (SqL.of h1) r1)⟩
    · rename_i ys
      refine .inr ⟨F, ρ, env, S, rs, ?_⟩
      rw [e0]
      intro F1 ρ1 u H1 l1 rs1 rx
      cases rx with
      | cons r1 r2 =>
        cases r2
        cases r1 with
        | wls h1 r1 => exact ⟨_, _, rfl, Same.seq rs1.s.sub h1, q F1 ρ1 _ H1 l1 rs1 (yl_enu h1 r1)⟩
    · exact q.elim
end
end
end Fl
/-! What a function of the layer does, by what is wanted behind it: the rules to reckon with. -/
namespace Fl
open PySem

abbrev XP := Str → List (Str × Val) → Store → Prop
/-- a part ends well with Q, or lets an error out with X -/
def Res.wp0 {α : Type} (r : Res α) (Q : α → Store → Prop) (X : XP) : Prop := match r with
  | .ok a S => Q a S
  | .exc c fs S => X c fs S
  | .stuck => False
/-- a statement: N goes on, R returns, X raises, B breaks, C continues -/
def ResS.wp0 (r : ResS) (N : Env → Store → Prop) (R : Val → Store → Prop) (X : XP) (B C : Env → Store → Prop) : Prop := match r with
  | .nx e S => N e S
  | .ret v S => R v S
  | .exc c fs _ S => X c fs S
  | .brk e S => B e S
  | .cnt e S => C e S
  | .stuck => False
section
variable {α β : Type} {Q Q' : α → Store → Prop} {X X' : XP} {r : Res α} {env : Env} {S : Store} {N N' : Env → Store → Prop} {R R' : Val → Store → Prop} {B C B' C' : Env → Store → Prop}
theorem w0_ok {a : α} : (Res.ok a S).wp0 Q X = Q a S := propext Iff.rfl
theorem w0_exc {c : Str} {fs : List (Str × Val)} : (Res.exc c fs S : Res α).wp0 Q X = X c fs S := propext Iff.rfl
theorem w0_stuck : (Res.stuck : Res α).wp0 Q X = False := propext Iff.rfl
theorem w0_bind {k : β → Store → Res α} {r : Res β} : (r.bind k).wp0 Q X = r.wp0 (fun a S => (k a S).wp0 Q X) X := by cases r <;> rfl
theorem w0_ite {c : Prop} [Decidable c] {a b : Res α} : (if c then a else b).wp0 Q X = ((c → a.wp0 Q X) ∧ (¬ c → b.wp0 Q X)) := by
  by_cases h : c <;> simp [h]
theorem v0_ite {c : Prop} [Decidable c] {a b : ResS} : (if c then a else b).wp0 N R X B C = ((c → a.wp0 N R X B C) ∧ (¬ c → b.wp0 N R X B C)) := by
  by_cases h : c <;> simp [h]
theorem Res.wp0_mono (h : r.wp0 Q X) (hq : ∀ a S, Q a S → Q' a S) (hx : ∀ c fs S, X c fs S → X' c fs S) : r.wp0 Q' X' := by
  cases r with
  | ok a S => exact hq _ _ h
  | exc c fs S => exact hx _ _ _ h
  | stuck => exact h.elim
theorem ResS.wp0_mono {r : ResS} (h : r.wp0 N R X B C) (hn : ∀ a S, N a S → N' a S) (hr : ∀ a S, R a S → R' a S) (hx : ∀ c fs S, X c fs S → X' c fs S) (hb : ∀ a S, B a S → B' a S) (hc : ∀ a S, C a S → C' a S) : r.wp0 N' R' X' B' C' := by
  cases r with
  | nx e S => exact hn _ _ h
  | ret v S => exact hr _ _ h
  | exc c fs e S => exact hx _ _ _ h
  | brk e S => exact hb _ _ h
  | cnt e S => exact hc _ _ h
  | stuck => exact h.elim
theorem v0_nx : (ResS.nx env S).wp0 N R X B C = N env S := propext Iff.rfl
theorem v0_ret {v : Val} : (ResS.ret v S).wp0 N R X B C = R v S := propext Iff.rfl
theorem v0_exc {c : Str} {fs : List (Str × Val)} : (ResS.exc c fs env S).wp0 N R X B C = X c fs S := propext Iff.rfl
theorem v0_brk : (ResS.brk env S).wp0 N R X B C = B env S := propext Iff.rfl
theorem v0_cnt : (ResS.cnt env S).wp0 N R X B C = C env S := propext Iff.rfl
theorem v0_stuck : (ResS.stuck).wp0 N R X B C = False := propext Iff.rfl
theorem v0_go {k : α → Store → ResS} : (r.go env k).wp0 N R X B C = r.wp0 (fun a S => (k a S).wp0 N R X B C) X := by cases r <;> rfl
theorem v0_seq {r : ResS} {k : SF} : (r.seq k).wp0 N R X B C = r.wp0 (fun e S => (k e S).wp0 N R X B C) R X B C := by cases r <;> rfl
end
section
variable {Q : Val → Store → Prop} {X : XP} {env : Env} {S : Store} {N : Env → Store → Prop} {R : Val → Store → Prop} {B C : Env → Store → Prop}
theorem w0_runB {n : Nat} {b : SF} {xs : List Val} : (runB n b xs S).wp0 Q X = (b (xs.map some ++ List.replicate (n - xs.length) none) S).wp0 (fun _ S => Q .non S) Q X (fun _ _ => False) (fun _ _ => False) := by
  unfold runB
  cases b (xs.map some ++ List.replicate (n - xs.length) none) S <;> rfl
/-- a name's value -/
def got : Option (Option Val) → Store → Res Val
  | some (some v), S => .ok v S
  | _, _ => .stuck
theorem got_some {v : Val} : got (some (some v)) S = .ok v S := id rfl
theorem w_var {i : Nat} : (eVar i env S) = got env[i]? S := by
  unfold eVar got
  split <;> simp_all
theorem w0_e2 {o : Val → Val → Store → Res Val} {fa fb : EF} : (e2 o fa fb env S).wp0 Q X = (fa env S).wp0 (fun x S1 => (fb env S1).wp0 (fun y S2 => (o x y S2).wp0 Q X) X) X := by
  unfold e2; rw [w0_bind]; simp only [w0_bind]
theorem w0_call {f : BF} {a : AF} : (eCall f a env S).wp0 Q X = (a env S).wp0 (fun xs S1 => (f xs S1).wp0 Q X) X := by unfold eCall; rw [w0_bind]
theorem w0_cons {f : EF} {g : AF} {Q : List Val → Store → Prop} : (aCons f g env S).wp0 Q X = (f env S).wp0 (fun x S1 => (g env S1).wp0 (fun xs S2 => Q (x :: xs) S2) X) X := by
  unfold aCons; rw [w0_bind]; simp only [w0_bind, w0_ok]
theorem w0_nil {Q : List Val → Store → Prop} : (aNil env S).wp0 Q X = Q [] S := propext Iff.rfl
theorem w0_def {f : BF} {n : Nat} {dv : List Val} {a : AF} : (eDef f n dv a env S).wp0 Q X = (a env S).wp0 (fun xs S1 => (if (xs ++ dv).length = n then f (xs ++ dv) S1 else .stuck).wp0 Q X) X := by unfold eDef; rw [w0_bind]
theorem w0_tup {g : AF} : (eTup g env S).wp0 Q X = (g env S).wp0 (fun xs S1 => (if xs.length ≤ sizeLine then Res.ok (.tup xs) S1 else .stuck).wp0 Q X) X := by unfold eTup; rw [w0_bind]
theorem w0_lst {c : Bool} {g : AF} : (eLst c g env S).wp0 Q X = (g env S).wp0 (fun xs S1 => (if xs.length ≤ sizeLine then mkL c xs S1 else .stuck).wp0 Q X) X := by unfold eLst; rw [w0_bind]
theorem w0_bool {f : EF} {Q : Bool → Store → Prop} : (eBool f env S).wp0 Q X = (f env S).wp0 (fun x S1 => match x with | .bl b => Q b S1 | _ => False) X := by
  unfold eBool; rw [w0_bind]; congr 1; funext x S1; cases x <;> rfl
theorem w0_notF {f : TFn} {Q : Bool → Store → Prop} : (tNotF f env S).wp0 Q X = (f env S).wp0 (fun b S1 => Q (!b) S1) X := by unfold tNotF; rw [w0_bind]; rfl
theorem w0_andF {f g : TFn} {Q : Bool → Store → Prop} : (tAndF f g env S).wp0 Q X = (f env S).wp0 (fun b S1 => (if b then g env S1 else .ok false S1).wp0 Q X) X := by unfold tAndF; rw [w0_bind]
theorem w0_orF {f g : TFn} {Q : Bool → Store → Prop} : (tOrF f g env S).wp0 Q X = (f env S).wp0 (fun b S1 => (if b then .ok true S1 else g env S1).wp0 Q X) X := by unfold tOrF; rw [w0_bind]
theorem w0_and {f g : EF} : (eAnd f g env S).wp0 Q X = (eBool f env S).wp0 (fun b S1 => (if b then g env S1 else .ok (.bl false) S1).wp0 Q X) X := by unfold eAnd; rw [w0_bind]
theorem w0_or {f g : EF} : (eOr f g env S).wp0 Q X = (eBool f env S).wp0 (fun b S1 => (if b then .ok (.bl true) S1 else g env S1).wp0 Q X) X := by unfold eOr; rw [w0_bind]
theorem w0_not {f : EF} : (eNot f env S).wp0 Q X = (eBool f env S).wp0 (fun b S1 => Q (.bl (!b)) S1) X := by unfold eNot; rw [w0_bind]; rfl
theorem w0_if {t : TFn} {f g : EF} : (eIf t f g env S).wp0 Q X = (t env S).wp0 (fun b S1 => (if b then f env S1 else g env S1).wp0 Q X) X := by unfold eIf; rw [w0_bind]
theorem w0_neg {f : EF} : (eNeg f env S).wp0 Q X = (f env S).wp0 (fun x S1 => match x with | .int i => Q (.int (-i)) S1 | _ => False) X := by
  unfold eNeg; rw [w0_bind]; congr 1; funext x S1; cases x <;> rfl
theorem w0_star {f : EF} {g : AF} {Q : List Val → Store → Prop} : (aStar f g env S).wp0 Q X = (f env S).wp0 (fun x S1 => match seqOf S1 x with | some ys => (g env S1).wp0 (fun xs S2 => Q (ys ++ xs) S2) X | none => False) X := by
  unfold aStar; rw [w0_bind]; congr 1; funext x S1
  cases seqOf S1 x <;> simp only [w0_bind, w0_ok, w0_stuck]
theorem w0_aSeq {f : EF} {Q : List Val → Store → Prop} : (aSeq f env S).wp0 Q X = (f env S).wp0 (fun x S1 => match seqOf S1 x with | some ys => Q ys S1 | none => False) X := by
  unfold aSeq; rw [w0_bind]; congr 1; funext x S1
  cases seqOf S1 x <;> rfl
theorem w0_fld {f : Str} {o : EF} : (eFld f o env S).wp0 Q X = (o env S).wp0 (fun x S1 => match insOf S1 x with | some (_, fs) => (match fs.lookup f with | some v => Q v S1 | none => False) | none => False) X := by
  unfold eFld; rw [w0_bind]; congr 1; funext x S1
  cases insOf S1 x with
  | none => rfl
  | some p => obtain ⟨c, fs⟩ := p; cases h : fs.lookup f <;> simp only [h] <;> rfl
theorem w0_frz {f : EF} : (eFrz f env S).wp0 Q X = (f env S).wp0 (fun x S1 => (frzV x S1).wp0 Q X) X := by unfold eFrz; rw [w0_bind]
theorem w0_chain {o1 o2 : Val → Val → Store → Res Val} {fa fb fc : EF} : (eChain o1 o2 fa fb fc env S).wp0 Q X = (fa env S).wp0 (fun x S1 => (fb env S1).wp0 (fun y S2 => (o1 x y S2).wp0 (fun z S3 => match z with
    | .bl true => (fc env S3).wp0 (fun w S4 => (o2 y w S4).wp0 Q X) X | .bl false => Q (.bl false) S3 | _ => False) X) X) X := by
  unfold eChain; rw [w0_bind]; congr 1; funext x S1; rw [w0_bind]; congr 1; funext y S2; rw [w0_bind]; congr 1; funext z S3
  cases z <;> try rfl
  rename_i b
  cases b
  · rfl
  · exact w0_bind
theorem w0_m1 {f : MF} {o a : EF} : (eM1 f o a env S).wp0 Q X = (o env S).wp0 (fun x S1 => match x with | .str _ => (a env S1).wp0 (fun y S2 => (f x [y] S2).wp0 Q X) X | _ => False) X := by
  unfold eM1; rw [w0_bind]; congr 1; funext x S1
  cases x <;> first | rfl | exact w0_bind
theorem w0_bm {f : MF} {o : EF} {a : AF} : (eBM f o a env S).wp0 Q X = (o env S).wp0 (fun x S1 => match lstOf S1 x with | some _ => (a env S1).wp0 (fun xs S2 => (f x xs S2).wp0 Q X) X | none => False) X := by
  unfold eBM; rw [w0_bind]; congr 1; funext x S1
  cases lstOf S1 x <;> first | rfl | exact w0_bind
theorem w0_iSeq {f : EF} {Q : List Val → Store → Prop} : (iSeq f env S).wp0 Q X = (f env S).wp0 (fun x S1 => match itmF S1 x with | some xs => Q xs S1 | none => False) X := by
  unfold iSeq; rw [w0_bind]; congr 1; funext x S1; cases itmF S1 x <;> rfl
def rg1F : List Val → Store → Res (List Val) := fun xs S1 => match xs with
  | [.int n] => if -(2 ^ 62) ≤ n ∧ n < 2 ^ 62 then .ok (rangeV 0 n) S1 else .stuck
  | _ => .stuck
def rg2F : List Val → Store → Res (List Val) := fun xs S1 => match xs with
  | [.int m, .int n] => if -(2 ^ 62) ≤ m ∧ m < 2 ^ 62 ∧ -(2 ^ 62) ≤ n ∧ n < 2 ^ 62 then .ok (rangeV m n) S1 else .stuck
  | _ => .stuck
theorem w0_rg1 {a : AF} {Q : List Val → Store → Prop} : (iRg1 a env S).wp0 Q X = (a env S).wp0 (fun xs S1 => (rg1F xs S1).wp0 Q X) X := by unfold iRg1; rw [w0_bind]; rfl
theorem w0_rg2 {a : AF} {Q : List Val → Store → Prop} : (iRg2 a env S).wp0 Q X = (a env S).wp0 (fun xs S1 => (rg2F xs S1).wp0 Q X) X := by unfold iRg2; rw [w0_bind]; rfl
theorem rg1_i {n : Int} (h0 : 0 ≤ n) (h : n ≤ 16777216) : rg1F [.int n] S = .ok (rangeV 0 n) S := if_pos ⟨by omega, by omega⟩
theorem rg2_i {m n : Int} (h0 : 0 ≤ m) (h1 : m ≤ 16777216) (h2 : 0 ≤ n) (h3 : n ≤ 16777216) : rg2F [.int m, .int n] S = .ok (rangeV m n) S := if_pos ⟨by omega, by omega, by omega, by omega⟩
theorem w0_isi {t : TK → Bool} {f : EF} : (eIsi t f env S).wp0 Q X = (f env S).wp0 (fun x S1 => match tyK S1 x with | some k => Q (.bl (t k)) S1 | none => False) X := by
  unfold eIsi; rw [w0_bind]; congr 1; funext x S1; cases tyK S1 x <;> rfl
theorem w0_wget {tab : List (Str × Val)} {f : EF} : (eWGet tab f env S).wp0 Q X = (f env S).wp0 (fun x S1 => match x with | .str z => Q ((tab.lookup z).getD .non) S1 | _ => False) X := by
  unfold eWGet; rw [w0_bind]; congr 1; funext x S1; cases x <;> rfl
theorem w0_lc {c : Bool} {it : AF} {g : TF} {t : TFn} {f : EF} {vs : List Nat} : (eLc c it g t f vs env S).wp0 Q X = (it env S).wp0 (fun xs S1 => (lcGo g t f (wipeE env vs) xs [] S1).wp0 (fun ys S2 => (mkL c ys S2).wp0 Q X) X) X := by
  unfold eLc; rw [w0_bind]; congr 1; funext x S1; rw [w0_bind]
theorem w0_cmet {c : Str} {f : BF} {n : Nat} {dv : List Val} {fo : EF} {a : AF} : (eCMet c f n dv fo a env S).wp0 Q X = (fo env S).wp0 (fun x S1 => match x with
    | .cls c' => if c' = c then (a env S1).wp0 (fun xs S2 => (if (x :: (xs ++ dv)).length = n then f (x :: (xs ++ dv)) S2 else .stuck).wp0 Q X) X else False | _ => False) X := by
  unfold eCMet; rw [w0_bind]; congr 1; funext x S1
  cases x <;> try rfl
  rename_i c'
  by_cases h : c' = c
  · simp only [h, if_true, w0_bind]
  · simp only [h, if_false, w0_stuck]
theorem w0_met {cs : List Str} {f : BF} {n : Nat} {dv : List Val} {m : Str} {o : EF} {a : AF} : (eMet cs f n dv m o a env S).wp0 Q X = (o env S).wp0 (fun x S1 => match insOf S1 x with
    | some (c, fs) => if cs.contains c = true ∧ fs.lookup m = none then (a env S1).wp0 (fun xs S2 => (if (x :: (xs ++ dv)).length = n then f (x :: (xs ++ dv)) S2 else .stuck).wp0 Q X) X else False
    | none => False) X := by
  unfold eMet; rw [w0_bind]; congr 1; funext x S1
  cases insOf S1 x with
  | none => rfl
  | some p =>
    obtain ⟨c, fs⟩ := p
    dsimp only
    by_cases h : cs.contains c = true ∧ fs.lookup m = none
    · rw [if_pos h, if_pos h, w0_bind]
    · rw [if_neg h, if_neg h]; rfl
/-- a new instance: its __init__, then it stays as it is -/
def mak1 (c : Str) (keep : Bool) (f : BF) (n : Nat) (dv : List Val) (xs : List Val) (S1 : Store) : Res Val :=
  if (Val.ref S1.length :: (xs ++ dv)).length = n then
    match f (.ref S1.length :: (xs ++ dv)) (S1 ++ [(true, .ins c [])]) with
    | .ok .non S2 => if keep then .ok (.ref S1.length) S2 else frzV (.ref S1.length) S2
    | .exc c fs S2 => .exc c fs S2
    | _ => .stuck
  else .stuck
theorem w0_mak {c : Str} {keep : Bool} {f : BF} {n : Nat} {dv : List Val} {a : AF} : (eMak c keep f n dv a env S).wp0 Q X = (a env S).wp0 (fun xs S1 => (mak1 c keep f n dv xs S1).wp0 Q X) X := by
  unfold eMak; rw [w0_bind]; rfl
theorem w0_makL {i : Nat} {c : Str} {keep : Bool} {f : BF} {n : Nat} {dv : List Val} {a : AF} : (eMakL i c keep f n dv a env S).wp0 Q X = (eVar i env S).wp0 (fun v _ => match v with | .cls c' => if c' = c then (eMak c keep f n dv a env S).wp0 Q X else False | _ => False) X := by
  unfold eMakL
  rw [w_var]
  cases h : env[i]? with
  | none => rfl
  | some v =>
    cases v with
    | none => rfl
    | some v =>
      cases v <;> try rfl
      rename_i c'
      dsimp only [got, w0_ok, Res.wp0]
      by_cases h : c' = c
      · simp only [h, if_true]
      · simp only [h, if_false]
theorem w0_mak1 {c : Str} {keep : Bool} {f : BF} {n : Nat} {dv xs : List Val} (hn : (xs ++ dv).length + 1 = n)
    (h : (f (.ref S.length :: (xs ++ dv)) (S ++ [(true, .ins c [])])).wp0 (fun v S2 => v = .non ∧ ((if keep then Res.ok (.ref S.length) S2 else frzV (.ref S.length) S2)).wp0 Q X) X) : (mak1 c keep f n dv xs S).wp0 Q X := by
  unfold mak1
  rw [if_pos (by simpa using hn)]
  generalize f (.ref S.length :: (xs ++ dv)) (S ++ [(true, .ins c [])]) = r at h ⊢
  cases r with
  | ok v S2 => obtain ⟨rfl, h⟩ := h; exact h
  | exc c fs S2 => exact h
  | stuck => exact h.elim
theorem w0_jnil {acc : Str} : (jGo [] acc env S).wp0 Q X = Q (.str acc) S := propext Iff.rfl
theorem w0_jcons {f : EF} {fs : List EF} {acc : Str} : (jGo (f :: fs) acc env S).wp0 Q X = (f env S).wp0 (fun x S1 => match x with | .str y => (acc ++ y).length ≤ sizeLine ∧ (jGo fs (acc ++ y) env S1).wp0 Q X | _ => False) X := by
  rw [jGo, w0_bind]; congr 1; funext x S1
  cases x <;> try rfl
  rename_i y
  dsimp only
  by_cases h : (acc ++ y).length ≤ sizeLine
  · simp only [h, if_true, true_and]
  · simp only [h, if_false, false_and, w0_stuck]
theorem w0_fmt {f : EF} : (eFmt f env S).wp0 Q X = (f env S).wp0 (fun x S1 => (fmtV x S1).wp0 Q X) X := by unfold eFmt; rw [w0_bind]
theorem w0_fmtR {f : EF} : (eFmtR f env S).wp0 Q X = (f env S).wp0 (fun x S1 => (fmtR x S1).wp0 Q X) X := by unfold eFmtR; rw [w0_bind]
theorem w0_sl {c : Bool} {f : EF} {lo hi : OF} : (eSl c f lo hi env S).wp0 Q X = (f env S).wp0 (fun x S1 => (lo env S1).wp0 (fun l S2 => (hi env S2).wp0 (fun h S3 => (vSl c x l h S3).wp0 Q X) X) X) X := by
  unfold eSl; rw [w0_bind]; congr 1; funext x S1; rw [w0_bind]; congr 1; funext l S2; rw [w0_bind]
theorem w0_oNone {Q : Option Int → Store → Prop} : (oNone env S).wp0 Q X = Q none S := propext Iff.rfl
theorem w0_oSome {f : EF} {Q : Option Int → Store → Prop} : (oSome f env S).wp0 Q X = (f env S).wp0 (fun x S1 => match x with | .int i => Q (some i) S1 | _ => False) X := by
  unfold oSome; rw [w0_bind]; congr 1; funext x S1; cases x <;> rfl
theorem w0_d0 : (eD0 env S).wp0 Q X = Q (.ref S.length) (S ++ [(true, .dct [])]) := propext Iff.rfl
theorem w0_dget {fo fk : EF} : (eDGet fo fk env S).wp0 Q X = (fo env S).wp0 (fun x S1 => (fk env S1).wp0 (fun y S2 => match dctOf S2 x, y with
    | some kvs, .str k => (match valD k kvs with | some v => Q v S2 | none => False) | _, _ => False) X) X := by
  unfold eDGet; rw [w0_bind]; congr 1; funext x S1; rw [w0_bind]; congr 1; funext y S2
  cases dctOf S2 x <;> cases y <;> try rfl
  rename_i kvs k
  dsimp only
  cases valD k kvs <;> rfl
theorem w0_walk {f : EF} {Q : List Val → Store → Prop} : (iWalk f env S).wp0 Q X = (f env S).wp0 (fun x S1 => match keysF S1 x with | some kvs => Q (kvs.map fun p => .str p.1) S1 | none => (match itmF S1 x with | some xs => Q xs S1 | none => False)) X := by
  unfold iWalk; rw [w0_bind]; congr 1; funext x S1
  cases keysF S1 x with
  | some _ => rfl
  | none => dsimp only; cases itmF S1 x <;> rfl
/-! statements -/
theorem v0_seq' {f g : SF} : (sSeq f g env S).wp0 N R X B C = (f env S).wp0 (fun e S => (g e S).wp0 N R X B C) R X B C := by unfold sSeq; rw [v0_seq]
theorem v0_nx' : (sNx env S).wp0 N R X B C = N env S := propext Iff.rfl
theorem v0_exp {f : EF} : (sExp f env S).wp0 N R X B C = (f env S).wp0 (fun _ S1 => N env S1) X := by unfold sExp; rw [v0_go]; rfl
theorem v0_ret' {f : EF} : (sRet f env S).wp0 N R X B C = (f env S).wp0 R X := by unfold sRet; rw [v0_go]; rfl
theorem v0_retN : (sRetN env S).wp0 N R X B C = R .non S := propext Iff.rfl
theorem v0_if {t : TFn} {f g : SF} : (sIf t f g env S).wp0 N R X B C = (t env S).wp0 (fun b S1 => (if b then f env S1 else g env S1).wp0 N R X B C) X := by unfold sIf; rw [v0_go]
theorem v0_set {i : Nat} {f : EF} : (sSet i f env S).wp0 N R X B C = (f env S).wp0 (fun x S1 => N (env.set i (some x)) S1) X := by unfold sSet; rw [v0_go]; rfl
theorem v0_raise {c f : Str} {fe : EF} : (sRaise c f fe env S).wp0 N R X B C = (fe env S).wp0 (fun x S1 => X c [(f, x)] S1) X := by unfold sRaise; rw [v0_go]; rfl
theorem v0_asg {f : EF} {g : TF} : (sAsg f g env S).wp0 N R X B C = (f env S).wp0 (fun x S1 => (g x env S1).wp0 (fun e S2 => N e S2) X) X := by
  unfold sAsg; rw [v0_go]; congr 1; funext x S1; rw [v0_go]; rfl
theorem v0_par {i j : Nat} {g : AF} : (sPar i j g env S).wp0 N R X B C = (g env S).wp0 (fun xs S1 => match xs with | [x, y] => N ((env.set i (some x)).set j (some y)) S1 | _ => False) X := by
  unfold sPar; rw [v0_go]; congr 1; funext xs S1; split <;> simp_all [v0_nx, v0_stuck]
theorem v0_for {it : AF} {g : TF} {b : SF} : (sFor it g b env S).wp0 N R X B C = (it env S).wp0 (fun xs S1 => (forGo g b xs env S1).wp0 N R X B C) X := by unfold sFor; rw [v0_go]
theorem v0_fld {f : Str} {fo fe : EF} : (Fl.sFld f fo fe env S).wp0 N R X B C = (fe env S).wp0 (fun y S1 => (fo env S1).wp0 (fun x S2 => (putAt f none x y env S2).wp0 N R X B C) X) X := by
  unfold Fl.sFld; rw [v0_go]; congr 1; funext x S1; rw [v0_go]
theorem v0_dput {fo fk fv : EF} : (Fl.sDPut fo fk fv env S).wp0 N R X B C = (fv env S).wp0 (fun v S1 => (fo env S1).wp0 (fun x S2 => (fk env S2).wp0 (fun y S3 => match x, y with
    | .ref i, .str k => (match S3[i]? with | some (true, .dct kvs) => kvs.length < sizeLine ∧ N env (S3.set i (true, .dct (putD k v kvs))) | _ => False) | _, _ => False) X) X) X := by
  unfold Fl.sDPut; rw [v0_go]; congr 1; funext v S1; rw [v0_go]; congr 1; funext x S2; rw [v0_go]; congr 1; funext y S3
  cases x <;> cases y <;> try rfl
  rename_i i k
  dsimp only
  cases S3[i]? with
  | none => rfl
  | some p =>
    obtain ⟨b, c⟩ := p
    cases b <;> cases c <;> try rfl
    rename_i kvs
    dsimp only
    by_cases h : kvs.length < sizeLine
    · simp only [h, if_true, true_and, v0_nx]
    · simp only [h, if_false, false_and, v0_stuck]
/-! targets -/
theorem t0_name {i : Nat} {x : Val} {Q : Env → Store → Prop} : (tgName i x env S).wp0 Q X = Q (env.set i (some x)) S := propext Iff.rfl
theorem t0_tup {n : Nat} {g : List Val → Env → Store → Option Env} {x : Val} {Q : Env → Store → Prop} : (tgTup n g x env S).wp0 Q X = (match seqOf S x with
    | some xs => xs.length = n ∧ (match g xs env S with | some e => Q e S | none => False) | none => False) := by
  unfold tgTup
  cases seqOf S x with
  | none => rfl
  | some xs =>
    dsimp only
    by_cases h : xs.length = n
    · rw [if_pos h]; cases g xs env S <;> simp [h, w0_ok, w0_stuck]
    · rw [if_neg h]; simp [h, w0_stuck]
theorem t0_ix {fo fi : EF} {v : Val} {Q : Env → Store → Prop} : (tgIx fo fi v env S).wp0 Q X = (fo env S).wp0 (fun x S1 => (fi env S1).wp0 (fun y S2 => match x, y with
    | .ref i, .int k => (match S2[i]? with | some (true, .lst xs) => (match L2.ixN xs.length k with | some j => Q env (S2.set i (true, .lst (xs.set j v))) | none => False) | _ => False) | _, _ => False) X) X := by
  unfold tgIx; rw [w0_bind]; congr 1; funext x S1; rw [w0_bind]; congr 1; funext y S2
  cases x <;> cases y <;> try rfl
  rename_i i k
  dsimp only
  cases S2[i]? with
  | none => rfl
  | some p =>
    obtain ⟨b, c⟩ := p
    cases b <;> cases c <;> try rfl
    rename_i xs
    dsimp only
    cases L2.ixN xs.length k <;> rfl
/-! loops -/
theorem v0_forGo {I : List Val → Env → Store → Prop} {g : TF} {b : SF} (step : ∀ x rest env S, I (x :: rest) env S → (g x env S).wp0 (fun e1 S1 => (b e1 S1).wp0 (I rest) R X N (I rest)) X) (fin : ∀ env S, I [] env S → N env S) :
    ∀ {xs : List Val} {env : Env} {S : Store}, I xs env S → (forGo g b xs env S).wp0 N R X B C
  | [], env, S, h => fin _ _ h
  | x :: xs, env, S, h => by
    have h1 := step x xs env S h
    unfold forGo
    rw [v0_go]
    refine Res.wp0_mono h1 (fun e1 S1 h2 => ?_) fun _ _ _ q => q
    cases e : b e1 S1 with
    | nx e2 S2 => rw [e] at h2; exact v0_forGo step fin h2
    | cnt e2 S2 => rw [e] at h2; exact v0_forGo step fin h2
    | brk e2 S2 => rw [e] at h2; exact h2
    | ret v S2 => rw [e] at h2; exact h2
    | exc c fs e2 S2 => rw [e] at h2; exact h2
    | stuck => rw [e] at h2; exact h2
/-- a comprehension: I rest acc S -/
theorem w0_lcGo {I : List Val → List Val → Store → Prop} {g : TF} {t : TFn} {f : EF} {env0 : Env} {Q : List Val → Store → Prop}
    (step : ∀ x rest acc S, I (x :: rest) acc S → ∃ e1 S1, g x env0 S = .ok e1 S1 ∧ ∃ b S2, t e1 S1 = .ok b S2 ∧ if b then ∃ y S3, f e1 S2 = .ok y S3 ∧ acc.length < sizeLine ∧ I rest (acc ++ [y]) S3 else I rest acc S2) (fin : ∀ acc S, I [] acc S → Q acc S) :
    ∀ {xs acc : List Val} {S : Store}, I xs acc S → (lcGo g t f env0 xs acc S).wp0 Q X
  | [], acc, S, h => fin _ _ h
  | x :: xs, acc, S, h => by
    obtain ⟨e1, S1, h1, b, S2, h2, h3⟩ := step x xs acc S h
    unfold lcGo
    rw [h1]
    dsimp only
    rw [h2]
    cases b with
    | false => exact w0_lcGo step fin h3
    | true =>
      obtain ⟨y, S3, h4, h5, h6⟩ := h3
      dsimp only
      rw [h4]
      dsimp only
      rw [if_pos h5]
      exact w0_lcGo step fin h6
/-- a comprehension that changes nothing, each item by itself -/
theorem lc_map {g : TF} {f : EF} {env0 : Env} {S : Store} {h : Val → Val} : ∀ {xs acc : List Val}, (∀ x ∈ xs, ∃ e1, g x env0 S = .ok e1 S ∧ f e1 S = .ok (h x) S) → acc.length + xs.length ≤ sizeLine → lcGo g tTrue f env0 xs acc S = .ok (acc ++ xs.map h) S
  | [], acc, _, _ => by simp [lcGo]
  | x :: xs, acc, hx, hl => by
    obtain ⟨e1, h1, h2⟩ := hx x List.mem_cons_self
    unfold lcGo
    rw [h1]
    dsimp only [tTrue]
    rw [h2]
    dsimp only
    rw [List.length_cons] at hl
    rw [if_pos (by omega), lc_map (fun y hy => hx y (List.mem_cons_of_mem _ hy)) (by rw [List.length_append]; simp; omega)]
    simp
end

structure Res.wp {α : Type} (r : Res α) (Q : α → Store → Prop) (X : XP) : Prop where
  run : r.wp0 Q X
structure ResS.wp (r : ResS) (N : Env → Store → Prop) (R : Val → Store → Prop) (X : XP) (B C : Env → Store → Prop) : Prop where
  run : r.wp0 N R X B C
theorem wpE {α : Type} {r : Res α} {Q : α → Store → Prop} {X : XP} : r.wp Q X = r.wp0 Q X := propext ⟨fun h => h.run, fun h => ⟨h⟩⟩
theorem vpE {r : ResS} {N : Env → Store → Prop} {R : Val → Store → Prop} {X : XP} {B C : Env → Store → Prop} : r.wp N R X B C = r.wp0 N R X B C := propext ⟨fun h => h.run, fun h => ⟨h⟩⟩
section
variable {α β : Type} {Q Q' : α → Store → Prop} {X X' : XP} {r : Res α} {env : Env} {S : Store} {N N' : Env → Store → Prop} {R R' : Val → Store → Prop} {B C B' C' : Env → Store → Prop}
theorem w_ok {a : α} : (Res.ok a S).wp Q X = Q a S := by
  simp only [wpE, vpE]
  exact w0_ok
theorem w_exc {c : Str} {fs : List (Str × Val)} : (Res.exc c fs S : Res α).wp Q X = X c fs S := by
  simp only [wpE, vpE]
  exact w0_exc
theorem w_stuck : (Res.stuck : Res α).wp Q X = False := by
  simp only [wpE, vpE]
  exact w0_stuck
theorem w_bind {k : β → Store → Res α} {r : Res β} : (r.bind k).wp Q X = r.wp (fun a S => (k a S).wp Q X) X := by
  simp only [wpE, vpE]
  exact w0_bind
theorem w_ite {c : Prop} [Decidable c] {a b : Res α} : (if c then a else b).wp Q X = ((c → a.wp Q X) ∧ (¬ c → b.wp Q X)) := by
  simp only [wpE, vpE]
  exact w0_ite
theorem v_ite {c : Prop} [Decidable c] {a b : ResS} : (if c then a else b).wp N R X B C = ((c → a.wp N R X B C) ∧ (¬ c → b.wp N R X B C)) := by
  simp only [wpE, vpE]
  exact v0_ite
theorem Res.wp_mono (h : r.wp Q X) (hq : ∀ a S, Q a S → Q' a S) (hx : ∀ c fs S, X c fs S → X' c fs S) : r.wp Q' X' := ⟨Res.wp0_mono h.run hq hx⟩
theorem ResS.wp_mono {r : ResS} (h : r.wp N R X B C) (hn : ∀ a S, N a S → N' a S) (hr : ∀ a S, R a S → R' a S) (hx : ∀ c fs S, X c fs S → X' c fs S) (hb : ∀ a S, B a S → B' a S) (hc : ∀ a S, C a S → C' a S) : r.wp N' R' X' B' C' := ⟨ResS.wp0_mono h.run hn hr hx hb hc⟩
theorem v_nx : (ResS.nx env S).wp N R X B C = N env S := by
  simp only [wpE, vpE]
  exact v0_nx
theorem v_ret {v : Val} : (ResS.ret v S).wp N R X B C = R v S := by
  simp only [wpE, vpE]
  exact v0_ret
theorem v_exc {c : Str} {fs : List (Str × Val)} : (ResS.exc c fs env S).wp N R X B C = X c fs S := by
  simp only [wpE, vpE]
  exact v0_exc
theorem v_brk : (ResS.brk env S).wp N R X B C = B env S := by
  simp only [wpE, vpE]
  exact v0_brk
theorem v_cnt : (ResS.cnt env S).wp N R X B C = C env S := by
  simp only [wpE, vpE]
  exact v0_cnt
theorem v_stuck : (ResS.stuck).wp N R X B C = False := by
  simp only [wpE, vpE]
  exact v0_stuck
theorem v_go {k : α → Store → ResS} : (r.go env k).wp N R X B C = r.wp (fun a S => (k a S).wp N R X B C) X := by
  simp only [wpE, vpE]
  exact v0_go
theorem v_seq {r : ResS} {k : SF} : (r.seq k).wp N R X B C = r.wp (fun e S => (k e S).wp N R X B C) R X B C := by
  simp only [wpE, vpE]
  exact v0_seq
end
section
variable {Q : Val → Store → Prop} {X : XP} {env : Env} {S : Store} {N : Env → Store → Prop} {R : Val → Store → Prop} {B C : Env → Store → Prop}
theorem w_runB {n : Nat} {b : SF} {xs : List Val} : (runB n b xs S).wp Q X = (b (xs.map some ++ List.replicate (n - xs.length) none) S).wp (fun _ S => Q .non S) Q X (fun _ _ => False) (fun _ _ => False) := by
  simp only [wpE, vpE]
  exact w0_runB
theorem w_e2 {o : Val → Val → Store → Res Val} {fa fb : EF} : (e2 o fa fb env S).wp Q X = (fa env S).wp (fun x S1 => (fb env S1).wp (fun y S2 => (o x y S2).wp Q X) X) X := by
  simp only [wpE, vpE]
  exact w0_e2
theorem w_call {f : BF} {a : AF} : (eCall f a env S).wp Q X = (a env S).wp (fun xs S1 => (f xs S1).wp Q X) X := by
  simp only [wpE, vpE]
  exact w0_call
theorem w_cons {f : EF} {g : AF} {Q : List Val → Store → Prop} : (aCons f g env S).wp Q X = (f env S).wp (fun x S1 => (g env S1).wp (fun xs S2 => Q (x :: xs) S2) X) X := by
  simp only [wpE, vpE]
  exact w0_cons
theorem w_nil {Q : List Val → Store → Prop} : (aNil env S).wp Q X = Q [] S := by
  simp only [wpE, vpE]
  exact w0_nil
theorem w_def {f : BF} {n : Nat} {dv : List Val} {a : AF} : (eDef f n dv a env S).wp Q X = (a env S).wp (fun xs S1 => (if (xs ++ dv).length = n then f (xs ++ dv) S1 else .stuck).wp Q X) X := by
  simp only [wpE, vpE]
  exact w0_def
theorem w_tup {g : AF} : (eTup g env S).wp Q X = (g env S).wp (fun xs S1 => (if xs.length ≤ sizeLine then Res.ok (.tup xs) S1 else .stuck).wp Q X) X := by
  simp only [wpE, vpE]
  exact w0_tup
theorem w_lst {c : Bool} {g : AF} : (eLst c g env S).wp Q X = (g env S).wp (fun xs S1 => (if xs.length ≤ sizeLine then mkL c xs S1 else .stuck).wp Q X) X := by
  simp only [wpE, vpE]
  exact w0_lst
theorem w_bool {f : EF} {Q : Bool → Store → Prop} : (eBool f env S).wp Q X = (f env S).wp (fun x S1 => match x with | .bl b => Q b S1 | _ => False) X := by
  simp only [wpE, vpE]
  exact w0_bool
theorem w_notF {f : TFn} {Q : Bool → Store → Prop} : (tNotF f env S).wp Q X = (f env S).wp (fun b S1 => Q (!b) S1) X := by
  simp only [wpE, vpE]
  exact w0_notF
theorem w_andF {f g : TFn} {Q : Bool → Store → Prop} : (tAndF f g env S).wp Q X = (f env S).wp (fun b S1 => (if b then g env S1 else .ok false S1).wp Q X) X := by
  simp only [wpE, vpE]
  exact w0_andF
theorem w_orF {f g : TFn} {Q : Bool → Store → Prop} : (tOrF f g env S).wp Q X = (f env S).wp (fun b S1 => (if b then .ok true S1 else g env S1).wp Q X) X := by
  simp only [wpE, vpE]
  exact w0_orF
theorem w_and {f g : EF} : (eAnd f g env S).wp Q X = (eBool f env S).wp (fun b S1 => (if b then g env S1 else .ok (.bl false) S1).wp Q X) X := by
  simp only [wpE, vpE]
  exact w0_and
theorem w_or {f g : EF} : (eOr f g env S).wp Q X = (eBool f env S).wp (fun b S1 => (if b then .ok (.bl true) S1 else g env S1).wp Q X) X := by
  simp only [wpE, vpE]
  exact w0_or
theorem w_not {f : EF} : (eNot f env S).wp Q X = (eBool f env S).wp (fun b S1 => Q (.bl (!b)) S1) X := by
  simp only [wpE, vpE]
  exact w0_not
theorem w_if {t : TFn} {f g : EF} : (eIf t f g env S).wp Q X = (t env S).wp (fun b S1 => (if b then f env S1 else g env S1).wp Q X) X := by
  simp only [wpE, vpE]
  exact w0_if
theorem w_neg {f : EF} : (eNeg f env S).wp Q X = (f env S).wp (fun x S1 => match x with | .int i => Q (.int (-i)) S1 | _ => False) X := by
  simp only [wpE, vpE]
  exact w0_neg
theorem w_star {f : EF} {g : AF} {Q : List Val → Store → Prop} : (aStar f g env S).wp Q X = (f env S).wp (fun x S1 => match seqOf S1 x with | some ys => (g env S1).wp (fun xs S2 => Q (ys ++ xs) S2) X | none => False) X := by
  simp only [wpE, vpE]
  exact w0_star
theorem w_aSeq {f : EF} {Q : List Val → Store → Prop} : (aSeq f env S).wp Q X = (f env S).wp (fun x S1 => match seqOf S1 x with | some ys => Q ys S1 | none => False) X := by
  simp only [wpE, vpE]
  exact w0_aSeq
theorem w_fld {f : Str} {o : EF} : (eFld f o env S).wp Q X = (o env S).wp (fun x S1 => match insOf S1 x with | some (_, fs) => (match fs.lookup f with | some v => Q v S1 | none => False) | none => False) X := by
  simp only [wpE, vpE]
  exact w0_fld
theorem w_frz {f : EF} : (eFrz f env S).wp Q X = (f env S).wp (fun x S1 => (frzV x S1).wp Q X) X := by
  simp only [wpE, vpE]
  exact w0_frz
theorem w_chain {o1 o2 : Val → Val → Store → Res Val} {fa fb fc : EF} : (eChain o1 o2 fa fb fc env S).wp Q X = (fa env S).wp (fun x S1 => (fb env S1).wp (fun y S2 => (o1 x y S2).wp (fun z S3 => match z with
    | .bl true => (fc env S3).wp (fun w S4 => (o2 y w S4).wp Q X) X | .bl false => Q (.bl false) S3 | _ => False) X) X) X := by
  simp only [wpE, vpE]
  exact w0_chain
theorem w_m1 {f : MF} {o a : EF} : (eM1 f o a env S).wp Q X = (o env S).wp (fun x S1 => match x with | .str _ => (a env S1).wp (fun y S2 => (f x [y] S2).wp Q X) X | _ => False) X := by
  simp only [wpE, vpE]
  exact w0_m1
theorem w_bm {f : MF} {o : EF} {a : AF} : (eBM f o a env S).wp Q X = (o env S).wp (fun x S1 => match lstOf S1 x with | some _ => (a env S1).wp (fun xs S2 => (f x xs S2).wp Q X) X | none => False) X := by
  simp only [wpE, vpE]
  exact w0_bm
theorem w_iSeq {f : EF} {Q : List Val → Store → Prop} : (iSeq f env S).wp Q X = (f env S).wp (fun x S1 => match itmF S1 x with | some xs => Q xs S1 | none => False) X := by
  simp only [wpE, vpE]
  exact w0_iSeq
theorem w_rg1 {a : AF} {Q : List Val → Store → Prop} : (iRg1 a env S).wp Q X = (a env S).wp (fun xs S1 => (rg1F xs S1).wp Q X) X := by
  simp only [wpE, vpE]
  exact w0_rg1
theorem w_rg2 {a : AF} {Q : List Val → Store → Prop} : (iRg2 a env S).wp Q X = (a env S).wp (fun xs S1 => (rg2F xs S1).wp Q X) X := by
  simp only [wpE, vpE]
  exact w0_rg2
theorem w_isi {t : TK → Bool} {f : EF} : (eIsi t f env S).wp Q X = (f env S).wp (fun x S1 => match tyK S1 x with | some k => Q (.bl (t k)) S1 | none => False) X := by
  simp only [wpE, vpE]
  exact w0_isi
theorem w_wget {tab : List (Str × Val)} {f : EF} : (eWGet tab f env S).wp Q X = (f env S).wp (fun x S1 => match x with | .str z => Q ((tab.lookup z).getD .non) S1 | _ => False) X := by
  simp only [wpE, vpE]
  exact w0_wget
theorem w_lc {c : Bool} {it : AF} {g : TF} {t : TFn} {f : EF} {vs : List Nat} : (eLc c it g t f vs env S).wp Q X = (it env S).wp (fun xs S1 => (lcGo g t f (wipeE env vs) xs [] S1).wp (fun ys S2 => (mkL c ys S2).wp Q X) X) X := by
  simp only [wpE, vpE]
  exact w0_lc
theorem w_cmet {c : Str} {f : BF} {n : Nat} {dv : List Val} {fo : EF} {a : AF} : (eCMet c f n dv fo a env S).wp Q X = (fo env S).wp (fun x S1 => match x with
    | .cls c' => if c' = c then (a env S1).wp (fun xs S2 => (if (x :: (xs ++ dv)).length = n then f (x :: (xs ++ dv)) S2 else .stuck).wp Q X) X else False | _ => False) X := by
  simp only [wpE, vpE]
  exact w0_cmet
theorem w_met {cs : List Str} {f : BF} {n : Nat} {dv : List Val} {m : Str} {o : EF} {a : AF} : (eMet cs f n dv m o a env S).wp Q X = (o env S).wp (fun x S1 => match insOf S1 x with
    | some (c, fs) => if cs.contains c = true ∧ fs.lookup m = none then (a env S1).wp (fun xs S2 => (if (x :: (xs ++ dv)).length = n then f (x :: (xs ++ dv)) S2 else .stuck).wp Q X) X else False
    | none => False) X := by
  simp only [wpE, vpE]
  exact w0_met
theorem w_mak {c : Str} {keep : Bool} {f : BF} {n : Nat} {dv : List Val} {a : AF} : (eMak c keep f n dv a env S).wp Q X = (a env S).wp (fun xs S1 => (mak1 c keep f n dv xs S1).wp Q X) X := by
  simp only [wpE, vpE]
  exact w0_mak
theorem w_makL {i : Nat} {c : Str} {keep : Bool} {f : BF} {n : Nat} {dv : List Val} {a : AF} : (eMakL i c keep f n dv a env S).wp Q X = (eVar i env S).wp (fun v _ => match v with | .cls c' => if c' = c then (eMak c keep f n dv a env S).wp Q X else False | _ => False) X := by
  simp only [wpE, vpE]
  exact w0_makL
theorem w_mak1 {c : Str} {keep : Bool} {f : BF} {n : Nat} {dv xs : List Val} (hn : (xs ++ dv).length + 1 = n)
    (h : (f (.ref S.length :: (xs ++ dv)) (S ++ [(true, .ins c [])])).wp (fun v S2 => v = .non ∧ ((if keep then Res.ok (.ref S.length) S2 else frzV (.ref S.length) S2)).wp Q X) X) : (mak1 c keep f n dv xs S).wp Q X := ⟨w0_mak1 hn (by simpa only [wpE] using h)⟩
theorem w_jnil {acc : Str} : (jGo [] acc env S).wp Q X = Q (.str acc) S := by
  simp only [wpE, vpE]
  exact w0_jnil
theorem w_jcons {f : EF} {fs : List EF} {acc : Str} : (jGo (f :: fs) acc env S).wp Q X = (f env S).wp (fun x S1 => match x with | .str y => (acc ++ y).length ≤ sizeLine ∧ (jGo fs (acc ++ y) env S1).wp Q X | _ => False) X := by
  simp only [wpE, vpE]
  exact w0_jcons
theorem w_fmt {f : EF} : (eFmt f env S).wp Q X = (f env S).wp (fun x S1 => (fmtV x S1).wp Q X) X := by
  simp only [wpE, vpE]
  exact w0_fmt
theorem w_fmtR {f : EF} : (eFmtR f env S).wp Q X = (f env S).wp (fun x S1 => (fmtR x S1).wp Q X) X := by
  simp only [wpE, vpE]
  exact w0_fmtR
theorem w_sl {c : Bool} {f : EF} {lo hi : OF} : (eSl c f lo hi env S).wp Q X = (f env S).wp (fun x S1 => (lo env S1).wp (fun l S2 => (hi env S2).wp (fun h S3 => (vSl c x l h S3).wp Q X) X) X) X := by
  simp only [wpE, vpE]
  exact w0_sl
theorem w_oNone {Q : Option Int → Store → Prop} : (oNone env S).wp Q X = Q none S := by
  simp only [wpE, vpE]
  exact w0_oNone
theorem w_oSome {f : EF} {Q : Option Int → Store → Prop} : (oSome f env S).wp Q X = (f env S).wp (fun x S1 => match x with | .int i => Q (some i) S1 | _ => False) X := by
  simp only [wpE, vpE]
  exact w0_oSome
theorem w_d0 : (eD0 env S).wp Q X = Q (.ref S.length) (S ++ [(true, .dct [])]) := by
  simp only [wpE, vpE]
  exact w0_d0
theorem w_dget {fo fk : EF} : (eDGet fo fk env S).wp Q X = (fo env S).wp (fun x S1 => (fk env S1).wp (fun y S2 => match dctOf S2 x, y with
    | some kvs, .str k => (match valD k kvs with | some v => Q v S2 | none => False) | _, _ => False) X) X := by
  simp only [wpE, vpE]
  exact w0_dget
theorem w_walk {f : EF} {Q : List Val → Store → Prop} : (iWalk f env S).wp Q X = (f env S).wp (fun x S1 => match keysF S1 x with | some kvs => Q (kvs.map fun p => .str p.1) S1 | none => (match itmF S1 x with | some xs => Q xs S1 | none => False)) X := by
  simp only [wpE, vpE]
  exact w0_walk
theorem v_seq' {f g : SF} : (sSeq f g env S).wp N R X B C = (f env S).wp (fun e S => (g e S).wp N R X B C) R X B C := by
  simp only [wpE, vpE]
  exact v0_seq'
theorem v_nx' : (sNx env S).wp N R X B C = N env S := by
  simp only [wpE, vpE]
  exact v0_nx'
theorem v_exp {f : EF} : (sExp f env S).wp N R X B C = (f env S).wp (fun _ S1 => N env S1) X := by
  simp only [wpE, vpE]
  exact v0_exp
theorem v_ret' {f : EF} : (sRet f env S).wp N R X B C = (f env S).wp R X := by
  simp only [wpE, vpE]
  exact v0_ret'
theorem v_retN : (sRetN env S).wp N R X B C = R .non S := by
  simp only [wpE, vpE]
  exact v0_retN
theorem v_if {t : TFn} {f g : SF} : (sIf t f g env S).wp N R X B C = (t env S).wp (fun b S1 => (if b then f env S1 else g env S1).wp N R X B C) X := by
  simp only [wpE, vpE]
  exact v0_if
theorem v_set {i : Nat} {f : EF} : (sSet i f env S).wp N R X B C = (f env S).wp (fun x S1 => N (env.set i (some x)) S1) X := by
  simp only [wpE, vpE]
  exact v0_set
theorem v_raise {c f : Str} {fe : EF} : (sRaise c f fe env S).wp N R X B C = (fe env S).wp (fun x S1 => X c [(f, x)] S1) X := by
  simp only [wpE, vpE]
  exact v0_raise
theorem v_asg {f : EF} {g : TF} : (sAsg f g env S).wp N R X B C = (f env S).wp (fun x S1 => (g x env S1).wp (fun e S2 => N e S2) X) X := by
  simp only [wpE, vpE]
  exact v0_asg
theorem v_par {i j : Nat} {g : AF} : (sPar i j g env S).wp N R X B C = (g env S).wp (fun xs S1 => match xs with | [x, y] => N ((env.set i (some x)).set j (some y)) S1 | _ => False) X := by
  simp only [wpE, vpE]
  exact v0_par
theorem v_for {it : AF} {g : TF} {b : SF} : (sFor it g b env S).wp N R X B C = (it env S).wp (fun xs S1 => (forGo g b xs env S1).wp N R X B C) X := by
  simp only [wpE, vpE]
  exact v0_for
theorem v_fld {f : Str} {fo fe : EF} : (Fl.sFld f fo fe env S).wp N R X B C = (fe env S).wp (fun y S1 => (fo env S1).wp (fun x S2 => (putAt f none x y env S2).wp N R X B C) X) X := by
  simp only [wpE, vpE]
  exact v0_fld
theorem v_dput {fo fk fv : EF} : (Fl.sDPut fo fk fv env S).wp N R X B C = (fv env S).wp (fun v S1 => (fo env S1).wp (fun x S2 => (fk env S2).wp (fun y S3 => match x, y with
    | .ref i, .str k => (match S3[i]? with | some (true, .dct kvs) => kvs.length < sizeLine ∧ N env (S3.set i (true, .dct (putD k v kvs))) | _ => False) | _, _ => False) X) X) X := by
  simp only [wpE, vpE]
  exact v0_dput
theorem t_name {i : Nat} {x : Val} {Q : Env → Store → Prop} : (tgName i x env S).wp Q X = Q (env.set i (some x)) S := by
  simp only [wpE, vpE]
  exact t0_name
theorem t_tup {n : Nat} {g : List Val → Env → Store → Option Env} {x : Val} {Q : Env → Store → Prop} : (tgTup n g x env S).wp Q X = (match seqOf S x with
    | some xs => xs.length = n ∧ (match g xs env S with | some e => Q e S | none => False) | none => False) := by
  simp only [wpE, vpE]
  exact t0_tup
theorem t_ix {fo fi : EF} {v : Val} {Q : Env → Store → Prop} : (tgIx fo fi v env S).wp Q X = (fo env S).wp (fun x S1 => (fi env S1).wp (fun y S2 => match x, y with
    | .ref i, .int k => (match S2[i]? with | some (true, .lst xs) => (match L2.ixN xs.length k with | some j => Q env (S2.set i (true, .lst (xs.set j v))) | none => False) | _ => False) | _, _ => False) X) X := by
  simp only [wpE, vpE]
  exact t0_ix
theorem v_forGo {I : List Val → Env → Store → Prop} {g : TF} {b : SF} (step : ∀ x rest env S, I (x :: rest) env S → (g x env S).wp (fun e1 S1 => (b e1 S1).wp (I rest) R X N (I rest)) X) (fin : ∀ env S, I [] env S → N env S) :
    ∀ {xs : List Val} {env : Env} {S : Store}, I xs env S → (forGo g b xs env S).wp N R X B C := fun h => by
  have s2 : ∀ x rest env S, I (x :: rest) env S → (g x env S).wp0 (fun e1 S1 => (b e1 S1).wp0 (I rest) R X N (I rest)) X := fun x rest env S h => by
    have := step x rest env S h
    simpa only [wpE, vpE] using this
  exact ⟨v0_forGo s2 fin h⟩
theorem w_lcGo {I : List Val → List Val → Store → Prop} {g : TF} {t : TFn} {f : EF} {env0 : Env} {Q : List Val → Store → Prop}
    (step : ∀ x rest acc S, I (x :: rest) acc S → ∃ e1 S1, g x env0 S = .ok e1 S1 ∧ ∃ b S2, t e1 S1 = .ok b S2 ∧ if b then ∃ y S3, f e1 S2 = .ok y S3 ∧ acc.length < sizeLine ∧ I rest (acc ++ [y]) S3 else I rest acc S2) (fin : ∀ acc S, I [] acc S → Q acc S) :
    ∀ {xs acc : List Val} {S : Store}, I xs acc S → (lcGo g t f env0 xs acc S).wp Q X := fun h => ⟨w0_lcGo step fin h⟩
end

end Fl
/-! What a function of the layer does: try, errors in a suite, enumerate. -/
namespace Fl
open PySem PySem.Spec L2
section
variable {α β : Type} {Q Q' : α → Store → Prop} {X X' : XP} {r : Res α} {env : Env} {S : Store} {N N' : Env → Store → Prop} {R R' : Val → Store → Prop} {B C B' C' : Env → Store → Prop}
theorem v_ifm {p : Prop} [Decidable p] {a b : ResS} : (if p then a else b).wp N R X B C = if p then a.wp N R X B C else b.wp N R X B C := by split <;> rfl
theorem v_tryE {f : EF} {h : HF} : (sTry (sExp f) h env S).wp N R X B C = (f env S).wp (fun _ S1 => N env S1) (fun c fs S1 => (h c fs env S1).wp N R X B C) := by
  simp only [wpE, vpE]
  unfold sTry sExp
  cases e : f env S <;> rfl
theorem v_tryS {i : Nat} {f : EF} {h : HF} : (sTry (sSet i f) h env S).wp N R X B C = (f env S).wp (fun x S1 => N (env.set i (some x)) S1) (fun c fs S1 => (h c fs env S1).wp N R X B C) := by
  simp only [wpE, vpE]
  unfold sTry sSet
  cases e : f env S <;> rfl
theorem v_tryR {f : EF} {h : HF} : (sTry (sRet f) h env S).wp N R X B C = (f env S).wp R (fun c fs S1 => (h c fs env S1).wp N R X B C) := by
  simp only [wpE, vpE]
  unfold sTry sRet
  cases e : f env S <;> rfl
theorem v_trySq {i : Nat} {f : EF} {g : SF} {h : HF} : (sTry (sSeq (sSet i f) g) h env S).wp N R X B C = (f env S).wp (fun x S1 => (sTry g h (env.set i (some x)) S1).wp N R X B C) (fun c fs S1 => (h c fs env S1).wp N R X B C) := by
  simp only [wpE, vpE]
  unfold sTry sSeq sSet
  cases e : f env S <;> rfl
theorem v_tryEq {f : EF} {g : SF} {h : HF} : (sTry (sSeq (sExp f) g) h env S).wp N R X B C = (f env S).wp (fun _ S1 => (sTry g h env S1).wp N R X B C) (fun c fs S1 => (h c fs env S1).wp N R X B C) := by
  simp only [wpE, vpE]
  unfold sTry sSeq sExp
  cases e : f env S <;> rfl
theorem v_hnil {c : Str} {fs : List (Str × Val)} : (hNil c fs env S).wp N R X B C = X c fs S := by
  simp only [vpE]; rfl
theorem v_hcons {t : Str → Bool} {i : Nat} {h r : HF} {c : Str} {fs : List (Str × Val)} : (hCons t i h r c fs env S).wp N R X B C = if t c then (h c fs (env.set i none) S).wp (fun e S1 => N (e.set i none) S1) R (fun _ _ _ => False) (fun e S1 => B (e.set i none) S1) (fun e S1 => C (e.set i none) S1) else (r c fs env S).wp N R X B C := by
  simp only [vpE]
  unfold hCons
  by_cases z : t c = true
  · rw [if_pos z, if_pos z]
    cases e : h c fs (env.set i none) S <;> rfl
  · rw [if_neg z, if_neg z]
theorem w_isx {i : Nat} {t : Str → Bool} {c : Str} {fs : List (Str × Val)} {Q : Val → Store → Prop} : (eIsX i t c fs env S).wp Q X = match env[i]? with | some none => if fs.isEmpty then False else Q (.bl (t c)) S | _ => False := by
  simp only [wpE]
  unfold eIsX
  cases e : env[i]? with
  | none => rfl
  | some o =>
    cases o with
    | none => cases fs <;> rfl
    | some v => rfl
theorem w_xf {i : Nat} {f : Str} {fs : List (Str × Val)} {Q : Val → Store → Prop} : (eXf i f fs env S).wp Q X = match env[i]? with | some none => (match fs.lookup f with | some v => Q v S | none => False) | _ => False := by
  simp only [wpE]
  unfold eXf
  cases e : env[i]? with
  | none => rfl
  | some o =>
    cases o with
    | none =>
      dsimp only
      cases List.lookup f fs <;> rfl
    | some v => rfl
def enuL : List Val → Option (List Val)
  | [.tup ys] => some (enuV ys)
  | [.lst ys] => some (enuV ys)
  | [.wls ys] => some (enuV ys)
  | _ => none
theorem w_enu {a : AF} {Q : List Val → Store → Prop} : (iEnuA a env S).wp Q X = (a env S).wp (fun xs S1 => match enuL xs with | some ys => Q ys S1 | none => False) X := by
  simp only [wpE]
  unfold iEnuA
  rw [w0_bind]
  congr 1
  funext xs S1
  cases xs with
  | nil => rfl
  | cons x r =>
    cases r with
    | nil => cases x <;> rfl
    | cons y r => cases x <;> rfl
theorem v_forN {g : TF} {b : SF} : (forGo g b [] env S).wp N R X B C = N env S := by
  simp only [vpE]; rfl
theorem v_forC {g : TF} {b : SF} {x : Val} {xs : List Val} : (forGo g b (x :: xs) env S).wp N R X B C = (g x env S).wp (fun e S1 => (b e S1).wp (fun e2 S2 => (forGo g b xs e2 S2).wp N R X B C) R X N (fun e2 S2 => (forGo g b xs e2 S2).wp N R X B C)) X := by
  simp only [wpE, vpE]
  rw [forGo]
  cases g x env S with
  | stuck => rfl
  | exc c fs S1 => rfl
  | ok e1 S1 =>
    show (match b e1 S1 with | .nx env2 S2 => forGo g b xs env2 S2 | .cnt env2 S2 => forGo g b xs env2 S2 | .brk env2 S2 => ResS.nx env2 S2 | r => r).wp0 N R X B C = _
    cases e : b e1 S1 <;> simp only [Res.wp0, ResS.wp0, e]
theorem Res.wp_eq2 {α : Type} {r : Res α} {v : α} {S1 : Store} (h : r.wp (fun a S2 => a = v ∧ S2 = S1) (fun _ _ _ => False)) : r = .ok v S1 := by
  cases r with
  | ok a S2 => obtain ⟨rfl, rfl⟩ := h.run; rfl
  | exc c fs S2 => exact h.run.elim
  | stuck => exact h.run.elim
theorem Res.wp_ex {α : Type} {r : Res α} {c : Str} {fs : List (Str × Val)} {S1 : Store} (h : r.wp (fun _ _ => False) (fun c' fs' S2 => c' = c ∧ fs' = fs ∧ S2 = S1)) : r = .exc c fs S1 := by
  cases r with
  | ok a S2 => exact h.run.elim
  | exc c' fs' S2 => obtain ⟨rfl, rfl, rfl⟩ := h.run; rfl
  | stuck => exact h.run.elim
end
end Fl
/-! What the operators do on values of a known kind. -/
namespace Fl
open PySem PySem.Spec L2
open PyProof.Rows hiding St
section
variable {S : Store} {i j : Int} {a b : Str} {x y : Val} {xs ys : List Val} {Q : Val → Store → Prop} {X : XP}
theorem lt_ii : vLt (.int i) (.int j) S = .ok (.bl (decide (i < j))) S := id rfl
theorem le_ii : vLe (.int i) (.int j) S = .ok (.bl (decide (i ≤ j))) S := id rfl
theorem gt_ii : vGt (.int i) (.int j) S = .ok (.bl (decide (j < i))) S := id rfl
theorem ge_ii : vGe (.int i) (.int j) S = .ok (.bl (decide (j ≤ i))) S := id rfl
theorem add_ii : vAdd (.int i) (.int j) S = .ok (.int (i + j)) S := id rfl
theorem sub_ii : vSub (.int i) (.int j) S = .ok (.int (i - j)) S := id rfl
theorem mod_ii (h : 0 < j) : vMod (.int i) (.int j) S = .ok (.int (i % j)) S := by show (if decide (0 < j) = true then _ else _) = _; rw [if_pos (decide_eq_true h)]
theorem fdiv_ii (h : 0 < j) (h2 : j < 1073741824) : vFdiv (.int i) (.int j) S = .ok (.int (i / j)) S := by show (if decide (0 < j ∧ j < 1073741824) = true then _ else _) = _; rw [if_pos (decide_eq_true ⟨h, h2⟩)]
theorem mul_il (h : -(2 ^ 64) < i ∧ i < 2 ^ 64) : vMul (.int i) (.int j) S = .ok (.int (i * j)) S := by unfold vMul; exact if_pos (.inl h)
theorem mul_ir (h : -(2 ^ 64) < j ∧ j < 2 ^ 64) : vMul (.int i) (.int j) S = .ok (.int (i * j)) S := by unfold vMul; exact if_pos (.inr h)
theorem int_i : bInt [.int i] S = .ok (.int i) S := id rfl
theorem abs_i : bAbs [.int i] S = .ok (.int (if i < 0 then -i else i)) S := id rfl
theorem len_s (h : a.length ≤ sizeLine) : bLenA [.str a] S = .ok (.int a.length) S := if_pos h
theorem len_l : bLenA [.lst xs] S = .ok (.int xs.length) S := id rfl
theorem len_w : bLenA [.wls xs] S = .ok (.int xs.length) S := id rfl
theorem len_t : bLenA [.tup xs] S = .ok (.int xs.length) S := id rfl
theorem len_rl {k : Nat} {c : Bool} (h : S[k]? = some (c, .lst xs)) : bLenA [.ref k] S = .ok (.int xs.length) S := by
  simp only [bLenA, dctL, h, bLen, seqOf, lstOf, lstX]
theorem len_rd {k : Nat} {c : Bool} {kvs : List (Str × Val)} (h : S[k]? = some (c, .dct kvs)) : bLenA [.ref k] S = .ok (.int kvs.length) S := by
  simp only [bLenA, dctL, h]
theorem eq_ss (ha : SeqAt.shaped (.str a) = true) (hb : SeqAt.shaped (.str b) = true) : vEq (.str a) (.str b) S = .ok (.bl (a == b)) S := by
  show (if (SeqAt.shaped (.str a) && SeqAt.shaped (.str b)) = true then _ else _) = _
  rw [ha, hb]; rfl
theorem ne_ss (ha : SeqAt.shaped (.str a) = true) (hb : SeqAt.shaped (.str b) = true) : vNe (.str a) (.str b) S = .ok (.bl (!(a == b))) S := by
  show (if (SeqAt.shaped (.str a) && SeqAt.shaped (.str b)) = true then _ else _) = _
  rw [ha, hb]; rfl
theorem shaped_i : SeqAt.shaped (.int i) = true := id rfl
theorem eq_ii : vEq (.int i) (.int j) S = .ok (.bl (i == j)) S := id rfl
theorem ne_ii : vNe (.int i) (.int j) S = .ok (.bl (!(i == j))) S := id rfl
theorem eq_bb {p q : Bool} : vEq (.bl p) (.bl q) S = .ok (.bl (p == q)) S := id rfl
theorem ne_bb {p q : Bool} : vNe (.bl p) (.bl q) S = .ok (.bl (!(p == q))) S := id rfl
theorem ix_l {v : Val} (h : L2.atI xs i = some v) : vIx (.lst xs) (.int i) S = .ok v S := by simp only [vIx, seqOf, lstOf, lstX, h]
theorem ix_t {v : Val} (h : L2.atI xs i = some v) : vIx (.tup xs) (.int i) S = .ok v S := by simp only [vIx, seqOf, h]
theorem ix_w {v : Val} (h : L2.atI xs i = some v) : vIx (.wls xs) (.int i) S = .ok v S := by simp only [vIx, seqOf, lstOf, h]
theorem ix_r {k : Nat} {c : Bool} {v : Val} (hs : S[k]? = some (c, .lst xs)) (h : L2.atI xs i = some v) : vIx (.ref k) (.int i) S = .ok v S := by
  simp only [vIx, seqOf, lstOf, lstX, hs, h]
theorem atI_nat {α : Type} {l : List α} {n : Nat} (h : n < l.length) : L2.atI l (n : Int) = some l[n] := by
  unfold L2.atI L2.ixN
  have h1 : (0 : Int) ≤ (n : Int) := Int.natCast_nonneg n
  have h2 : (n : Int) < (l.length : Int) := by omega
  simp [h1, h2, h]
theorem atI_of {α : Type} {l : List α} {k : Int} (h0 : 0 ≤ k) (h : k < l.length) : ∃ x ∈ l, L2.atI l k = some x := by
  obtain ⟨n, rfl⟩ := Int.eq_ofNat_of_zero_le h0
  have hn : n < l.length := by omega
  exact ⟨l[n], List.getElem_mem hn, atI_nat hn⟩
theorem append_r {k : Nat} {v : Val} (h : S[k]? = some (true, .lst xs)) (hl : xs.length < sizeLine) : mAppend (.ref k) [v] S = .ok .non (S.set k (true, .lst (xs ++ [v]))) := by
  simp only [mAppend, h, hl, if_true]
theorem pop_r {k : Nat} {r : Nat} (h : S[k]? = some (true, .lst xs)) (hl : r < xs.length) (hx : xs.length ≤ 1000000) : mPopAt (.ref k) [.int r] S = .ok xs[r] (S.set k (true, .lst (xs.eraseIdx r))) := by
  have e : L2.ixN xs.length (r : Int) = some r := by
    unfold L2.ixN
    have h1 : (0 : Int) ≤ (r : Int) := Int.natCast_nonneg r
    have h2 : (r : Int) < (xs.length : Int) := by omega
    simp [h1, h2]
  have hs := (L2.ixN_seq e).1
  unfold mPopAt
  simp only [h]
  rw [if_pos ⟨by omega, by omega⟩]
  simp only [hs, List.getElem?_eq_getElem hl]
theorem add_ll (h : xs.length + ys.length ≤ 16777216) : vAdd (.lst xs) (.lst ys) S = .ok (.lst (xs ++ ys)) S := by
  simp only [vAdd, lstX]
  rw [if_pos (by rw [sizeLine_eq]; exact h)]
theorem add_ss (h : a.length + b.length ≤ 16777216) : vAdd (.str a) (.str b) S = .ok (.str (a ++ b)) S := by
  simp only [vAdd]
  rw [if_pos (by rw [sizeLine_eq]; exact h)]
theorem put_r {k : Nat} {f c : Str} {y : Val} {fs : List (Str × Val)} {env : Env} (h : S[k]? = some (true, .ins c fs)) (hl : fs.length < 1000) : putAt f none (.ref k) y env S = .nx env (S.set k (true, .ins c (putV f y fs))) := by
  simp only [putAt, h]
  rw [if_pos ⟨hl, .inl trivial⟩]
end
end Fl
/-! Texts: joined and split. -/
namespace Fl
open PySem PySem.Spec L2
open PyProof.Rows hiding St

theorem cut_inj {c : Nat} : ∀ {a b r s : List Nat}, c ∉ a → c ∉ b → a ++ c :: r = b ++ c :: s → a = b ∧ r = s
  | [], [], _, _, _, _, e => ⟨rfl, by simpa using e⟩
  | [], y :: b, _, _, _, hb, e => by
    have := (List.cons.inj e).1
    subst this
    exact absurd List.mem_cons_self hb
  | x :: a, [], _, _, ha, _, e => by
    have := (List.cons.inj e).1
    subst this
    exact absurd List.mem_cons_self ha
  | x :: a, y :: b, r, s, ha, hb, e => by
    have e1 := (List.cons.inj e).1
    have e2 := (List.cons.inj e).2
    subst e1
    obtain ⟨rfl, h⟩ := cut_inj (fun h => ha (List.mem_cons_of_mem _ h)) (fun h => hb (List.mem_cons_of_mem _ h)) e2
    exact ⟨rfl, h⟩
theorem join_cps {c : Nat} {x y : Str} {r : List Str} : (Str.join ⟨#[c]⟩ (x :: y :: r)).cps.toList = x.cps.toList ++ c :: (Str.join ⟨#[c]⟩ (y :: r)).cps.toList := by
  show (x ++ (⟨#[c]⟩ : Str) ++ Str.join ⟨#[c]⟩ (y :: r)).cps.toList = _
  simp [Str.cps_append]
theorem join_inj {c : Nat} : ∀ {xs ys : List Str}, xs ≠ [] → ys ≠ [] → (∀ x ∈ xs, c ∉ x.cps.toList) → (∀ x ∈ ys, c ∉ x.cps.toList) → (Str.join ⟨#[c]⟩ xs).cps.toList = (Str.join ⟨#[c]⟩ ys).cps.toList → xs = ys
  | [], _, h, _, _, _, _ => absurd rfl h
  | _ :: _, [], _, h, _, _, _ => absurd rfl h
  | [x], [y], _, _, _, _, e => by
    have : x.cps.toList = y.cps.toList := e
    rw [Str.ext' (Array.toList_inj.mp this)]
  | [x], y :: z :: r, _, _, hx, _, e => by
    rw [join_cps] at e
    have e : x.cps.toList = _ := e
    have := hx x List.mem_cons_self
    rw [e] at this
    exact absurd (by simp) this
  | x :: z :: r, [y], _, _, _, hy, e => by
    rw [join_cps] at e
    have e : _ = y.cps.toList := e
    have := hy y List.mem_cons_self
    rw [← e] at this
    exact absurd (by simp) this
  | x :: z :: r, y :: w :: s, _, _, hx, hy, e => by
    rw [join_cps, join_cps] at e
    obtain ⟨e1, e2⟩ := cut_inj (hx x List.mem_cons_self) (hy y List.mem_cons_self) e
    have := join_inj (c := c) (List.cons_ne_nil _ _) (List.cons_ne_nil _ _) (fun a h => hx a (List.mem_cons_of_mem _ h)) (fun a h => hy a (List.mem_cons_of_mem _ h)) e2
    rw [Str.ext' (Array.toList_inj.mp e1), this]
theorem split_ne (x y : Str) : Txt.split x y ≠ [] := by
  unfold Txt.split
  split
  · exact List.cons_ne_nil _ _
  · split
    · exact List.cons_ne_nil _ _
    · rw [StrLaws.partsBetween_eq]
      obtain ⟨p, r, e⟩ := StrLaws.partsFrom_ne x y.length 0 (Builtin.Str.occurrences x y 0 x.length (x.length + 1))
      rw [e]
      exact List.cons_ne_nil _ _
theorem split_join {c : Nat} {xs : List Str} (h0 : xs ≠ []) (h : ∀ x ∈ xs, c ∉ x.cps.toList) : Txt.split (Txt.join ⟨#[c]⟩ xs) ⟨#[c]⟩ = xs := by
  refine join_inj (c := c) (split_ne _ _) h0 (StrLaws.split_free _ c) h ?_
  rw [StrLaws.join_split]
  show (Builtin.Str.glued _ _).cps.toList = _
  rw [StrLaws.glued_eq_join]
/-- a comprehension that changes nothing, over the images of some things -/
theorem lc_map2 {α : Type} {g : TF} {f : EF} {env0 : Env} {S : Store} {h k : α → Val} : ∀ {l : List α} {acc : List Val}, (∀ a ∈ l, ∃ e1, g (h a) env0 S = .ok e1 S ∧ f e1 S = .ok (k a) S) → acc.length + l.length ≤ sizeLine → lcGo g tTrue f env0 (l.map h) acc S = .ok (acc ++ l.map k) S
  | [], acc, _, _ => by simp [lcGo]
  | x :: xs, acc, hx, hl => by
    obtain ⟨e1, h1, h2⟩ := hx x List.mem_cons_self
    rw [List.map_cons]
    unfold lcGo
    rw [h1]
    dsimp only [tTrue]
    rw [h2]
    dsimp only
    rw [List.length_cons] at hl
    rw [if_pos (by omega), lc_map2 (fun y hy => hx y (List.mem_cons_of_mem _ hy)) (by rw [List.length_append]; simp; omega)]
    simp
end Fl
/-! sorted(set of texts) -/
namespace Fl
section
open PySem PySem.Spec L2
open PyProof.Rows hiding St
theorem isort_map {α β : Type} {le : β → β → Bool} {f : α → β} : ∀ l : List α, isort le (l.map f) = (isort (fun a b => le (f a) (f b)) l).map f
  | [] => rfl
  | x :: xs => by
    have ins : ∀ (x : α) (l : List α), insL le (f x) (l.map f) = (insL (fun a b => le (f a) (f b)) x l).map f := fun x l => by
      induction l with
      | nil => rfl
      | cons y ys ih =>
        simp only [List.map_cons, insL]
        split
        · rfl
        · rw [List.map_cons, ih]
    rw [List.map_cons]
    show insL le (f x) (isort le (xs.map f)) = _
    rw [isort_map xs, ins]
    rfl
theorem isort_perm {α : Type} {le : α → α → Bool} : ∀ l : List α, (isort le l).Perm l
  | [] => .nil
  | x :: xs => by
    have ins : ∀ (x : α) (l : List α), (insL le x l).Perm (x :: l) := fun x l => by
      induction l with
      | nil => exact .refl _
      | cons y ys ih =>
        unfold insL
        split
        · exact .refl _
        · exact (ih.cons y).trans (.swap x y ys)
    exact (ins x _).trans ((isort_perm xs).cons x)
theorem sorted_one {α : Type} {le : α → α → Bool} : ∀ {l m : List α}, (∀ a ∈ l, ∀ b ∈ l, le a b = true → le b a = true → a = b) → l.Perm m → l.Pairwise (fun a b => le a b = true) → m.Pairwise (fun a b => le a b = true) → l = m
  | [], m, _, p, _, _ => (List.Perm.nil_eq p)
  | x :: l, [], _, p, _, _ => absurd p.length_eq (by simp)
  | x :: l, y :: m, an, p, h1, h2 => by
    obtain ⟨a1, a2⟩ := List.pairwise_cons.mp h1
    obtain ⟨b1, b2⟩ := List.pairwise_cons.mp h2
    have e : x = y := by
      rcases List.mem_cons.mp (p.subset List.mem_cons_self : x ∈ y :: m) with e | hx
      · exact e
      · rcases List.mem_cons.mp (p.symm.subset List.mem_cons_self : y ∈ x :: l) with e | hy
        · exact e.symm
        · exact an x List.mem_cons_self y (List.mem_cons_of_mem _ hy) (a1 y hy) (b1 x hx)
    subst e
    rw [sorted_one (fun a ha b hb => an a (List.mem_cons_of_mem _ ha) b (List.mem_cons_of_mem _ hb)) p.cons_inv a2 b2]
def leS (p q : Str) : Bool := leV (.str p) (.str q)
def sortS (ks : List Str) : List Str := isort leS ks
theorem sortV_strs (ks : List Str) : sortV (ks.map Val.str) = (sortS ks).map Val.str := isort_map ks
theorem total_of {α : Type} {f : α → Val} : PySem.W.TotalLe fun a b => leV (f a) (f b) := ⟨fun a b c => leV_total.trans _ _ _, fun a b => leV_total.total _ _⟩
theorem leV_eq (x y : Val) : leV x y = !(lexLt itemOrd (PySem.W.keyToks (datV y)) (PySem.W.keyToks (datV x))) := rfl
theorem toks_str (p : Str) : PySem.W.keyToks (datV (.str p)) = [.inr p.cps.toList] := rfl
theorem str_ext {x y : Str} (h : x.cps.toList = y.cps.toList) : x = y := Str.ext' (Array.toList_inj.mp h)
theorem leS_anti {p q : Str} (h1 : leS p q = true) (h2 : leS q p = true) : p = q := by
  unfold leS at h1 h2
  rw [leV_eq, Bool.not_eq_true'] at h1 h2
  have e := lex_total _ _ h2 h1
  rw [toks_str, toks_str] at e
  simp only [List.cons.injEq, Sum.inr.injEq, and_true] at e
  exact str_ext e
theorem sortS_perm {xs ys : List Str} (h : xs.Perm ys) : sortS xs = sortS ys :=
  sorted_one (fun a _ b _ => leS_anti) ((isort_perm xs).trans (h.trans (isort_perm ys).symm)) (isort_sorted total_of xs) (isort_sorted total_of ys)
theorem sortS_merge {xs ys : List Str} (h : xs.Perm ys) : xs.mergeSort (PySem.W.dataLe false PyData.str) = sortS ys := by
  refine sorted_one (fun a _ b _ => leS_anti) ((List.mergeSort_perm _ _).trans (h.trans (isort_perm ys).symm)) ?_ (isort_sorted total_of ys)
  have tl : PySem.W.TotalLe (PySem.W.dataLe false PyData.str) := total_of (f := Val.str)
  exact List.pairwise_mergeSort tl.trans (fun a b => by rcases tl.total a b with q | q <;> simp [q]) xs
end
section
open PySem PySem.W PySem.Spec PySem.Calls PyProof.Rows
variable {P : Program} {w : World} {A : Around} {E : Value → Shared → Prop} {s : Shared}
theorem texts_each {h : Heap} : ∀ {es : List (Int × Value)} {ks : List Str}, (∀ e ∈ es, GdW P w e) → es.map kOf = ks.map Sum.inr →
    EachIs (fun (v : Value) (x : Str) => L2.RelV (.str x) v) (es.map (·.2)) ks ∧ EachIs (fun (v : Value) (x : Str) => ∃ as, Reads h v (PyData.str x) as) (es.map (·.2)) ks
  | [], [], _, _ => ⟨.nil, .nil⟩
  | e :: es, k :: ks, g, q => by
    rw [List.map_cons, List.map_cons] at q
    obtain ⟨q1, q2⟩ := List.cons.inj q
    obtain ⟨a, b⟩ := texts_each (h := h) (fun z hz => g z (List.mem_cons_of_mem _ hz)) q2
    have r := (g e List.mem_cons_self).1
    rw [q1] at r
    have r' : L2.RelV (.str k) e.2 := r
    obtain ⟨t, et⟩ := (show ∃ t, e.2 = Value.str k t from r')
    exact ⟨.cons r' a, .cons ⟨[], by show Reads h e.2 (PyData.str k) []; rw [et]; exact .str k t⟩ b⟩
theorem each_perm {α β : Type} {R : α → β → Prop} {xs zs : List α} (p : zs.Perm xs) : ∀ {ks : List β}, EachIs R xs ks → ∃ ls, ls.Perm ks ∧ EachIs R zs ls := by
  induction p with
  | nil => intro ks e; cases e; exact ⟨[], .refl _, .nil⟩
  | cons x p ih =>
    intro ks e
    cases e with
    | cons a r => obtain ⟨ls, h1, h2⟩ := ih r; exact ⟨_ :: ls, h1.cons _, .cons a h2⟩
  | swap x y l =>
    intro ks e
    cases e with
    | cons a r =>
      cases r with
      | cons b r => exact ⟨_, List.Perm.swap _ _ _, .cons b (.cons a r)⟩
  | trans p1 p2 ih1 ih2 =>
    intro ks e
    obtain ⟨ls, h1, h2⟩ := ih2 e
    obtain ⟨ms, g1, g2⟩ := ih1 h2
    exact ⟨ms, g1.trans h1, g2⟩
theorem sorted_texts {a : Addr} {xs : List Str} {Q : Value → Shared → Prop} (R : SetWR P w s.heap a (xs.map Sum.inr)) (hh : A.handled = none) (hu : A.units + 2 < cLine)
    (h : ∀ (s' : Shared) (p : Addr) (out : List Value) (c : Nat), (∀ b o, s.heap.get? b = some o → s'.heap.get? b = some o) → s'.gens = s.gens → s'.os = s.os → s.heap.objs.size ≤ p → s'.heap.get? p = some (seqObj "list" (List.toArray out) c) → EachIs (fun (v : Value) (x : Str) => L2.RelV (.str x) v) out (sortS xs) → Q (.ref p) s') :
    wpAny (model P w) A (call (.builtin "sorted") [.ref a]) Q E s := by
  have few := R.few
  rw [List.length_map] at few
  obtain ⟨o, es, ep, t, ho, hex, hd, g, pm, nd, hb, hf, hr, hl⟩ := R
  refine call_function_entry_kw kind_sorted plain_sorted entry_sorted (args_sorted1 _) ?_
  unfold Builtin.«sorted»
  refine wpAny_bind (m := checkCount "sorted" 1 1 _) (wpAny_pure ?_)
  refine wpAny_bind (L2.collect_set (A := A.in1) hh ⟨o, ho, hex.1, hd⟩ hf hb hr hl fun s1 vs k1 hz g1 o1 pmv => ?_)
  -- the members, in the order in which they came
  have inr : ∀ e ∈ es.toList, ∃ x, kOf e = Sum.inr x := fun e he => by
    have hm : kOf e ∈ xs.map Sum.inr := pm.mem_iff.mp (List.mem_map.mpr ⟨e, he, rfl⟩)
    obtain ⟨x, _, q⟩ := List.mem_map.mp hm
    exact ⟨x, q.symm⟩
  obtain ⟨ks, hks⟩ : ∃ ks : List Str, es.toList.map kOf = ks.map Sum.inr := by
    generalize es.toList = l at inr
    induction l with
    | nil => exact ⟨[], rfl⟩
    | cons e l ih =>
      obtain ⟨ks, q⟩ := ih fun z hz => inr z (List.mem_cons_of_mem _ hz)
      obtain ⟨x, qx⟩ := inr e List.mem_cons_self
      exact ⟨x :: ks, by rw [List.map_cons, List.map_cons, q, qx]⟩
  have pk : ks.Perm xs := by
    rw [hks] at pm
    have := pm.map (fun k : L2.Key => match k with | .inr x => x | .inl _ => Str.empty)
    rw [List.map_map, List.map_map] at this
    simpa [Function.comp_def] using this
  obtain ⟨e1, e2⟩ := texts_each (h := s1.heap) g hks
  obtain ⟨ls, q1, f1⟩ := each_perm pmv (R := fun (v : Value) (x : Str) => L2.RelV (.str x) v) e1
  have fr : ∀ (h0 : Heap) {us : List Value} {zs : List Str}, EachIs (fun (v : Value) (x : Str) => L2.RelV (.str x) v) us zs → EachIs (fun (v : Value) (x : Str) => ∃ as, Reads h0 v (PyData.str x) as) us zs := fun h0 us zs e =>
    e.mono fun v x r => by obtain ⟨t, et⟩ := (show ∃ t, v = Value.str x t from r); exact ⟨[], by rw [et]; exact .str x t⟩
  have lsx : ls.Perm xs := q1.trans pk
  have len : vs.length = xs.length := by rw [f1.length, lsx.length_eq]
  have hL : ls.length ≤ sizeLine := by
    have q : scanBound ≤ sizeLine := by decide
    rw [lsx.length_eq]; omega
  have hL2 : vs.length ≤ sizeLine := by rw [f1.length]; exact hL
  refine wpAny_bind (wpAny_newList ?_ (by simpa using hL2))
  have ha : (s1.heap.push (seqObj "list" vs.toArray 0)).get? s1.heap.objs.size = some (seqObj "list" vs.toArray 0) := Heap.get?_push_size _ rfl
  have alk : AllAlike (ls.map PyData.str) := alikeB_of (by simp [alikeB, PySem.W.alike])
  have srt : Sortable (ls.map PyData.str) := sortableB_of (by simp [sortableB])
  show wpAny (model P w) A.in1 _ _ _ { s1 with heap := s1.heap.push (seqObj "list" vs.toArray 0) }
  refine wpAny_bind (wpAny_holding (wpAny_call_entry_kw slot_list_sort ⟨_, ha, rfl⟩ entry_list_sort ?srt (args_list_sort _)))
  case srt =>
    show wpAny (model P w) A.in1.in1 (Builtin.«list.sort» ⟨[.ref s1.heap.objs.size], []⟩) _ _ _
    refine list_sort_vals (s := { s1 with heap := s1.heap.push (seqObj "list" vs.toArray 0) }) (κ := dataKind (sortingHeap (s1.heap.push (seqObj "list" vs.toArray 0)) s1.heap.objs.size vs) (ls.map PyData.str)) ha
      (SortsAt.data (s := { s1 with heap := sortingHeap (s1.heap.push (seqObj "list" vs.toArray 0)) s1.heap.objs.size vs }) (each_map (R := fun v d => ∃ as, Reads (sortingHeap (s1.heap.push (seqObj "list" vs.toArray 0)) s1.heap.objs.size vs) v d as) PyData.str (fr _ f1)) alk srt (bound_map fun b _ => by
        show A.units + 2 + 0 < cLine
        omega)) hL2 ?_
    refine ⟨_, rfl, wpAny_pure ⟨_, rfl, ?_⟩⟩
    obtain ⟨c, hc2⟩ := sortedHeap_at (out := (sortVals (dataKind (sortingHeap (s1.heap.push (seqObj "list" vs.toArray 0)) s1.heap.objs.size vs) (ls.map PyData.str)) false vs vs).toArray) ha
    have fin := sortVals_data (enc := PyData.str) false f1 (fr (sortingHeap (s1.heap.push (seqObj "list" vs.toArray 0)) s1.heap.objs.size vs) f1) alk
    rw [sortS_merge lsx] at fin
    refine h _ s1.heap.objs.size _ c (fun b o' q => ?_) g1 o1 hz hc2 fin
    have q := k1 b o' q
    have lt := Heap.lt_size q
    show (sortedHeap (s1.heap.push (seqObj "list" vs.toArray 0)) s1.heap.objs.size vs _).get? b = some o'
    rw [sortedHeap_old (Nat.ne_of_lt lt) (by rw [size_push']; exact Nat.lt_succ_of_lt lt)]
    exact Heap.get?_push_of_some _ q
end
section
open PySem PySem.Spec L2
open PyProof.Rows hiding St
variable {X : Cx} {ad : Ads} {W : WX} {pos p : Pos}
def rSortK (P : Program) (w : World) : List V → Hp → VK → Prop := fun vs H Q => ∃ D xs, vs = [V.ref D] ∧ H D = some (SetW P w D (xs.map Sum.inr)) ∧ ∀ q, H q = none → Q (.ref q) (upd H q (.lst ((sortS xs).map V.str)))
theorem vals_texts : ∀ {us : List Value} {xs : List Str}, PySem.W.EachIs (fun (v : Value) (x : Str) => L2.RelV (.str x) v) us xs → L2.Vals (xs.map V.str) us
  | _, _, .nil => .nil
  | _, _, .cons a b => .cons a (vals_texts b)
theorem cr_sortK (hc : X.calm = true) (hu : X.A.units + 64 < cLine) : CallR X (.builtin "sorted") (rSortK X.prog X.w) := by
  intro pins s σ H vs us Q I r h
  obtain ⟨D, xs, rfl, hD, q⟩ := h
  obtain ⟨u, rfl, rx⟩ := vals1 r
  cases rx
  have R := setW_get I hD
  have few := R.few
  rw [List.length_map] at few
  refine sorted_texts R (I.ok.hd hc) (by omega) fun s' p out c k g o hp hat e => ?_
  have hn : H p = none := I.hok.fresh hp
  have hL : ((sortS xs).map V.str).length ≤ sizeLine := by
    have q : scanBound ≤ sizeLine := by decide
    rw [List.length_map, show (sortS xs).length = xs.length from (isort_perm xs).length_eq]
    omega
  have J : Inv X pins σ (upd H p (.lst ((sortS xs).map V.str))) { s with heap := s'.heap, gens := s'.gens, drawn := s'.drawn, toks := s'.toks } :=
    I.call (ch := []) (Un.laid k hp hn) (I.hok.laid k hp ⟨hL, out, c, vals_texts e, hat⟩) (by rw [g]; exact I.bare) (fun _ z => nomatch z)
  have es : s' = { s with heap := s'.heap, gens := s'.gens, drawn := s'.drawn, toks := s'.toks } := by
    cases s'; cases s; cases o; rfl
  rw [es]
  exact ⟨.ref p, _, J, rfl, q p hn⟩
def txtsK : List Key → Option (List Str)
  | [] => some []
  | .inr x :: ks => (txtsK ks).map (x :: ·)
  | _ => none
theorem txtsK_of : ∀ {ks : List Key} {xs : List Str}, txtsK ks = some xs → ks = xs.map Sum.inr
  | [], xs, e => by cases e; rfl
  | .inr x :: ks, xs, e => by
    simp only [txtsK] at e
    cases q : txtsK ks with
    | none => rw [q] at e; cases e
    | some ys => rw [q] at e; cases e; rw [txtsK_of q]; rfl
  | .inl i :: ks, xs, e => by simp only [txtsK] at e; cases e
theorem txtsK_map : ∀ xs : List Str, txtsK (xs.map Sum.inr) = some xs
  | [] => rfl
  | x :: xs => by simp only [List.map_cons, txtsK, txtsK_map xs]; rfl
def eSortK (c : Bool) (fk : KF) : EF := fun env S => (fk env S).bind fun ks S1 => match txtsK ks with
  | some xs => mkL c ((sortS xs).map Val.str) S1
  | none => .stuck
theorem rps_texts {K : PySem.W.Frag} {F : Hp} {ρ : Rts} : ∀ xs : List Str, Rps K ad F ρ (xs.map Val.str) (xs.map V.str)
  | [] => .nil
  | x :: xs => .cons (.str _) (rps_texts xs)
theorem g_sortK {cpos : Pos} {e : Expr} {fk : KF} {c : Bool} (hc : X.calm = true) (hu : X.A.units + 64 < cLine) (h : GK X ad W e fk) (hg : Gl X "sorted") (hm : X.mg "sorted" = none) (hst : starEach [e] X.env = [(false, eval e X.env)] := by rfl) : GE X ad W (.Call (.Name "sorted" p) [e] [] cpos) (eSortK c fk) := by
  have st1 : starEach [e] X.env = (false, eval e X.env) :: starEach [] X.env := hst
  refine g_of (pe_callB (cr_sortK hc hu) hg hm (by rfl) (pa_cons h.run pa_nil st1) (he := st1) (hpl := rfl)) fun F ρ env S σ H Q rs q => ⟨F, ρ, env, S, rs, Aft.bind q fun F1 ρ1 S1 ks u H1 l1 rs1 rk q1 => ?_⟩
  obtain ⟨D, e, nd, hF⟩ := rk
  subst e
  split at q1
  · rename_i xs ex
    have ek := txtsK_of ex
    subst ek
    exact ⟨D, xs, rfl, rs1.s.sub _ _ hF, q1.lst rs1 (rps_texts _)⟩
  · exact q1.elim
end
end Fl
/-! {e for x in xs if .. for y in ys if ..} -/
namespace Fl
section
open PySem PySem.Spec PyProof.Rows L2
abbrev twoSc (elt a0 b0 a1 b1 : Expr) (q0 q1 : List Expr) (sc : Scope) (ps : Pos) : Expr := .SetComp elt [⟨a0, b0, q0, 0⟩, ⟨a1, b1, q1, 0⟩] sc ps
theorem turn_outer (elt a0 b0 a1 b1 : Expr) (q0 q1 : List Expr) (sc : Scope) (ps : Pos) (itr col : Value) (env : PySem.Env) : compTurn (twoSc elt a0 b0 a1 b1 q0 q1 sc ps) 0 itr col env = (do
      standAt b0.pos
      match ← pyNext itr with
      | none => pure (.done .next)
      | some u =>
        letOwnedTupleGo a0 itr u
        assign a0 env u
        let mut go := true
        for cnd in q0 do
          if go then go ← isTrue cnd env (eval cnd env)
        if go then
          let y ← eval b1 env
          standAt b1.pos
          let y ← foldedSetIterable b1 env y
          let _ ← runOwn (.compStart (twoSc elt a0 b0 a1 b1 q0 q1 sc ps) 1 (← holding [y] (pyIter y)) col env) env
        again (.compLoop (twoSc elt a0 b0 a1 b1 q0 q1 sc ps) 0 itr col env)) := by rfl
theorem turn_inner (elt a0 b0 a1 b1 : Expr) (q0 q1 : List Expr) (sc : Scope) (ps : Pos) (itr col : Value) (env : PySem.Env) : compTurn (twoSc elt a0 b0 a1 b1 q0 q1 sc ps) 1 itr col env = (do
      standAt b1.pos
      match ← pyNext itr with
      | none => pure (.done .next)
      | some u =>
        letOwnedTupleGo a1 itr u
        assign a1 env u
        let mut go := true
        for cnd in q1 do
          if go then go ← isTrue cnd env (eval cnd env)
        if go then
          (do let y ← eval elt env; standAt elt.pos; let _ ← call (.builtin "set.add") [col, y])
        again (.compLoop (twoSc elt a0 b0 a1 b1 q0 q1 sc ps) 1 itr col env)) := by rfl
section
variable {P : Program} {w : World} {A : Around} {R : Result → Shared → Prop} {s : Shared} {elt a0 b0 a1 b1 : Expr} {q0 q1 : List Expr} {sc : Scope} {ps : Pos} {itr col : Value} {env : PySem.Env}
abbrev nb (P : Program) (w : World) (A : Around) (R : Result → Shared → Prop) (env : PySem.Env) : Value → Shared → Prop := notedBy (model P w) A env fun e t => R (.error e) t
theorem loop_outer (fold : ∀ y, foldedSetIterable b1 env y = pure y) (I : Nat → Shared → Prop)
    (turn : ∀ n s, I n s → wpAny (model P w) A (pyNext itr) (fun r t1 => match r with
      | none => R (.ok .next) t1
      | some u => wpAny (model P w) A (letOwnedTupleGo a0 itr u) (fun _ t2 => wpAny (model P w) A (assign a0 env u) (fun _ t3 =>
          wpAny (model P w) A (forIn q0 true fun cnd r => if r = true then do let go ← isTrue cnd env (eval cnd env); pure (ForInStep.yield go) else pure (ForInStep.yield r)) (fun go t4 =>
            if go = true then wpAny (model P w) A (eval b1 env) (fun y t5 => wpAny (model P w) A (pyIter y) (fun it1 t6 => codeAny (model P w) A (.compStart (twoSc elt a0 b0 a1 b1 q0 q1 sc ps) 1 it1 col env) (fun r t => match r with
                | .ok _ => ∃ m, m < n ∧ I m t
                | .error _ => False) t6) (nb P w A R env) t5) (nb P w A R env) t4
            else ∃ m, m < n ∧ I m t4) (nb P w A R env) t3) (nb P w A R env) t2) (nb P w A R env) t1) (nb P w A R env) s)
    (n : Nat) (h : I n s) : codeAny (model P w) A (.compLoop (twoSc elt a0 b0 a1 b1 q0 q1 sc ps) 0 itr col env) R s := by
  refine codeAny_loop rfl I (fun n s inv => ?_) n h
  show wpAny _ A ((compTurn (twoSc elt a0 b0 a1 b1 q0 q1 sc ps) 0 itr col env).onRaise (fun x => do noteFrame x env; theTreesLotGoes x)) _ _ s
  refine wpAny_noted ?_
  rw [turn_outer]
  refine wpAny_bind (wpAny_standAt (wpAny_bind (wpAny_mono (turn n s inv) (fun r t1 k1 => ?_) fun _ _ z => z)))
  cases r with
  | none => exact wpAny_pure k1
  | some u =>
    refine wpAny_bind (wpAny_mono k1 (fun _ t2 k2 => wpAny_bind (wpAny_mono k2 (fun _ t3 k3 => wpAny_bind (wpAny_mono k3 (fun go t4 k4 => ?_) fun _ _ z => z)) fun _ _ z => z)) fun _ _ z => z)
    cases go with
    | false => exact wpAny_pure ⟨rfl, k4⟩
    | true =>
      refine wpAny_bind (wpAny_mono k4 (fun y t5 k5 => ?_) fun _ _ z => z)
      refine wpAny_bind (wpAny_standAt (wpAny_bind (wpAny_of_eq (fold y) (wpAny_bind (wpAny_holding (wpAny_mono k5 (fun it1 t6 k6 => ?_) fun _ _ z => z))))))
      refine wpAny_bind (wpAny_runOwn ?_)
      rw [Around.mark_none]
      refine codeAny_mono k6 fun r t kr => ?_
      cases r with
      | ok f =>
        first
          | exact wpAny_pure ⟨rfl, kr⟩
          | exact wpAny_bind (wpAny_pure (wpAny_pure ⟨rfl, kr⟩))
      | error e => exact kr.elim
theorem loop_inner (I : Nat → Shared → Prop)
    (turn : ∀ n s, I n s → wpAny (model P w) A (pyNext itr) (fun r t1 => match r with
      | none => R (.ok .next) t1
      | some u => wpAny (model P w) A (letOwnedTupleGo a1 itr u) (fun _ t2 => wpAny (model P w) A (assign a1 env u) (fun _ t3 =>
          wpAny (model P w) A (forIn q1 true fun cnd r => if r = true then do let go ← isTrue cnd env (eval cnd env); pure (ForInStep.yield go) else pure (ForInStep.yield r)) (fun go t4 =>
            if go = true then wpAny (model P w) A (eval elt env) (fun y t5 => wpAny (model P w) A (call (.builtin "set.add") [col, y]) (fun _ t6 => ∃ m, m < n ∧ I m t6) (nb P w A R env) t5) (nb P w A R env) t4
            else ∃ m, m < n ∧ I m t4) (nb P w A R env) t3) (nb P w A R env) t2) (nb P w A R env) t1) (nb P w A R env) s)
    (n : Nat) (h : I n s) : codeAny (model P w) A (.compLoop (twoSc elt a0 b0 a1 b1 q0 q1 sc ps) 1 itr col env) R s := by
  refine codeAny_loop rfl I (fun n s inv => ?_) n h
  show wpAny _ A ((compTurn (twoSc elt a0 b0 a1 b1 q0 q1 sc ps) 1 itr col env).onRaise (fun x => do noteFrame x env; theTreesLotGoes x)) _ _ s
  refine wpAny_noted ?_
  rw [turn_inner]
  refine wpAny_bind (wpAny_standAt (wpAny_bind (wpAny_mono (turn n s inv) (fun r t1 k1 => ?_) fun _ _ z => z)))
  cases r with
  | none => exact wpAny_pure k1
  | some u =>
    refine wpAny_bind (wpAny_mono k1 (fun _ t2 k2 => wpAny_bind (wpAny_mono k2 (fun _ t3 k3 => wpAny_bind (wpAny_mono k3 (fun go t4 k4 => ?_) fun _ _ z => z)) fun _ _ z => z)) fun _ _ z => z)
    cases go with
    | false => exact wpAny_pure ⟨rfl, k4⟩
    | true => exact wpAny_bind (wpAny_bind (wpAny_mono k4 (fun y t5 k5 => wpAny_bind (wpAny_standAt (wpAny_bind (wpAny_mono k5 (fun _ t6 k6 => wpAny_pure (wpAny_pure ⟨rfl, k6⟩)) fun _ _ z => z)))) fun _ _ z => z))
theorem start_inner (k0 : codeAny (model P w) A (.compLoop (twoSc elt a0 b0 a1 b1 q0 q1 sc ps) 1 itr col env) R s)
    (h : wpAny (model P w) A (pyIter itr) (fun it2 t => codeAny (model P w) A (.compLoop (twoSc elt a0 b0 a1 b1 q0 q1 sc ps) 1 it2 col env) R t) (nb P w A R env) s) :
    codeAny (model P w) A (.compStart (twoSc elt a0 b0 a1 b1 q0 q1 sc ps) 1 itr col env) R s := by
  refine codeAny_of_tree ?_
  show wpAny _ _ ((compStart (twoSc elt a0 b0 a1 b1 q0 q1 sc ps) 1 itr col env).onRaise (fun x => do noteFrame x env; standAt theWindowsPlace)) _ _ s
  refine wpAny_notedAt ?_
  unfold compStart
  show wpAny _ _ (ask >>= _) _ _ s
  refine wpAny_bind (wpAny_askSetting (wpAny_ite ?_))
  split
  · first
      | exact wpAny_bind (wpAny_pure (wpAny_pure (And.intro rfl k0)))
      | exact wpAny_pure (And.intro rfl k0)
  · first
      | exact wpAny_bind (wpAny_rule (wpAny_bind (wpAny_standAt (wpAny_bind (wpAny_mono h (fun it2 t k => wpAny_pure (And.intro rfl k)) fun _ _ x => x)))))
      | (refine wpAny_bind (wpAny_rule ?_); show wpAny _ _ (standAt b1.pos >>= _) _ _ s; exact wpAny_bind (wpAny_standAt (wpAny_bind (wpAny_mono h (fun it2 t k => wpAny_pure (And.intro rfl k)) fun _ _ x => x))))
end
end
section
open PySem PySem.Spec L2
open PyProof.Rows hiding St
open PpSet (eval_SetComp codeAny_compStart_set newSet_ok)
def tScK2 (P : Program) (w : World) (wi : TI) (g : TG) (tt : TT) (wi1 : TI) (g1 : TG) (tt1 : TT) (te : TE) (vs vs1 : List Nat) : TE := fun σ H Q => wi σ H fun J H1 => ∀ D, H1 D = none →
  ∃ W : Nat → Nat → Hp → Prop, (∃ m, W 0 m (upd H1 D (SetW P w D []))) ∧ ∀ i m H, W i m H → (J.stop i H ∧ Q (.ref D) H) ∨ (J.go i H ∧
    ∃ Nx : Hp → Prop, (∀ H', Nx H' → ∃ m', m' < m ∧ W (i + 1) m' H') ∧ ∀ x H', J.yld i H x H' → g x (wipe σ vs) H' fun σ2 H2 => wipe σ2 vs = wipe σ vs ∧ tt σ2 H2 fun b H3 => match b with
      | true => wi1 σ2 H3 fun J1 H4 => ∃ W1 : Nat → Nat → Hp → Prop, (∃ m, W1 0 m H4) ∧ ∀ j k H, W1 j k H → (J1.stop j H ∧ Nx H) ∨ (J1.go j H ∧
          ∃ Nx1 : Hp → Prop, (∀ H', Nx1 H' → ∃ k', k' < k ∧ W1 (j + 1) k' H') ∧ ∀ x H', J1.yld j H x H' → g1 x (wipe σ2 vs1) H' fun σ3 H5 => wipe σ3 vs1 = wipe σ2 vs1 ∧ tt1 σ3 H5 fun b H6 => match b with
            | true => te σ3 H6 fun y H7 => ∃ (c : Key) (ks : List Key), y = kV c ∧ H7 D = some (SetW P w D ks) ∧ ks.length + 1 < scanBound ∧ Nx1 (upd H7 D (SetW P w D (insK ks c)))
            | false => Nx1 H6)
      | false => Nx H3)
section
variable {X : Cx} {elt tg iter tg1 iter1 : Expr} {ifs ifs1 : List Expr} {scope : Scope} {own : List (PySem.Str × Nat)} {vs1 : List Nat} {pos : Pos} {wi wi1 : TI} {g g1 : TG} {tt tt1 : TT} {te : TE}
theorem pe_sck2 (calm : X.calm = true) (nd : X.N.Nodup) (src : PI X tg iter wi) (bo : BlkOk X.N X.env.scope scope own) (sub1 : ∀ i ∈ vs1, i ∈ own.map (·.2))
    (tgt : ∀ (s : Shared) (H : Hp) (C : Addr) (cl : List (PySem.Str × Addr)) (fp : List Addr), PG (X.blk s H scope (compEnvC scope cl C X.env) fp) tg g)
    (tst : ∀ (s : Shared) (H : Hp) (C : Addr) (cl : List (PySem.Str × Addr)) (fp : List Addr), PTs (X.blk s H scope (compEnvC scope cl C X.env) fp) ifs tt)
    (src1 : ∀ (s : Shared) (H : Hp) (C : Addr) (cl : List (PySem.Str × Addr)) (fp : List Addr), PI (X.blk s H scope (compEnvC scope cl C X.env) fp) tg1 iter1 wi1)
    (tgt1 : ∀ (s : Shared) (H : Hp) (C : Addr) (cl : List (PySem.Str × Addr)) (fp : List Addr), PG (X.blk s H scope (compEnvC scope cl C X.env) fp) tg1 g1)
    (tst1 : ∀ (s : Shared) (H : Hp) (C : Addr) (cl : List (PySem.Str × Addr)) (fp : List Addr), PTs (X.blk s H scope (compEnvC scope cl C X.env) fp) ifs1 tt1)
    (val : ∀ (s : Shared) (H : Hp) (C : Addr) (cl : List (PySem.Str × Addr)) (fp : List Addr), PE (X.blk s H scope (compEnvC scope cl C X.env) fp) elt te)
    (hs : ∀ x, foldedSetIterable iter X.env x = pure x := by intro _; rfl) (hs1 : ∀ env x, foldedSetIterable iter1 env x = pure x := by intro _ _; rfl) :
    PE X (twoSc elt tg iter tg1 iter1 ifs ifs1 scope pos) (tScK2 X.prog X.w wi g tt wi1 g1 tt1 te (own.map (·.2)) vs1) := by
  refine ⟨fun pins s σ H Q I h => ?_⟩
  rw [eval_SetComp]
  have frees : ∀ y ∈ scope.names, y.2 = .free → ∃ c, X.env.cells.lookup y.1 = some c := fun y hy e => (bo.free y hy e).elim (fun q => I.ok.has _ (.inl q)) fun q => I.ok.has _ (.inr q)
  refine wpAny_comprehension_free rfl hs (closure_ok frees) bo.kind (fun y hy e => by rw [bo.uniq y hy, e]) (thn (src.run pins s σ H _ I h) fun xv s1 hx => thn hx fun itv s2 hi => ?_)
  obtain ⟨walk, fp, tn, J, H2, ew, I2, T, at0, off, q⟩ := hi
  subst ew
  refine newSet_ok (newEnv_comp ?_)
  generalize eD : s2.heap.objs.size = D
  have newD : H2 D = none := I2.hok.fresh (Nat.le_of_eq eD)
  obtain ⟨W, ⟨m0, start⟩, turn⟩ := q D newD
  generalize e3 : ({ s2 with heap := s2.heap.push ⟨.type "set", none, .set #[] 0 (.fresh 0 0 (!X.w.params.followText "set-order")), #[]⟩ } : Shared) = s3
  have hp3 : s3.heap = s2.heap.push ⟨.type "set", none, .set #[] 0 (.fresh 0 0 (!X.w.params.followText "set-order")), #[]⟩ := by rw [← e3]
  have I3 : Inv X pins σ (upd H2 D (SetK0 X D)) s3 := by
    subst e3 eD
    exact I2.laid (t' := s2.toks) (fun _ _ e => Heap.get?_push_of_some _ e) (Nat.le_refl _) (setW_new setW_fresh)
  have below : ∀ b ∈ fp, b < s2.heap.objs.size := fun b hb => (T.obj _ _ at0 b hb).elim fun o e => Heap.lt_size e.1
  have off3 : ∀ b ∈ fp, FpOk X pins (upd H2 D (SetK0 X D)) b ∧ b < s3.heap.objs.size := fun b hb => by
    have lt := below b hb
    have ne : b ≠ D := by rw [← eD]; exact Nat.ne_of_lt lt
    exact ⟨⟨by rw [upd_ne ne]; exact (off b hb).1, (off b hb).2⟩, by rw [hp3, Heap.size_push]; exact Nat.lt_succ_of_lt lt⟩
  have at3 : tn 0 s3.heap := T.keep _ _ _ at0 fun _ _ _ e => by rw [hp3]; exact Heap.get?_push_of_some _ e
  have I4 := block_start I3 bo nd off3
  generalize ecl : cellsFrom (s3.heap.objs.size + 1) scope.names (cloFrom X.env.cells scope.names []) = cl at I4 ⊢
  have r1 := tgt s3 (upd H2 D (SetK0 X D)) s3.heap.objs.size cl fp
  have r2 := tst s3 (upd H2 D (SetK0 X D)) s3.heap.objs.size cl fp
  have r3 := val s3 (upd H2 D (SetK0 X D)) s3.heap.objs.size cl fp
  have r4 := src1 s3 (upd H2 D (SetK0 X D)) s3.heap.objs.size cl fp
  have r5 := tgt1 s3 (upd H2 D (SetK0 X D)) s3.heap.objs.size cl fp
  have r6 := tst1 s3 (upd H2 D (SetK0 X D)) s3.heap.objs.size cl fp
  have none3 : ∀ b ∈ fp, (upd H2 D (SetK0 X D)) b = none := fun b hb => (off3 b hb).1.1
  have start' : W 0 m0 (upd H2 D (SetK0 X D)) := start
  generalize eC : s3.heap.objs.size = C at I4 r1 r2 r3 r4 r5 r6 ⊢
  generalize eE : compEnvC scope cl C X.env = ce at I4 r1 r2 r3 r4 r5 r6
  have locC : ce.locals = C := by rw [← eE]; rfl
  generalize eH : upd H2 D (SetK0 X D) = H3 at I3 I4 r1 r2 r3 r4 r5 r6 none3 off3 start'
  generalize e4 : ({ s3 with heap := pushCells (s3.heap.push { cls := .type "dict", data := .dict #[] }) scope.names } : Shared) = s4 at I4
  have at4 : tn 0 s4.heap := T.keep _ _ _ at3 fun _ _ _ e => by rw [← e4]; exact pushCells_keeps _ _ _ _ (Heap.get?_push_of_some _ e)
  let B := X.blk s3 H3 scope ce fp
  let R := compPost (model X.prog X.w) X.A X.xe none (EP X pins σ Q) (.ref D) C
  show codeAny (model X.prog X.w) X.A (.compStart (twoSc elt tg iter tg1 iter1 ifs ifs1 scope pos) 0 (.ref walk) (.ref D) (compEnvC scope cl C X.env)) R _
  rw [eE]
  have pinned : ∀ {τ : L2.St} {Ha : Hp} {sa : Shared}, Inv B [] τ Ha sa → (∀ b ∈ fp, Ha b = none) → ∀ b ∈ fp, FpOk B [] Ha b := fun Ia hn b hb =>
    ⟨hn b hb, (Ia.ok.exf b hb).1, Ia.ok.exfs b hb, .inl hb, fun y c e => (Ia.ok.exf b hb).2 y c e, fun p hp => absurd (show p ∈ ([] : List (Addr × Obj)) ++ [] from hp) (by simp)⟩
  have loop : codeAny (model X.prog X.w) X.A (.compLoop (twoSc elt tg iter tg1 iter1 ifs ifs1 scope pos) 0 (.ref walk) (.ref D) ce) R s4 := by
    refine loop_outer (hs1 ce) (fun n sa => ∃ i Ha, Inv B [] (wipe σ (own.map (·.2))) Ha sa ∧ tn i sa.heap ∧ (∀ b ∈ fp, Ha b = none) ∧ W i n Ha) ?_ m0 ⟨0, H3, I4, at4, none3, start'⟩
    rintro n sa ⟨i, Ha, Ia, ata, na, wa⟩
    rcases turn i n Ha wa with ⟨stop, last⟩ | ⟨go, Nx, less, step⟩
    · refine thnF (T.done B rfl rfl rfl calm i [] sa _ Ha (fun _ _ => False) Ia (pinned Ia na) ata stop) fun r sb ⟨er, Ib⟩ => ?_
      subst er
      have home : Inv X pins σ Ha sb := I3.call' (ch := fp) Ib.os Ib.base Ib.hok Ib.bare fun b hb => ⟨(off3 b hb).1.2.2.2.1, (off3 b hb).1.2.1, (off3 b hb).1.2.2.2.2.1, (off3 b hb).1.2.2.2.2.2⟩
      have free : Ha C = none := by rw [← locC]; exact Ib.free
      obtain ⟨mm, ns, _⟩ := Ib.loc
      have ns' : sb.heap.Ns C mm := by rw [← locC]; exact ns
      have fpC : FpOk X pins Ha C := I3.fpOk (Nat.le_of_eq eC) free
      refine ⟨mm, ns', fun h'' sb' => ?_⟩
      obtain ⟨f0, f1, f2, f3, f4, f5⟩ := fpC
      exact ⟨.ref D, Ha, home.turned (t' := sb.toks) (fun b o hb e => (sb'.2 b hb).trans e) f0 f1 f3 f4 f5, rfl, last⟩
    · refine thnF (T.item B rfl rfl rfl calm i [] sa _ Ha (fun _ _ => False) Ia (pinned Ia na) ata go) fun r sb ⟨u, er, hb⟩ => ?_
      subst er
      refine thnF hb fun _ sc ⟨x, Hc, Ic, rc, yc, atc, nc⟩ => ?_
      have Ip := Ic.pinned (pinned Ic nc) (T.obj _ _ atc)
      refine thnF (r1.run _ sc _ Hc x u _ Ip rc (step x Hc yc)) fun _ sd ⟨τ, Hd, Id, wd, qd⟩ => ?_
      refine thnF (r2.run _ sd τ Hd _ Id qd) fun b se ⟨He, Ie, qe⟩ => ?_
      have len : (wipe σ (own.map (·.2))).length = τ.length := by rw [← wd, wipe_length]
      have knows : ∀ (j : Nat) v, (wipe σ (own.map (·.2)))[j]? = some (some v) → τ[j]? = some (some v) := fun j v e => by
        rw [← wd] at e
        exact (wipe_some e).1
      have knows1 : ∀ (j : Nat) v, (wipe σ (own.map (·.2)))[j]? = some (some v) → (wipe τ vs1)[j]? = some (some v) := fun j v e => by
        rw [← wd] at e
        obtain ⟨h1, h2⟩ := wipe_some e
        rw [wipe_out fun z => h2 (sub1 j z)]
        exact h1
      have next : ∀ {ρs : L2.St} {sz : Shared} {Hz : Hp}, Inv B ([] ++ pinsAt fp sc.heap) ρs Hz sz → (wipe σ (own.map (·.2))).length = ρs.length → (∀ (j : Nat) v, (wipe σ (own.map (·.2)))[j]? = some (some v) → ρs[j]? = some (some v)) → Nx Hz →
          ∃ m, m < n ∧ ∃ i Hz, Inv B [] (wipe σ (own.map (·.2))) Hz sz ∧ tn i sz.heap ∧ (∀ b ∈ fp, Hz b = none) ∧ W i m Hz := by
        intro ρs sz Hz Iz ln kn nx
        obtain ⟨m', lt, w'⟩ := less Hz nx
        have kept : ∀ b ∈ fp, ∀ o, sc.heap.get? b = some o → sz.heap.get? b = some o ∧ Hz b = none := fun b hb o e => by
          obtain ⟨z1, z2, _⟩ := Iz.pin (b, o) (List.mem_append_right _ (List.mem_append_right _ (mem_pinsAt hb e)))
          exact ⟨z1, z2⟩
        refine ⟨m', lt, i + 1, Hz, (Iz.unpinned (pins := [])).weak ln kn, T.keep _ _ _ atc fun b hb o e => (kept b hb o e).1, fun b hb => ?_, w'⟩
        obtain ⟨o, e, _⟩ := T.obj _ _ atc b hb
        exact (kept b hb o e).2
      cases b with
      | false => exact next Ie len knows qe
      | true =>
        refine thnF (r4.run _ se τ He _ Ie qe) fun xv1 sf hx1 => thnF hx1 fun itv1 sg hg1 => ?_
        obtain ⟨walk1, fp1, tn1, J1, Hg, ew1, Ig, T1, at1, off1, W1, ⟨m1, start1⟩, turn1⟩ := hg1
        subst ew1
        have pinned1 : ∀ {Ha : Hp}, (∀ b ∈ fp1, Ha b = none) → ∀ b ∈ fp1, FpOk B ([] ++ pinsAt fp sc.heap) Ha b := fun hn b hb => ⟨hn b hb, (off1 b hb).2⟩
        have loop1 : codeAny (model X.prog X.w) X.A (.compLoop (twoSc elt tg iter tg1 iter1 ifs ifs1 scope pos) 1 (.ref walk1) (.ref D) ce) (fun r t => match r with
              | .ok _ => ∃ m, m < n ∧ ∃ i Hz, Inv B [] (wipe σ (own.map (·.2))) Hz t ∧ tn i t.heap ∧ (∀ b ∈ fp, Hz b = none) ∧ W i m Hz
              | .error _ => False) sg := by
          refine loop_inner (fun k t => ∃ j Ha, Inv B ([] ++ pinsAt fp sc.heap) (wipe τ vs1) Ha t ∧ tn1 j t.heap ∧ (∀ b ∈ fp1, Ha b = none) ∧ W1 j k Ha) ?_ m1 ⟨0, Hg, Ig.weak (wipe_length _ _) (fun j v e => (wipe_some e).1), at1, fun b hb => (off1 b hb).1, start1⟩
          rintro k sh ⟨j, Hh, Ih, ath, nh, wh⟩
          rcases turn1 j k Hh wh with ⟨stop1, nx1⟩ | ⟨go1, Nx1, less1, step1⟩
          · refine thnF (T1.done B rfl rfl rfl calm j _ sh (wipe τ vs1) Hh (fun _ _ => False) Ih (pinned1 nh) ath stop1) fun r si ⟨er, Ii⟩ => ?_
            subst er
            exact next Ii (len.trans (wipe_length τ vs1).symm) knows1 nx1
          · refine thnF (T1.item B rfl rfl rfl calm j _ sh (wipe τ vs1) Hh (fun _ _ => False) Ih (pinned1 nh) ath go1) fun r si ⟨u1, er, hi⟩ => ?_
            subst er
            refine thnF hi fun _ sj ⟨x1, Hj, Ij, rj, yj, atj, nj⟩ => ?_
            have Iq := Ij.pinned (pinned1 nj) (T1.obj _ _ atj)
            refine thnF (r5.run _ sj (wipe τ vs1) Hj x1 u1 _ Iq rj (step1 x1 Hj yj)) fun _ sk ⟨τ1, Hk, Ik, wk, qk⟩ => ?_
            refine thnF (r6.run _ sk τ1 Hk _ Ik qk) fun b1 sl ⟨Hl, Il, ql⟩ => ?_
            have next1 : ∀ {sz : Shared} {Hz : Hp}, Inv B (([] ++ pinsAt fp sc.heap) ++ pinsAt fp1 sj.heap) τ1 Hz sz → Nx1 Hz → ∃ m, m < k ∧ ∃ j Hz, Inv B ([] ++ pinsAt fp sc.heap) (wipe τ vs1) Hz sz ∧ tn1 j sz.heap ∧ (∀ b ∈ fp1, Hz b = none) ∧ W1 j m Hz := by
              intro sz Hz Iz nx
              obtain ⟨m', lt, w'⟩ := less1 Hz nx
              have kept : ∀ b ∈ fp1, ∀ o, sj.heap.get? b = some o → sz.heap.get? b = some o ∧ Hz b = none := fun b hb o e => by
                obtain ⟨z1, z2, _⟩ := Iz.pin (b, o) (List.mem_append_right _ (List.mem_append_right _ (mem_pinsAt hb e)))
                exact ⟨z1, z2⟩
              refine ⟨m', lt, j + 1, Hz, Iz.unpinned.weak (by rw [← wk, wipe_length]) (fun j v e => by rw [← wk] at e; exact (wipe_some e).1), T1.keep _ _ _ atj fun b hb o e => (kept b hb o e).1, fun b hb => ?_, w'⟩
              obtain ⟨o, e, _⟩ := T1.obj _ _ atj b hb
              exact (kept b hb o e).2
            cases b1 with
            | false => exact next1 Il ql
            | true =>
              refine thnF (r3.run _ sl τ1 Hl _ Il ql) fun z sm ⟨y, Hm, Im, rm, c, ks0, ey, hD, room, nx⟩ => ?_
              subst ey
              exact add_ok (X := B) Im hD room rm fun so Io => next1 Io nx
        exact start_inner loop1 (T1.self X.A 0 _ _ _ at1 loop1)
  exact codeAny_compStart_set loop (T.self X.A 0 _ _ _ at4 loop)
end
/-! what it gives -/
def scGo2 (g : TF) (t : TFn) (it1 : AF) (g1 : TF) (t1 : TFn) (f : EF) (env0 : Env) (vs1 : List Nat) : List Val → List Key → Store → Res (List Key)
  | [], ks, S => .ok ks S
  | x :: xs, ks, S => match g x env0 S with
    | .ok env1 S1 => match t env1 S1 with
      | .ok true S2 => match it1 env1 S2 with
        | .ok ys S3 => match scGo g1 t1 f (wipeE env1 vs1) ys ks S3 with
          | .ok ks' S4 => scGo2 g t it1 g1 t1 f env0 vs1 xs ks' S4
          | _ => .stuck
        | _ => .stuck
      | .ok false S2 => scGo2 g t it1 g1 t1 f env0 vs1 xs ks S2
      | _ => .stuck
    | _ => .stuck
def eSc2 (it : AF) (g : TF) (t : TFn) (it1 : AF) (g1 : TF) (t1 : TFn) (f : EF) (vs vs1 : List Nat) : KF := fun env S => (it env S).bind fun xs S1 => scGo2 g t it1 g1 t1 f (wipeE env vs) vs1 xs [] S1
section
variable {X : Cx} {ad : Ads} {W : WX} {pos : Pos} {elt tg iter tg1 iter1 : Expr} {ifs ifs1 : List Expr} {scope : Scope} {own : List (PySem.Str × Nat)} {it it1 : AF} {g g1 : TF} {t t1 : TFn} {f : EF} {vs1 : List Nat}
theorem sc_inner (nh : ad.hold = none) {F2 : Hp} {ρ2 : Rts} {env1 : Env} {σ2 : L2.St} {S : Store} {H4 : Hp} {D : Addr} {ks ks' : List Key} {ys : List Val} {S' : Store} {J1 : It} {Nx : Hp → Prop}
    (rs : RS X.K ad F2 (ρ2.hid D (SetW X.prog X.w D ks)) env1 S σ2 H4) (nd : ks.Nodup) (y : Yl X.K ad F2 (ρ2.hid D (SetW X.prog X.w D ks)) ys J1) (q : scGo g1 t1 f (wipeE env1 vs1) ys ks S = .ok ks' S')
    (hN : ∀ F' ρ' H', Le F2 ρ2 F' ρ' → RS0 X.K ad F' (ρ'.hid D (SetW X.prog X.w D ks')) S' H' → ks'.Nodup → Nx H') :
    ∃ W1 : Nat → Nat → Hp → Prop, (∃ m, W1 0 m H4) ∧ ∀ j k H, W1 j k H → (J1.stop j H ∧ Nx H) ∨ (J1.go j H ∧
      ∃ Nx1 : Hp → Prop, (∀ H', Nx1 H' → ∃ k', k' < k ∧ W1 (j + 1) k' H') ∧ ∀ x H', J1.yld j H x H' → tT X.K ad vs1 W0 g1 x (wipe σ2 vs1) H' fun σ3 H5 => wipe σ3 vs1 = wipe σ2 vs1 ∧ tG X.K ad RB W0 t1 σ3 H5 fun b H6 => match b with
        | true => tG X.K ad (Rp X.K ad) W0 f σ3 H6 fun y H7 => ∃ (c : Key) (ks : List Key), y = kV c ∧ H7 D = some (SetW X.prog X.w D ks) ∧ ks.length + 1 < scanBound ∧ Nx1 (upd H7 D (SetW X.prog X.w D (insK ks c)))
        | false => Nx1 H6) := by
  let O := fun (ks : List Key) => SetW X.prog X.w D ks
  let St := fun (j : Nat) (H : Hp) => ∃ F' ρ' S'' ls, Le F2 ρ2 F' ρ' ∧ RS0 X.K ad F' (ρ'.hid D (O ls)) S'' H ∧ ls.Nodup ∧ scGo g1 t1 f (wipeE env1 vs1) (ys.drop j) ls S'' = .ok ks' S'
  refine ⟨fun j k H => k = ys.length - j ∧ j ≤ ys.length ∧ St j H, ⟨ys.length, by simp, Nat.zero_le _, F2, ρ2, S, ks, .refl, rs.s, nd, by simpa using q⟩, ?_⟩
  rintro j k H' ⟨rfl, hj, F', ρ', S'', ls, l', rh', nd', q'⟩
  have re2 : RE X.K ad F2 ρ2 env1 σ2 := rs.e.unhid
  have re' : RE X.K ad F' (ρ'.hid D (O ls)) env1 σ2 := (re2.mono l').hid
  have lF : Le0 F2 (ρ2.hid D (O ks)) F' (ρ'.hid D (O ls)) := ⟨l'.f, l'.r⟩
  obtain ⟨ye, yg⟩ := y F' _ env1 S'' σ2 H' lF ⟨rh', re'⟩
  by_cases hlt : j < ys.length
  · obtain ⟨go, yd⟩ := yg j ys[j] (by simp [hlt])
    refine .inr ⟨go, St (j + 1), fun H2 h => ⟨ys.length - (j + 1), by omega, rfl, hlt, h⟩, fun u H2 yu => ?_⟩
    obtain ⟨F3, ρ3h, l3h, rs3, rx⟩ := yd u H2 yu
    obtain ⟨ρ3, rfl, l3⟩ := hid_le l3h
    refine ⟨F3, _, wipeE env1 vs1, S'', ys[j], ⟨rs3.s, rs3.e.wipe nh vs1⟩, rx, ?_⟩
    rw [List.drop_eq_getElem_cons hlt] at q'
    unfold scGo at q'
    cases e : g1 ys[j] (wipeE env1 vs1) S'' with
    | stuck => rw [e] at q'; cases q'
    | exc c' fs S3 => rw [e] at q'; cases q'
    | ok env3 S3 =>
      rw [e] at q'
      dsimp only at q'
      intro F4 ρ4h σ4 H4' l4h rs4 hw
      obtain ⟨ρ4, rfl, l4⟩ := hid_le l4h
      refine ⟨hw.trans (wipe_idem σ2 vs1), F4, _, env3, S3, rs4, ?_⟩
      cases e2 : t1 env3 S3 with
      | stuck => rw [e2] at q'; cases q'
      | exc c' fs S4 => rw [e2] at q'; cases q'
      | ok b S4 =>
        rw [e2] at q'
        intro F5 ρ5h b' H5 l5h rs5 eb
        cases eb
        obtain ⟨ρ5, rfl, l5⟩ := hid_le l5h
        cases b with
        | false => exact ⟨F5, ρ5, S4, ls, ((l'.trans l3).trans l4).trans l5, rs5.s, nd', q'⟩
        | true =>
          dsimp only at q' ⊢
          refine ⟨F5, _, env3, S4, rs5, ?_⟩
          cases e3 : f env3 S4 with
          | stuck => rw [e3] at q'; cases q'
          | exc c' fs S5 => rw [e3] at q'; cases q'
          | ok yv S5 =>
            rw [e3] at q'
            dsimp only at q'
            intro F6 ρ6h w H6 l6h rs6 rw6
            obtain ⟨ρ6, rfl, l6⟩ := hid_le l6h
            cases e4 : keyV yv with
            | none => simp only [e4] at q'; cases q'
            | some kk =>
              simp only [e4] at q'
              split at q'
              · rename_i room
                have lt := ((l3.trans l4).trans l5).trans l6
                exact ⟨kk, _, key_rel rw6 e4, (rs6.s.prv (D, O ls) List.mem_cons_self).1, room, F6, ρ6, S5, insK ls kk, l'.trans lt, rs6.s.rehide, insK_nodup nd', q'⟩
              · cases q'
  · have e : j = ys.length := by omega
    subst e
    rw [List.drop_length] at q'
    unfold scGo at q'
    cases q'
    exact .inl ⟨ye, hN F' ρ' H' l' rh' nd'⟩
theorem sc2_read (nh : ad.hold = none) {vs : List Nat} {F ρ env S σ H} {Q : VK} (rs : RS X.K ad F ρ env S σ H) (q : Aft X.K ad (RK X.prog X.w) W F ρ env σ (eSc2 it g t it1 g1 t1 f vs vs1 env S) Q) :
    tScK2 X.prog X.w (tG X.K ad (Yl X.K ad) W it) (tT X.K ad vs W0 g) (tG X.K ad RB W0 t) (tG X.K ad (Yl X.K ad) W0 it1) (tT X.K ad vs1 W0 g1) (tG X.K ad RB W0 t1) (tG X.K ad (Rp X.K ad) W0 f) vs vs1 σ H Q := by
  refine ⟨F, ρ, env, S, rs, Aft.bind q fun F1 ρ1 S1 xs J H1 l1 rs1 y q1 => ?_⟩
  intro D hD
  let O := fun (ks : List Key) => SetW X.prog X.w D ks
  obtain ⟨rh, lh⟩ := rs1.s.hide (o := O []) hD
  let St := fun (i : Nat) (H : Hp) => ∃ F' ρ' S' ks, Le F1 ρ1 F' ρ' ∧ RS0 X.K ad F' (ρ'.hid D (O ks)) S' H ∧ ks.Nodup ∧ Aft X.K ad (RK X.prog X.w) W F' ρ' env σ (scGo2 g t it1 g1 t1 f (wipeE env vs) vs1 (xs.drop i) ks S') Q
  refine ⟨fun i m H => m = xs.length - i ∧ i ≤ xs.length ∧ St i H, ⟨xs.length, by simp, Nat.zero_le _, F1, ρ1, S1, [], .refl, rh, List.nodup_nil, by simpa using q1⟩, ?_⟩
  rintro i m H' ⟨rfl, hi, F', ρ', S', ks, l', rh', nd, q'⟩
  have re' : RE X.K ad F' (ρ'.hid D (O ks)) env σ := (rs1.e.mono l').hid
  have lF : Le0 F1 ρ1 F' (ρ'.hid D (O ks)) := ⟨l'.f, l'.r⟩
  obtain ⟨ys, yg⟩ := y F' _ env S' σ H' lF ⟨rh', re'⟩
  by_cases hlt : i < xs.length
  · obtain ⟨go, yd⟩ := yg i xs[i] (by simp [hlt])
    refine .inr ⟨go, St (i + 1), fun H2 h => ⟨xs.length - (i + 1), by omega, rfl, hlt, h⟩, fun u H2 yu => ?_⟩
    obtain ⟨F2, ρ2h, l2h, rs2, rx⟩ := yd u H2 yu
    obtain ⟨ρ2, rfl, l2⟩ := hid_le l2h
    refine ⟨F2, _, wipeE env vs, S', xs[i], ⟨rs2.s, rs2.e.wipe nh vs⟩, rx, ?_⟩
    rw [List.drop_eq_getElem_cons hlt] at q'
    unfold scGo2 at q'
    cases e : g xs[i] (wipeE env vs) S' with
    | stuck => rw [e] at q'; exact q'.elim
    | exc c' fs S3 => rw [e] at q'; exact q'.elim
    | ok env3 S3 =>
      rw [e] at q'
      dsimp only at q'
      intro F3 ρ3h σ3 H3 l3h rs3 hw
      obtain ⟨ρ3, rfl, l3⟩ := hid_le l3h
      refine ⟨hw.trans (wipe_idem σ vs), F3, _, env3, S3, rs3, ?_⟩
      cases e2 : t env3 S3 with
      | stuck => rw [e2] at q'; exact q'.elim
      | exc c' fs S4 => rw [e2] at q'; exact q'.elim
      | ok b S4 =>
        rw [e2] at q'
        intro F4 ρ4h b' H4 l4h rs4 eb
        cases eb
        obtain ⟨ρ4, rfl, l4⟩ := hid_le l4h
        cases b with
        | false => exact ⟨F4, ρ4, S4, ks, ((l'.trans l2).trans l3).trans l4, rs4.s, nd, Aft.later ((l2.trans l3).trans l4) q'⟩
        | true =>
          dsimp only at q' ⊢
          refine ⟨F4, _, env3, S4, rs4, ?_⟩
          cases e3 : it1 env3 S4 with
          | stuck => rw [e3] at q'; exact q'.elim
          | exc c' fs S5 => rw [e3] at q'; exact q'.elim
          | ok zs S5 =>
            rw [e3] at q'
            dsimp only at q'
            intro F5 ρ5h J1 H5 l5h rs5 y1
            obtain ⟨ρ5, rfl, l5⟩ := hid_le l5h
            cases e4 : scGo g1 t1 f (wipeE env3 vs1) zs ks S5 with
            | stuck => rw [e4] at q'; exact q'.elim
            | exc c' fs S6 => rw [e4] at q'; exact q'.elim
            | ok ks6 S6 =>
              rw [e4] at q'
              have lt := ((l2.trans l3).trans l4).trans l5
              refine sc_inner nh rs5 nd y1 e4 fun F6 ρ6 H6 l6 rs6 nd6 => ?_
              exact ⟨F6, ρ6, S6, ks6, (l'.trans lt).trans l6, rs6, nd6, Aft.later (lt.trans l6) q'⟩
  · have e : i = xs.length := by omega
    subst e
    refine .inl ⟨ys, ?_⟩
    rw [List.drop_length] at q'
    unfold scGo2 at q'
    obtain ⟨r2, l2⟩ := rh'.drop
    have lz : Le F' ρ' (upd F' D (O ks)) ρ' := ⟨⟨l2.f, fun i a h => h⟩, rfl⟩
    exact q' _ ρ' _ H' lz ⟨r2, (rs1.e.mono l').mono lz⟩ ⟨D, rfl, nd, upd_same⟩
theorem gk_sc2 (nh : ad.hold = none) (hc : X.calm = true) (hN : X.N.Nodup) (hi : GI X ad W tg iter it) (ok : BlkOk X.N X.env.scope scope own) (hv : ∀ i ∈ vs1, i ∈ own.map (·.2))
    (hg : ∀ (s : Shared) (H : Hp) (C : Addr) (cl : List (Str × Addr)) (fp : List Addr), GG (X.blk s H scope (compEnvC scope cl C X.env) fp) ad (own.map (·.2)) W0 tg g) (ht : ∀ (s : Shared) (H : Hp) (C : Addr) (cl : List (Str × Addr)) (fp : List Addr), GTs (X.blk s H scope (compEnvC scope cl C X.env) fp) ad W0 ifs t)
    (hi1 : ∀ (s : Shared) (H : Hp) (C : Addr) (cl : List (Str × Addr)) (fp : List Addr), GI (X.blk s H scope (compEnvC scope cl C X.env) fp) ad W0 tg1 iter1 it1)
    (hg1 : ∀ (s : Shared) (H : Hp) (C : Addr) (cl : List (Str × Addr)) (fp : List Addr), GG (X.blk s H scope (compEnvC scope cl C X.env) fp) ad vs1 W0 tg1 g1) (ht1 : ∀ (s : Shared) (H : Hp) (C : Addr) (cl : List (Str × Addr)) (fp : List Addr), GTs (X.blk s H scope (compEnvC scope cl C X.env) fp) ad W0 ifs1 t1)
    (he : ∀ (s : Shared) (H : Hp) (C : Addr) (cl : List (Str × Addr)) (fp : List Addr), GE (X.blk s H scope (compEnvC scope cl C X.env) fp) ad W0 elt f)
    (hs : ∀ x, foldedSetIterable iter X.env x = pure x := by intro _; rfl) (hs1 : ∀ env x, foldedSetIterable iter1 env x = pure x := by intro _ _; rfl) :
    GK X ad W (.SetComp elt [⟨tg, iter, ifs, 0⟩, ⟨tg1, iter1, ifs1, 0⟩] scope pos) (eSc2 it g t it1 g1 t1 f (own.map (·.2)) vs1) :=
  ⟨(pe_sck2 hc hN hi.run ok hv (fun s H C cl fp => (hg s H C cl fp).run) (fun s H C cl fp => (ht s H C cl fp).run) (fun s H C cl fp => (hi1 s H C cl fp).run) (fun s H C cl fp => (hg1 s H C cl fp).run) (fun s H C cl fp => (ht1 s H C cl fp).run)
    (fun s H C cl fp => (he s H C cl fp).run) hs hs1).imp fun σ H Q ⟨F, ρ, env, S, rs, q⟩ => sc2_read nh rs q⟩
end
end
end Fl
/-! The end: what a law's top has written, as the hypotheses of the layer. -/
namespace Fl
open PySem PySem.Spec L2
open PyProof.Rows hiding St
open ClX (CRead CMet)

section
variable {P : Program} {w : World} {K : PySem.W.Frag} {mg : Str → Option Value} {base : Heap} {ad : Ads} {h : Heap}
theorem fn_mk {x qual : Str} {st : Stmt} {f : Addr} {oc : Value} {od : Option Addr} {dV kV doc pm : Value} {an : Option Addr} {cdv ct : Value} {osl : Array (Option Value)}
    (l : K.lookup f = some ⟨oc, od, .func (PySem.W.fnOf x qual (defArgs st) (defBody st) (defScope st) dV kV doc pm an cdv ct), osl⟩) (c : PySem.W.codeIn K cdv qual = true) :
    Fn K x qual st f (PySem.W.fnOf x qual (defArgs st) (defBody st) (defScope st) dV kV doc pm an cdv ct) := ⟨⟨oc, od, dV, kV, doc, pm, an, cdv, ct, osl, rfl, l, c⟩⟩
/-- a def with defaults: n arguments are given, the defaults behind the first j fill up -/
theorem binds_dfl {x qual : Str} {st : Stmt} {T : Addr} {o : Obj} {kV doc pm : Value} {an : Option Addr} {cdv ct : Value} {ps : List Str} {its ds : List Value} {m : Nat} (n j : Nat) (hT : K.lookup T = some o) (hd : o.data = .seq its.toArray m) (hds : its.drop j = ds) (hn : n + ds.length = ps.length)
    (hb : ∀ us : List Value, us.length = n → ∃ k, bindArgs (PySem.W.fnOf x qual (defArgs st) (defBody st) (defScope st) (.ref T) kV doc pm an cdv ct) ⟨us, []⟩ = seqItems? (.ref T) >>= k ∧ k (some its.toArray) = pure (ps.zip (us ++ its.drop j))) :
    Binds K (PySem.W.fnOf x qual (defArgs st) (defBody st) (defScope st) (.ref T) kV doc pm an cdv ct) ps ds := by
  intro s us X hl
  subst hds
  have l2 : us.length = n := by
    rw [List.length_append] at hl
    omega
  obtain ⟨k, e1, e2⟩ := hb us l2
  refine BindsTo.of_looks fun M => ?_
  rw [e1]
  exact looks_items X hT hd (.of_pure e2)
theorem def_at {x : Str} {f : Addr} {fd : FuncData} {ps : List Str} {n k : Nat} {g : BF} (X : K.In h) (G : h.Ns mainGlobals mg) (a : PySem.W.nsIn K mainGlobals x = some (some (.ref f))) (kp : PySem.W.keepIn K (.ref f) = true)
    (hF : FnOk P w K mg base (L2.CX P w) k f fd ps (spOf K ad n g)) (hn : ps.length = n) (hb : Binds K fd ps []) : DefAt P w K mg base ad k x n [] g :=
  ⟨⟨f, fd, ps, [], [], hF, hn, PySem.W.mg_of X G a, kp, hb, .nil, fun _ _ => .nil⟩⟩
theorem mak_at {c : Str} {C f : Addr} {fd : FuncData} {ps : List Str} {n k : Nat} {g : BF} (X : K.In h) (G : h.Ns mainGlobals mg) (hC : ad (.inl c) = some C) (a : PySem.W.nsIn K mainGlobals c = some (some (.ref C))) (M : Mk K C f)
    (hF : FnOk P w K mg base (L2.CX P w) k f fd ps (spOf K ad n g)) (hn : ps.length = n) (hb : Binds K fd ps []) : MakAt P w K mg base ad k c n [] g :=
  ⟨⟨C, f, fd, ps, [], [], hC, M, PySem.W.mg_of X G a, hF, hn, hb, .nil, fun _ _ => .nil⟩⟩
theorem mak_dv {c : Str} {C f : Addr} {fd : FuncData} {ps : List Str} {n k : Nat} {g : BF} {dv : List Val} {dvs : List V} {ds : List Value} (X : K.In h) (G : h.Ns mainGlobals mg) (hC : ad (.inl c) = some C) (a : PySem.W.nsIn K mainGlobals c = some (some (.ref C))) (M : Mk K C f)
    (hF : FnOk P w K mg base (L2.CX P w) k f fd ps (spOf K ad n g)) (hn : ps.length = n) (hb : Binds K fd ps ds) (hv : L2.Vals dvs ds) (hr : ∀ F ρ, Rps K ad F ρ dv dvs) : MakAt P w K mg base ad k c n dv g :=
  ⟨⟨C, f, fd, ps, dvs, ds, hC, M, PySem.W.mg_of X G a, hF, hn, hb, hv, hr⟩⟩
theorem met_at {c m : Str} {C f : Addr} {fd : FuncData} {ps : List Str} {n k : Nat} {g : BF} (hC : ad (.inl c) = some C) (hc : Cls K C) (hm : Meth K C m f)
    (hF : FnOk P w K mg base (L2.CX P w) k f fd ps (spOf K ad n g)) (hn : ps.length = n) (hb : Binds K fd ps []) : MetAt P w K mg base ad k c m n [] g :=
  ⟨⟨C, f, fd, ps, [], [], hC, hc, hm, hF, hn, hb, .nil, fun _ _ => .nil⟩⟩
theorem clm_at {c m : Str} {C p f : Addr} {mc : Value} {fd : FuncData} {ps : List Str} {n k : Nat} {g : BF} (hC : ad (.inl c) = some C) (hr : CRead K C mc) (hm : CMet K C mc m p f)
    (hF : FnOk P w K mg base (L2.CX P w) k f fd ps (spOf K ad n g)) (hn : ps.length = n) (hb : Binds K fd ps []) : ClmAt P w K mg base ad k c m n [] g :=
  ⟨⟨C, mc, p, f, fd, ps, [], [], hC, hr, hm, hF, hn, hb, .nil, fun _ _ => .nil⟩⟩
theorem eq_at {c : Str} {C f : Addr} {fd : FuncData} {ps : List Str} {k : Nat} {g : BF} (hC : ad (.inl c) = some C) (hc : Cls K C) (hm : Meth K C "__eq__" f) (hF : FnOk P w K mg base (L2.CX P w) k f fd ps (spOf K ad 2 g)) (hb : Binds K fd ps [])
    (hne : PySem.W.findIn K (.ref C) "__ne__" = some (some (.builtin "object.__ne__"))) (hmk : PySem.W.makesIn K C = true) : EqAt P w K mg base ad k c g := ⟨⟨C, f, fd, ps, hC, hc, hm, hF, hb, hne, hmk⟩⟩
theorem str_at {c : Str} {C f : Addr} {fd : FuncData} {ps : List Str} {k : Nat} {g : BF} (hC : ad (.inl c) = some C) (hc : Cls K C) (hm : Meth K C "__str__" f) (hF : FnOk P w K mg base (L2.CX P w) k f fd ps (spOf K ad 1 g)) (hb : Binds K fd ps []) : StrAt P w K mg base ad k c g := ⟨⟨C, f, fd, ps, hC, hc, hm, hF, hb⟩⟩
theorem err_at {c f : Str} {C fI : Addr} {fd : FuncData} {self p : Str} {x qual : Str} {st : Stmt} {ps1 p2 p3 pos : Pos} (X : K.In h) (G : h.Ns mainGlobals mg) (hC : ad (.inr c) = some C) (a : PySem.W.nsIn K mainGlobals c = some (some (.ref C))) (hO : OexC K C)
    (hi : PySem.W.findIn K (.ref C) "__init__" = some (some (.ref fI))) (ht : PySem.W.typeIn K (.ref fI) = some (.type "function")) (hno : PySem.W.findIn K (.ref C) f = some none)
    (hst : defBody st = [.Assign [.Attribute (.Name self ps1) f p2] (.Name p p3) pos]) (Fz : Fn K x qual st fI fd) (Sc : FnScope [self, p] [self, p] (defScope st)) (hb : Binds K fd [self, p] [])
    (hsf : ((self == ("__debug__" : Str)) = false ∧ (self == ("__classdict__" : Str)) = false) ∧ (p == ("__debug__" : Str)) = false ∧ (p == ("__classdict__" : Str)) = false := by decide) : ErrAt P w K mg base ad 1 c f :=
  ⟨⟨C, fI, fd, _, hC, hO, hi, ht, hno, ini_ok (k := 0) hst Fz Sc hsf, hb, PySem.W.mg_of X G a⟩⟩
theorem gl_str {x : Str} {z : Str} {t : Tok} (X : K.In h) (G : h.Ns mainGlobals mg) (a : PySem.W.nsIn K mainGlobals x = some (some (.str z t))) : GlAt K mg ad x (.str z) := ⟨.str z, _, PySem.W.mg_of X G a, ⟨t, rfl⟩, fun _ _ => .str z⟩
theorem gl_int {x : Str} {z : Int} {t : Tok} (X : K.In h) (G : h.Ns mainGlobals mg) (a : PySem.W.nsIn K mainGlobals x = some (some (.int z t))) : GlAt K mg ad x (.int z) := ⟨.int z, _, PySem.W.mg_of X G a, ⟨t, rfl⟩, fun _ _ => .int z⟩
/-- texts as they stand in the program's top -/
inductive StrsW : List Str → List Value → Prop
  | nil : StrsW [] []
  | cons {x : Str} {t : Tok} {xs : List Str} {vs : List Value} : StrsW xs vs → StrsW (x :: xs) (.str x t :: vs)
theorem StrsW.vals : ∀ {xs : List Str} {vs : List Value}, StrsW xs vs → L2.Vals (xs.map V.str) vs
  | _, _, .nil => .nil
  | _, _, .cons r => .cons ⟨_, rfl⟩ r.vals
theorem gl_tup {x : Str} {zs : List Str} {T : Addr} {o : Obj} {its : Array Value} {n : Nat} (X : K.In h) (G : h.Ns mainGlobals mg) (a : PySem.W.nsIn K mainGlobals x = some (some (.ref T))) (l : K.lookup T = some o) (hc : o.cls = .type "tuple") (hd : o.data = .seq its n)
    (hs : StrsW zs its.toList) (hz : its.size ≤ sizeLine) : GlAt K mg ad x (.tup (zs.map Val.str)) := by
  refine ⟨.ref T, _, PySem.W.mg_of X G a, rfl, fun F ρ => .tup (vs := zs.map V.str) (.inr ⟨o, its, n, l, hc, hd, hz, hs.vals⟩) ?_⟩
  clear hs
  induction zs with
  | nil => exact .nil
  | cons z zs ih => exact .cons (.str z) ih
/-- a dict as it stands in the program's top -/
inductive TabW (K : PySem.W.Frag) (ad : Ads) (P : Params) : List DictEntry → List (Str × Val) → Prop
  | nil : TabW K ad P [] []
  | cons {e : DictEntry} {x : Str} {t : Tok} {v : V} {y : Val} {r : List DictEntry} {tab : List (Str × Val)} : e.key = .str x t → e.hash = PyData.keyHash P x → RelV v e.val → (∀ F ρ, Rp K ad F ρ y v) → TabW K ad P r tab → TabW K ad P (e :: r) ((x, y) :: tab)
theorem TabW.lit : ∀ {es : List DictEntry} {tab : List (Str × Val)}, TabW K ad w.params es tab → PySem.W.KeysLit w.params es
  | _, _, .nil => trivial
  | _, _, .cons h1 h2 _ _ r => ⟨⟨_, _, h1, h2⟩, r.lit⟩
theorem TabW.find : ∀ {es : List DictEntry} {tab : List (Str × Val)} (z : Str), TabW K ad w.params es tab →
    (∃ e v y, es.find? (·.key.isStr z) = some e ∧ RelV v e.val ∧ tab.lookup z = some y ∧ ∀ F ρ, Rp K ad F ρ y v) ∨ (es.find? (·.key.isStr z) = none ∧ tab.lookup z = none ∧ es.any (·.refKey) = false)
  | _, _, z, .nil => .inr ⟨rfl, rfl, rfl⟩
  | _, _, z, .cons (e := e) (x := x) (y := y) (tab := tab) (r := r) h1 h2 h3 h4 rr => by
    have hk : e.key.isStr z = (x == z) := by rw [h1]; rfl
    have hr : e.refKey = false := by unfold DictEntry.refKey; rw [h1]
    by_cases hx : x = z
    · subst hx
      refine .inl ⟨e, _, y, ?_, h3, ?_, h4⟩
      · rw [List.find?_cons, hk]; simp
      · rw [List.lookup_cons]; simp
    · have h5 : (x == z) = false := by simpa using hx
      have h6 : (z == x) = false := by simpa using fun e => hx e.symm
      rcases TabW.find z rr with ⟨e', v, y', q1, q2, q3, q4⟩ | ⟨q1, q2, q3⟩
      · refine .inl ⟨e', v, y', ?_, q2, ?_, q4⟩
        · rw [List.find?_cons, hk, h5]; exact q1
        · rw [List.lookup_cons, h6]; exact q3
      · refine .inr ⟨?_, ?_, ?_⟩
        · rw [List.find?_cons, hk, h5]; exact q1
        · rw [List.lookup_cons, h6]; exact q2
        · rw [List.any_cons, hr, q3]; rfl
theorem wdict_of {p : Addr} {es : Array DictEntry} {n : Nat} {tab : List (Str × Val)} (l : K.lookup p = some ⟨.type "dict", none, .dict es n, #[]⟩) (t : TabW K ad w.params es.toList tab) (low : (p == sysModules) = false) : WDict K w ad p tab := by
  refine ⟨⟨es, n, l, t.lit, low, fun z => ?_⟩⟩
  have hn : PySem.W.nsIn K p z = (match es.toList.find? (·.key.isStr z) with
      | some e => some (some e.val)
      | none => if es.toList.any (·.refKey) then none else some none) := by unfold PySem.W.nsIn; rw [l]; rfl
  rcases t.find z with ⟨e, v, y, q1, q2, q3, q4⟩ | ⟨q1, q2, q3⟩
  · exact .inl ⟨e.val, v, y, by rw [hn, q1], q2, q3, q4⟩
  · exact .inr ⟨by rw [hn, q1, q3]; rfl, q2⟩
theorem kit_own {A : Addr} (hc : PySem.W.isClsIn K A = true) (ht : PySem.W.typeIn K (.ref A) = some (.type "type")) (T : String) (hT : (fastBuiltinMro T).map (·.contains (.ref A)) = some false) : PySem.W.kitOne K (.type T) (.ref A) = some false := by
  unfold PySem.W.kitOne
  rw [if_neg (by simp)]
  unfold PySem.W.kitCls
  have h1 : ((PySem.W.clsIn K A).isSome && PySem.W.typeIn K (.ref A) == some (.type "type")) = true := by
    rw [ht, show (PySem.W.clsIn K A).isSome = true from hc]; rfl
  dsimp only
  rw [if_pos h1]
  exact hT
/-- what isinstance answers: an own class -/
theorem isi_own {d : Str} {A : Addr} (hc : PySem.W.isClsIn K A = true) (ht : PySem.W.typeIn K (.ref A) = some (.type "type"))
    (ho : ∀ c C, ad (.inl c) = some C → PySem.W.kitOne K (.ref C) (.ref A) = some (isOwn d (.own c))) : IsiOk K ad (.ref A) (isOwn d) := by
  intro k v hv
  cases k
  · cases hv; exact kit_own hc ht _ (by kernel_rfl)
  · cases hv; exact kit_own hc ht _ (by kernel_rfl)
  · cases hv; exact kit_own hc ht _ (by kernel_rfl)
  · cases hv; exact kit_own hc ht _ (by kernel_rfl)
  · cases hv; exact kit_own hc ht _ (by kernel_rfl)
  · cases hv; exact kit_own hc ht _ (by kernel_rfl)
  · cases hv; exact kit_own hc ht _ (by kernel_rfl)
  · obtain ⟨C, hC, rfl⟩ := hv; exact ho _ _ hC
end
/-- the law is asked -/
theorem hcx {P : Program} {w : World} (H : Hp) (s : Shared) (e : Value) (s' : Shared) (z : L2.CX P w [] H s (fun _ _ _ => False) e s') : False := by
  obtain ⟨_, _, _, _, _, _, _, _, _, _, _, _, hE⟩ := z
  exact hE
end Fl
/-! == of tuples and lists of things with an own __eq__; a text or None == such a thing. -/
namespace GD
open PySem PySem.SeqAt
open AutoSeq1 (wpAny_loadPart')
open MeetsSeq MeetsSeq2 MeetsSeq3 SeqRoads2
section
variable {prog : Program} {w : World} {A : Around} {R : Result → Shared → Prop}
abbrev FinOf (prog : Program) (w : World) (A : Around) (R : Result → Shared → Prop) : Fin → Shared → Prop := fun fin s' => match fin with
  | .done f => R (.ok f) s'
  | .again c' => c'.quiet = true ∧ codeAny (model prog w) A c' R s'
/-- what a turn over two sequences does: a pair that is unequal ends it -/
def Turns (prog : Program) (w : World) (A : Around) (E : Value → Shared → Prop) (items items2 : Array Value) (I : Nat → Shared → Prop) (Dn : Shared → Prop) : Prop :=
  ∀ i (h1 : i < items.size) (h2 : i < items2.size) s, I i s → wpAny (model prog w) A.in1 (eqBool items[i] items2[i]) (fun r s' => (r = true → I (i + 1) s') ∧ (r = false → Dn s')) E s
theorem tuple_eqD (l b : Addr) (items items2 : Array Value) (n n2 : Nat) (dd dd2 : Option Addr) (sl sl2 : Array (Option Value)) (I : Nat → Shared → Prop) (Dn : Shared → Prop)
    (turn : Turns prog w A (fun e s' => R (.error e) s') items items2 I Dn)
    (fin : ∀ s, I (min items.size items2.size) s → R (.ok (.ret (.bool (items.size == items2.size)))) s) (dn : ∀ s, Dn s → R (.ok (.ret (.bool false))) s)
    {s : Shared} (hl1 : s.heap.get? l = some { cls := .type "tuple", dict := dd, data := .seq items n, slots := sl }) (hb1 : s.heap.get? b = some { cls := .type "tuple", dict := dd2, data := .seq items2 n2, slots := sl2 }) (h : I 0 s) :
    wpAny (model prog w) A.in1 (Builtin.«tuple.__eq__» ⟨[.ref l, .ref b], []⟩) (FinOf prog w A R) (fun e s' => R (.error e) s') s := by
  have f2 := AutoSeq1.sub_tuple_tuple
  have hZ : (items.toList.zip items2.toList).length = min items.size items2.size := by simp
  have h0 := h
  obtain ⟨hp, g, d, tk, os⟩ := s
  wp_walk using wpAny_loadPart' hl1, wpAny_loadPart' hb1, wpAny_forIn_list _ (fun rest b s' => b.1 = none ∧ ∃ i, rest = (items.toList.zip items2.toList).drop i ∧ i ≤ min items.size items2.size ∧ I i s') _
  case turn =>
    rintro ⟨y, x⟩ rest b s' ⟨hb', i, hz, hi, hI⟩
    have hlt : i < (items.toList.zip items2.toList).length := by
      rcases Nat.lt_or_ge i (items.toList.zip items2.toList).length with h' | h'
      · exact h'
      · rw [List.drop_of_length_le h'] at hz; cases hz
    have hm : i < min items.size items2.size := hZ ▸ hlt
    have h1 : i < items.size := Nat.lt_of_lt_of_le hm (Nat.min_le_left _ _)
    have h2 : i < items2.size := Nat.lt_of_lt_of_le hm (Nat.min_le_right _ _)
    rw [List.drop_eq_getElem_cons hlt] at hz
    injection hz with hyx hrest
    have hy : y = items[i] := by have := congrArg Prod.fst hyx; simpa using this
    have hx : x = items2[i] := by have := congrArg Prod.snd hyx; simpa using this
    subst hy hx
    refine wpAny_bind (wpAny_mono (turn i h1 h2 s' hI) (fun r s2 q2 => ?_) fun _ _ x => x)
    obtain ⟨q1, q2⟩ := q2
    cases r with
    | true =>
      have q1 := q1 rfl
      clear q2
      wp_walk
      exact ⟨rfl, i + 1, hrest, hm, q1⟩
    | false =>
      have q2 := dn _ (q2 rfl)
      clear q1
      obtain ⟨hp2, g2, d2, tk2, os2⟩ := s2
      wp_walk
      exact q2
  case fin =>
    rintro ⟨b1, b2⟩ s' ⟨hb', i, hz, hi, hI⟩
    simp only at hb'
    subst hb'
    have hge : min items.size items2.size ≤ i := by
      rcases Nat.lt_or_ge i (items.toList.zip items2.toList).length with h' | h'
      · rw [List.drop_eq_getElem_cons h'] at hz; cases hz
      · exact hZ ▸ h'
    have hi' : i = min items.size items2.size := Nat.le_antisymm hi hge
    have hR := fin s' (hi' ▸ hI)
    wp_walk
    simpa [Builtin.Tuple.tupleCompareSizes] using hR
  case h =>
    exact ⟨rfl, 0, rfl, Nat.zero_le _, h0⟩
theorem tuple_neD (l b : Addr) (items items2 : Array Value) (n n2 : Nat) (dd dd2 : Option Addr) (sl sl2 : Array (Option Value)) (I : Nat → Shared → Prop) (Dn : Shared → Prop)
    (turn : Turns prog w A (fun e s' => R (.error e) s') items items2 I Dn)
    (fin : ∀ s, I (min items.size items2.size) s → R (.ok (.ret (.bool (!(items.size == items2.size))))) s) (dn : ∀ s, Dn s → R (.ok (.ret (.bool true))) s)
    {s : Shared} (hl1 : s.heap.get? l = some { cls := .type "tuple", dict := dd, data := .seq items n, slots := sl }) (hb1 : s.heap.get? b = some { cls := .type "tuple", dict := dd2, data := .seq items2 n2, slots := sl2 }) (h : I 0 s) :
    wpAny (model prog w) A.in1 (Builtin.«tuple.__ne__» ⟨[.ref l, .ref b], []⟩) (FinOf prog w A R) (fun e s' => R (.error e) s') s := by
  have f2 := AutoSeq1.sub_tuple_tuple
  have hZ : (items.toList.zip items2.toList).length = min items.size items2.size := by simp
  have h0 := h
  obtain ⟨hp, g, d, tk, os⟩ := s
  wp_walk using wpAny_loadPart' hl1, wpAny_loadPart' hb1, wpAny_forIn_list _ (fun rest b s' => b.1 = none ∧ ∃ i, rest = (items.toList.zip items2.toList).drop i ∧ i ≤ min items.size items2.size ∧ I i s') _
  case turn =>
    rintro ⟨y, x⟩ rest b s' ⟨hb', i, hz, hi, hI⟩
    have hlt : i < (items.toList.zip items2.toList).length := by
      rcases Nat.lt_or_ge i (items.toList.zip items2.toList).length with h' | h'
      · exact h'
      · rw [List.drop_of_length_le h'] at hz; cases hz
    have hm : i < min items.size items2.size := hZ ▸ hlt
    have h1 : i < items.size := Nat.lt_of_lt_of_le hm (Nat.min_le_left _ _)
    have h2 : i < items2.size := Nat.lt_of_lt_of_le hm (Nat.min_le_right _ _)
    rw [List.drop_eq_getElem_cons hlt] at hz
    injection hz with hyx hrest
    have hy : y = items[i] := by have := congrArg Prod.fst hyx; simpa using this
    have hx : x = items2[i] := by have := congrArg Prod.snd hyx; simpa using this
    subst hy hx
    refine wpAny_bind (wpAny_mono (turn i h1 h2 s' hI) (fun r s2 q2 => ?_) fun _ _ x => x)
    obtain ⟨q1, q2⟩ := q2
    cases r with
    | true =>
      have q1 := q1 rfl
      clear q2
      wp_walk
      exact ⟨rfl, i + 1, hrest, hm, q1⟩
    | false =>
      have q2 := dn _ (q2 rfl)
      clear q1
      obtain ⟨hp2, g2, d2, tk2, os2⟩ := s2
      wp_walk
      exact q2
  case fin =>
    rintro ⟨b1, b2⟩ s' ⟨hb', i, hz, hi, hI⟩
    simp only at hb'
    subst hb'
    have hge : min items.size items2.size ≤ i := by
      rcases Nat.lt_or_ge i (items.toList.zip items2.toList).length with h' | h'
      · rw [List.drop_eq_getElem_cons h'] at hz; cases hz
      · exact hZ ▸ h'
    have hi' : i = min items.size items2.size := Nat.le_antisymm hi hge
    have hR := fin s' (hi' ▸ hI)
    wp_walk
    simpa [Builtin.Tuple.tupleCompareSizes, bne] using hR
  case h =>
    exact ⟨rfl, 0, rfl, Nat.zero_le _, h0⟩
end
section
variable {prog : Program} {w : World} {A : Around} {E : Value → Shared → Prop} {s : Shared}
theorem rc_tupEq {l b : Addr} {items items2 : Array Value} {Q : Value → Shared → Prop} (hu : A.units < cLine) (I : Nat → Shared → Prop) (Dn : Shared → Prop)
    (hl : s.heap.IsTuple l items) (hb : s.heap.IsTuple b items2) (turn : Turns prog w A E items items2 I Dn)
    (fin : ∀ s, I (min items.size items2.size) s → Q (.bool (items.size == items2.size)) s) (dn : ∀ s, Dn s → Q (.bool false) s) (h : I 0 s) : wpAny (model prog w) A (richCompare .Eq (.ref l) (.ref b)) Q E s := by
  obtain ⟨⟨cls, dd, data, sl⟩, ho, hc, n, hd⟩ := id hl
  obtain ⟨⟨cls2, dd2, data2, sl2⟩, ho2, hc2, n2, hd2⟩ := id hb
  simp only at hc hd hc2 hd2
  subst hc hd hc2 hd2
  refine wpAny_richCompare_same_room (op := .Eq) ⟨_, ho, rfl⟩ ⟨_, ho2, rfl⟩ F.slot_tuple_eq (GQ.call_here F.slot_tuple_eq ⟨_, ho, rfl⟩ F.entry_tuple_eq (F.args_tuple_eq_2 _ _) ?_) hu
  exact tuple_eqD (R := wants (fun v s' => v ≠ .notImplemented ∧ Q v s') E) l b items items2 n n2 dd dd2 sl sl2 I Dn turn (fun s' q => ⟨(fun x => nomatch x), fin s' q⟩) (fun s' q => ⟨(fun x => nomatch x), dn s' q⟩) ho ho2 h
theorem rc_tupNe {l b : Addr} {items items2 : Array Value} {Q : Value → Shared → Prop} (hu : A.units < cLine) (I : Nat → Shared → Prop) (Dn : Shared → Prop)
    (hl : s.heap.IsTuple l items) (hb : s.heap.IsTuple b items2) (turn : Turns prog w A E items items2 I Dn)
    (fin : ∀ s, I (min items.size items2.size) s → Q (.bool (!(items.size == items2.size))) s) (dn : ∀ s, Dn s → Q (.bool true) s) (h : I 0 s) : wpAny (model prog w) A (richCompare .NotEq (.ref l) (.ref b)) Q E s := by
  obtain ⟨⟨cls, dd, data, sl⟩, ho, hc, n, hd⟩ := id hl
  obtain ⟨⟨cls2, dd2, data2, sl2⟩, ho2, hc2, n2, hd2⟩ := id hb
  simp only at hc hd hc2 hd2
  subst hc hd hc2 hd2
  refine wpAny_richCompare_same_room (op := .NotEq) ⟨_, ho, rfl⟩ ⟨_, ho2, rfl⟩ F.slot_tuple_ne (GQ.call_here F.slot_tuple_ne ⟨_, ho, rfl⟩ F.entry_tuple_ne (F.args_tuple_ne_2 _ _) ?_) hu
  exact tuple_neD (R := wants (fun v s' => v ≠ .notImplemented ∧ Q v s') E) l b items items2 n n2 dd dd2 sl sl2 I Dn turn (fun s' q => ⟨(fun x => nomatch x), fin s' q⟩) (fun s' q => ⟨(fun x => nomatch x), dn s' q⟩) ho ho2 h
end
end GD
namespace GD
open PySem PySem.SeqAt
open AutoSeq1 (wpAny_loadPart')
open MeetsSeq MeetsSeq2 MeetsSeq3 SeqRoads2
section
variable {prog : Program} {w : World} {A : Around} {R : Result → Shared → Prop}

/-- at each turn the two lists are read anew: N items each -/
def ListJ (prog : Program) (w : World) (A : Around) (E : Value → Shared → Prop) (l b : Addr) (N : Nat) (I : Nat → Shared → Prop) (Dn : Shared → Prop) : Prop :=
  (∀ i s, I i s → ∃ (items items2 : Array Value) (n n2 : Nat), s.heap.get? l = some { cls := .type "list", data := .seq items n } ∧ s.heap.get? b = some { cls := .type "list", data := .seq items2 n2 } ∧ items.size = N ∧ items2.size = N ∧
    ∀ (h1 : i < items.size) (h2 : i < items2.size), wpAny (model prog w) A.in1 (eqBool items[i] items2[i]) (fun r s' => (r = true → I (i + 1) s') ∧ (r = false → Dn s')) E s) ∧
  ∀ s, Dn s → ∃ (items items2 : Array Value) (n n2 : Nat), s.heap.get? l = some { cls := .type "list", data := .seq items n } ∧ s.heap.get? b = some { cls := .type "list", data := .seq items2 n2 } ∧ items.size = N ∧ items2.size = N

theorem eq_loopD (l b : Addr) (N : Nat) (I : Nat → Shared → Prop) (Dn : Shared → Prop) (hl : ListJ prog w A (fun e s' => R (.error e) s') l b N I Dn)
    (fin : ∀ s, I N s → R (.ok (.ret (.bool true))) s) (dn : ∀ s, Dn s → R (.ok (.ret (.bool false))) s) (k : Nat) :
    ∀ i : Nat, N - i = k → i ≤ N → ∀ s, I i s →
      wpAny (model prog w) A.in1 (Builtin.«list.__eq__.loop» ⟨[.ref l, .ref b, rawInt i, rawInt 2], []⟩) (FinOf prog w A R) (fun e s' => R (.error e) s') s := by
  induction k with
  | zero =>
    intro i hk hi s h
    obtain ⟨items, items2, n, n2, hl1, hb1, hs1, hs2, _⟩ := hl.1 _ _ h
    have hi' : i = N := by omega
    have hR : R (.ok (.ret (.bool true))) s := fin s (hi' ▸ h)
    obtain ⟨hp, g, d, tk, os⟩ := s
    wp_walk using wpAny_loadPart' hl1, wpAny_loadPart' hb1
    have hi1 : items[((i : Nat) : Int).toNat]? = none := by simp; omega
    have hi2 : items2[((i : Nat) : Int).toNat]? = none := by simp; omega
    rw [hi1, hi2]
    wp_walk using wpAny_loadPart' hl1, wpAny_loadPart' hb1
    show R (.ok (.ret (.bool (items.size == items2.size)))) _
    rw [hs1, hs2]
    simpa using hR
  | succ k ih =>
    intro i hk hi s h
    obtain ⟨items, items2, n, n2, hl1, hb1, hs1, hs2, turn⟩ := hl.1 _ _ h
    have hlt : i < items.size := by omega
    have hlt2 : i < items2.size := by omega
    have ht := turn hlt hlt2
    obtain ⟨hp, g, d, tk, os⟩ := s
    wp_walk using wpAny_loadPart' hl1, wpAny_loadPart' hb1
    have hi1 : items[((i : Nat) : Int).toNat]? = some items[i] := by simp [hlt]
    have hi2 : items2[((i : Nat) : Int).toNat]? = some items2[i] := by simp [hlt2]
    have hc : ((i : Int) + 1) = ((i + 1 : Nat) : Int) := by omega
    rw [hi1, hi2]
    refine wpAny_bind (wpAny_mono ht (fun r s2 h2 => ?_) fun _ _ x => x)
    obtain ⟨q1, q2⟩ := h2
    cases r with
    | true =>
      have hrec := ih (i + 1) (by omega) (by omega) s2 (q1 rfl)
      obtain ⟨hp2, g2, d2, tk2, os2⟩ := s2
      wp_walk
      rw [hc]
      exact ⟨plainId_quiet plain_eq_loop _, codeAny_builtin entry_eq_loop (by
        rw [Around.under_plainId plain_eq_loop _]
        exact hrec)⟩
    | false =>
      have q2 := q2 rfl
      obtain ⟨it3, it4, n3, n4, hl3, hb3, hs3, hs4⟩ := hl.2 _ q2
      have q3 := dn _ q2
      clear q1 q2 ht turn h
      obtain ⟨hp2, g2, d2, tk2, os2⟩ := s2
      have hlt3 : i < it3.size := by omega
      have hlt4 : i < it4.size := by omega
      have hi3 : it3[((i : Nat) : Int).toNat]? = some it3[i] := by simp [hlt3]
      have hi4 : it4[((i : Nat) : Int).toNat]? = some it4[i] := by simp [hlt4]
      wp_walk using wpAny_loadPart' hl3, wpAny_loadPart' hb3
      rw [hi3, hi4]
      wp_walk
      simpa using q3
theorem list_eqD (l b : Addr) (N : Nat) (I : Nat → Shared → Prop) (Dn : Shared → Prop) (hl : ListJ prog w A (fun e s' => R (.error e) s') l b N I Dn)
    (fin : ∀ s, I N s → R (.ok (.ret (.bool true))) s) (dn : ∀ s, Dn s → R (.ok (.ret (.bool false))) s) {s : Shared} (h : I 0 s) :
    wpAny (model prog w) A.in1 (Builtin.«list.__eq__» ⟨[.ref l, .ref b], []⟩) (FinOf prog w A R) (fun e s' => R (.error e) s') s := by
  obtain ⟨items, items2, n, n2, hl1, hb1, hs1, hs2, _⟩ := hl.1 _ _ h
  have hrec := eq_loopD (A := A) (R := R) l b N I Dn hl fin dn _ 0 rfl (Nat.zero_le _) s h
  obtain ⟨hp, g, d, tk, os⟩ := s
  have f3 := AutoSeq1.sub_list_list
  have hne : ¬ (items.size != items2.size) = true := by simp [hs1, hs2]
  wp_walk using wpAny_loadPart' hl1, wpAny_loadPart' hb1
  exact ⟨plainId_quiet plain_eq_loop _, codeAny_builtin entry_eq_loop (by
    rw [Around.under_plainId plain_eq_loop _]
    exact hrec)⟩

theorem ne_loopD (l b : Addr) (N : Nat) (I : Nat → Shared → Prop) (Dn : Shared → Prop) (hl : ListJ prog w A (fun e s' => R (.error e) s') l b N I Dn)
    (fin : ∀ s, I N s → R (.ok (.ret (.bool false))) s) (dn : ∀ s, Dn s → R (.ok (.ret (.bool true))) s) (k : Nat) :
    ∀ i : Nat, N - i = k → i ≤ N → ∀ s, I i s →
      wpAny (model prog w) A.in1 (Builtin.«list.__eq__.loop» ⟨[.ref l, .ref b, rawInt i, rawInt 3], []⟩) (FinOf prog w A R) (fun e s' => R (.error e) s') s := by
  induction k with
  | zero =>
    intro i hk hi s h
    obtain ⟨items, items2, n, n2, hl1, hb1, hs1, hs2, _⟩ := hl.1 _ _ h
    have hi' : i = N := by omega
    have hR : R (.ok (.ret (.bool false))) s := fin s (hi' ▸ h)
    obtain ⟨hp, g, d, tk, os⟩ := s
    wp_walk using wpAny_loadPart' hl1, wpAny_loadPart' hb1
    have hi1 : items[((i : Nat) : Int).toNat]? = none := by simp; omega
    have hi2 : items2[((i : Nat) : Int).toNat]? = none := by simp; omega
    rw [hi1, hi2]
    wp_walk using wpAny_loadPart' hl1, wpAny_loadPart' hb1
    show R (.ok (.ret (.bool (items.size != items2.size)))) _
    rw [hs1, hs2]
    simpa using hR
  | succ k ih =>
    intro i hk hi s h
    obtain ⟨items, items2, n, n2, hl1, hb1, hs1, hs2, turn⟩ := hl.1 _ _ h
    have hlt : i < items.size := by omega
    have hlt2 : i < items2.size := by omega
    have ht := turn hlt hlt2
    obtain ⟨hp, g, d, tk, os⟩ := s
    wp_walk using wpAny_loadPart' hl1, wpAny_loadPart' hb1
    have hi1 : items[((i : Nat) : Int).toNat]? = some items[i] := by simp [hlt]
    have hi2 : items2[((i : Nat) : Int).toNat]? = some items2[i] := by simp [hlt2]
    have hc : ((i : Int) + 1) = ((i + 1 : Nat) : Int) := by omega
    rw [hi1, hi2]
    refine wpAny_bind (wpAny_mono ht (fun r s2 h2 => ?_) fun _ _ x => x)
    obtain ⟨q1, q2⟩ := h2
    cases r with
    | true =>
      have hrec := ih (i + 1) (by omega) (by omega) s2 (q1 rfl)
      obtain ⟨hp2, g2, d2, tk2, os2⟩ := s2
      wp_walk
      rw [hc]
      exact ⟨plainId_quiet plain_eq_loop _, codeAny_builtin entry_eq_loop (by
        rw [Around.under_plainId plain_eq_loop _]
        exact hrec)⟩
    | false =>
      have q2 := q2 rfl
      obtain ⟨it3, it4, n3, n4, hl3, hb3, hs3, hs4⟩ := hl.2 _ q2
      have q3 := dn _ q2
      clear q1 q2 ht turn h
      obtain ⟨hp2, g2, d2, tk2, os2⟩ := s2
      have hlt3 : i < it3.size := by omega
      have hlt4 : i < it4.size := by omega
      have hi3 : it3[((i : Nat) : Int).toNat]? = some it3[i] := by simp [hlt3]
      have hi4 : it4[((i : Nat) : Int).toNat]? = some it4[i] := by simp [hlt4]
      wp_walk using wpAny_loadPart' hl3, wpAny_loadPart' hb3
      rw [hi3, hi4]
      wp_walk
      simpa using q3
theorem list_neD (l b : Addr) (N : Nat) (I : Nat → Shared → Prop) (Dn : Shared → Prop) (hl : ListJ prog w A (fun e s' => R (.error e) s') l b N I Dn)
    (fin : ∀ s, I N s → R (.ok (.ret (.bool false))) s) (dn : ∀ s, Dn s → R (.ok (.ret (.bool true))) s) {s : Shared} (h : I 0 s) :
    wpAny (model prog w) A.in1 (Builtin.«list.__ne__» ⟨[.ref l, .ref b], []⟩) (FinOf prog w A R) (fun e s' => R (.error e) s') s := by
  obtain ⟨items, items2, n, n2, hl1, hb1, hs1, hs2, _⟩ := hl.1 _ _ h
  have hrec := ne_loopD (A := A) (R := R) l b N I Dn hl fin dn _ 0 rfl (Nat.zero_le _) s h
  obtain ⟨hp, g, d, tk, os⟩ := s
  have f3 := AutoSeq1.sub_list_list
  have hne : ¬ (items.size != items2.size) = true := by simp [hs1, hs2]
  wp_walk using wpAny_loadPart' hl1, wpAny_loadPart' hb1
  exact ⟨plainId_quiet plain_eq_loop _, codeAny_builtin entry_eq_loop (by
    rw [Around.under_plainId plain_eq_loop _]
    exact hrec)⟩
end
section
variable {prog : Program} {w : World} {A : Around} {E : Value → Shared → Prop} {s : Shared}

theorem rc_listeq {l b : Addr} {N : Nat} {Q : Value → Shared → Prop} (hu : A.units < cLine) (I : Nat → Shared → Prop) (Dn : Shared → Prop) (hl : ListJ prog w A E l b N I Dn)
    (fin : ∀ s, I N s → Q (.bool true) s) (dn : ∀ s, Dn s → Q (.bool false) s) (h : I 0 s) : wpAny (model prog w) A (richCompare .Eq (.ref l) (.ref b)) Q E s := by
  obtain ⟨items, items2, n, n2, hl1, hb1, _, _, _⟩ := hl.1 _ _ h
  refine wpAny_richCompare_same_room (op := .Eq) ⟨_, hl1, rfl⟩ ⟨_, hb1, rfl⟩ F.slot_list_eq (GQ.call_here F.slot_list_eq ⟨_, hl1, rfl⟩ F.entry_list_eq (F.args_list_eq_2 _ _) ?_) hu
  exact list_eqD (R := wants (fun v s' => v ≠ .notImplemented ∧ Q v s') E) l b N I Dn hl (fun s' q => ⟨(fun x => nomatch x), fin s' q⟩) (fun s' q => ⟨(fun x => nomatch x), dn s' q⟩) h

theorem rc_listne {l b : Addr} {N : Nat} {Q : Value → Shared → Prop} (hu : A.units < cLine) (I : Nat → Shared → Prop) (Dn : Shared → Prop) (hl : ListJ prog w A E l b N I Dn)
    (fin : ∀ s, I N s → Q (.bool false) s) (dn : ∀ s, Dn s → Q (.bool true) s) (h : I 0 s) : wpAny (model prog w) A (richCompare .NotEq (.ref l) (.ref b)) Q E s := by
  obtain ⟨items, items2, n, n2, hl1, hb1, _, _, _⟩ := hl.1 _ _ h
  refine wpAny_richCompare_same_room (op := .NotEq) ⟨_, hl1, rfl⟩ ⟨_, hb1, rfl⟩ F.slot_list_ne (GQ.call_here F.slot_list_ne ⟨_, hl1, rfl⟩ F.entry_list_ne (F.args_list_ne_2 _ _) ?_) hu
  exact list_neD (R := wants (fun v s' => v ≠ .notImplemented ∧ Q v s') E) l b N I Dn hl (fun s' q => ⟨(fun x => nomatch x), fin s' q⟩) (fun s' q => ⟨(fun x => nomatch x), dn s' q⟩) h
end
end GD
namespace Fl
open PySem PySem.Spec L2
open PyProof.Rows hiding St
mutual
/-- may the two stand at one place -/
def sPl : Val → Val → Bool
  | .str a, .str b => a == b
  | .int a, .int b => a == b
  | .bl a, .bl b => a == b
  | .tup xs, .tup ys => sPls xs ys
  | .lst xs, .lst ys => sPls xs ys
  | .wls xs, .wls ys => sPls xs ys
  | .obj _ fs, .obj _ gs => sPlf fs gs
  | _, _ => true
def sPls : List Val → List Val → Bool
  | [], [] => true
  | x :: xs, y :: ys => sPl x y && sPls xs ys
  | _, _ => false
def sPlf : List (Str × Val) → List (Str × Val) → Bool
  | [], [] => true
  | (f, x) :: xs, (g, y) :: ys => f == g && (sPl x y && sPlf xs ys)
  | _, _ => false
end
section
variable {X : Cx} {ad : Ads} {pins : List (Addr × Obj)} {σ : L2.St} {H F : Hp} {s : Shared} {ρ : Rts}
mutual
theorem sPl_of (I : Inv X pins σ H s) (sub : Sub F H) : ∀ {x y : Val} {u : V}, Rp X.K ad F ρ x u → Rp X.K ad F ρ y u → sPl x y = true
  | .str a, .str b, _, r, q => by cases r; cases q; simp [sPl]
  | .int a, .int b, _, r, q => by cases r; cases q; simp [sPl]
  | .bl a, .bl b, _, r, q => by cases r; cases q; simp [sPl]
  | .tup xs, .tup ys, _, r, q => by
    cases r with
    | tup h1 h2 => cases q with
      | tup k1 k2 =>
        have e := I.tuple_inj (Sub.tup sub h1) (Sub.tup sub k1)
        subst e
        unfold sPl
        exact sPls_of I sub h2 k2
  | .lst xs, .lst ys, _, r, q => by
    cases r with
    | lst h1 h2 => cases q with
      | lst k1 k2 =>
        have e := h1.symm.trans k1
        cases e
        unfold sPl
        exact sPls_of I sub h2 k2
  | .wls xs, .wls ys, _, r, q => by
    cases r with
    | wls h1 h2 => cases q with
      | wls k1 k2 =>
        have e := I.list_inj (Same.seq sub h1) (Same.seq sub k1)
        subst e
        unfold sPl
        exact sPls_of I sub h2 k2
  | .obj c fs, .obj d gs, _, r, q => by
    cases r with
    | obj h0 h1 h2 => cases q with
      | obj k0 k1 k2 =>
        have e := h1.symm.trans k1
        cases e
        unfold sPl
        exact sPlf_of I sub h2 k2
  | .non, _, _, _, _ => by unfold sPl; rfl
  | .ref _, _, _, _, _ => by unfold sPl; rfl
  | .glb _, _, _, _, _ => by unfold sPl; rfl
  | .cls _, _, _, _, _ => by unfold sPl; rfl
  | .dct _, _, _, _, _ => by unfold sPl; rfl
  | .str _, .non, _, _, _ | .str _, .bl _, _, _, _ | .str _, .int _, _, _, _ | .str _, .tup _, _, _, _ | .str _, .lst _, _, _, _ | .str _, .wls _, _, _, _ | .str _, .dct _, _, _, _ | .str _, .obj _ _, _, _, _ | .str _, .ref _, _, _, _ | .str _, .glb _, _, _, _ | .str _, .cls _, _, _, _ => by unfold sPl; rfl
  | .int _, .non, _, _, _ | .int _, .bl _, _, _, _ | .int _, .str _, _, _, _ | .int _, .tup _, _, _, _ | .int _, .lst _, _, _, _ | .int _, .wls _, _, _, _ | .int _, .dct _, _, _, _ | .int _, .obj _ _, _, _, _ | .int _, .ref _, _, _, _ | .int _, .glb _, _, _, _ | .int _, .cls _, _, _, _ => by unfold sPl; rfl
  | .bl _, .non, _, _, _ | .bl _, .int _, _, _, _ | .bl _, .str _, _, _, _ | .bl _, .tup _, _, _, _ | .bl _, .lst _, _, _, _ | .bl _, .wls _, _, _, _ | .bl _, .dct _, _, _, _ | .bl _, .obj _ _, _, _, _ | .bl _, .ref _, _, _, _ | .bl _, .glb _, _, _, _ | .bl _, .cls _, _, _, _ => by unfold sPl; rfl
  | .tup _, .non, _, _, _ | .tup _, .int _, _, _, _ | .tup _, .str _, _, _, _ | .tup _, .bl _, _, _, _ | .tup _, .lst _, _, _, _ | .tup _, .wls _, _, _, _ | .tup _, .dct _, _, _, _ | .tup _, .obj _ _, _, _, _ | .tup _, .ref _, _, _, _ | .tup _, .glb _, _, _, _ | .tup _, .cls _, _, _, _ => by unfold sPl; rfl
  | .lst _, .non, _, _, _ | .lst _, .int _, _, _, _ | .lst _, .str _, _, _, _ | .lst _, .bl _, _, _, _ | .lst _, .tup _, _, _, _ | .lst _, .wls _, _, _, _ | .lst _, .dct _, _, _, _ | .lst _, .obj _ _, _, _, _ | .lst _, .ref _, _, _, _ | .lst _, .glb _, _, _, _ | .lst _, .cls _, _, _, _ => by unfold sPl; rfl
  | .wls _, .non, _, _, _ | .wls _, .int _, _, _, _ | .wls _, .str _, _, _, _ | .wls _, .bl _, _, _, _ | .wls _, .tup _, _, _, _ | .wls _, .lst _, _, _, _ | .wls _, .dct _, _, _, _ | .wls _, .obj _ _, _, _, _ | .wls _, .ref _, _, _, _ | .wls _, .glb _, _, _, _ | .wls _, .cls _, _, _, _ => by unfold sPl; rfl
  | .obj _ _, .non, _, _, _ | .obj _ _, .int _, _, _, _ | .obj _ _, .str _, _, _, _ | .obj _ _, .bl _, _, _, _ | .obj _ _, .tup _, _, _, _ | .obj _ _, .lst _, _, _, _ | .obj _ _, .dct _, _, _, _ | .obj _ _, .wls _, _, _, _ | .obj _ _, .ref _, _, _, _ | .obj _ _, .glb _, _, _, _ | .obj _ _, .cls _, _, _, _ => by unfold sPl; rfl
theorem sPls_of (I : Inv X pins σ H s) (sub : Sub F H) : ∀ {xs ys : List Val} {us : List V}, Rps X.K ad F ρ xs us → Rps X.K ad F ρ ys us → sPls xs ys = true
  | [], _, _, r, q => by
    cases r
    cases q
    unfold sPls
    rfl
  | x :: xs, _, _, r, q => by
    cases r with
    | cons a b => cases q with
      | cons c d =>
        unfold sPls
        rw [sPl_of I sub a c, sPls_of I sub b d]
        rfl
theorem sPlf_of (I : Inv X pins σ H s) (sub : Sub F H) : ∀ {xs ys : List (Str × Val)} {us : List (Str × V)}, Rpf X.K ad F ρ xs us → Rpf X.K ad F ρ ys us → sPlf xs ys = true
  | [], _, _, r, q => by
    cases r
    cases q
    unfold sPlf
    rfl
  | (f, x) :: xs, _, _, r, q => by
    cases r with
    | cons a b => cases q with
      | cons c d =>
        unfold sPlf
        rw [sPl_of I sub a c, sPlf_of I sub b d]
        simp
end
end
/-- what a function does leaves the store -/
def Pur (f : BF) : Prop := ∀ xs S r S1, f xs S = .ok r S1 → S1 = S
def eqOwn (c : Str) (f : BF) (S : Store) (x y : Val) : Option Bool := if isOf c x y S && isOf c y x S then (match f [x, y] S with
  | .ok (.bl b) _ => if sPl x y && !b then none else some b
  | _ => none) else none
def eqIts (c : Str) (f : BF) (S : Store) : List Val → List Val → Option Bool
  | [], [] => some true
  | x :: xs, y :: ys => match eqOwn c f S x y with
    | some true => eqIts c f S xs ys
    | some false => some false
    | none => none
  | _, _ => some false
/-- == (neg: !=) of tuples, or lists as long as one another, of things of the class c -/
def eqSq (c : Str) (f : BF) (x y : Val) (S : Store) : Option Bool := match x, y with
  | .tup xs, .tup ys => eqIts c f S xs ys
  | .lst xs, .lst ys => if xs.length = ys.length then eqIts c f S xs ys else none
  | _, _ => none
def vEqS (neg : Bool) (c : Str) (f : BF) (x y : Val) (S : Store) : Res Val := match eqSq c f x y S with
  | some b => .ok (.bl (neg != b)) S
  | none => .stuck
def rEqS (K : PySem.W.Frag) (ad : Ads) (neg : Bool) (c : Str) (f : BF) : R2 := fun u v H Q => ∃ F ρ S x y b, RS0 K ad F ρ S H ∧ Rp K ad F ρ x u ∧ Rp K ad F ρ y v ∧ eqSq c f x y S = some b ∧ ∀ F' ρ' H', Le F ρ F' ρ' → RS0 K ad F' ρ' S H' → Q (.bl (neg != b)) H'
theorem s_eqS {K : PySem.W.Frag} {ad : Ads} {neg : Bool} {c : Str} {f : BF} : OpS K ad (rEqS K ad neg c f) (vEqS neg c f) := by
  intro W F ρ env S σ H x y u v Q rs rx ry q
  unfold vEqS at q
  split at q
  · rename_i b e
    exact ⟨F, ρ, S, x, y, b, rs.s, rx, ry, e, fun F' ρ' H' l rs' => q F' ρ' _ H' l ⟨rs', rs.e.mono l⟩ (.bl _)⟩
  · exact q.elim
section
variable {X : Cx} {k : Nat} {c : Str} {C fa : Addr} {fd : FuncData} {ps : List Str} {f : BF} {ad : Ads}
/-- what a turn keeps -/
def EqI (X : Cx) (ad : Ads) (pins : List (Addr × Obj)) (σ : L2.St) (F : Hp) (ρ : Rts) (S : Store) (s' : Shared) : Prop := ∃ F' ρ' H', Le F ρ F' ρ' ∧ RS0 X.K ad F' ρ' S H' ∧ Inv X pins σ H' s'
theorem eqOwn_run (hC : ad (.inl c) = some C) (hm : Meth X.K C "__eq__" fa) (hF : FnOk X.prog X.w X.K X.mg X.base (L2.CX X.prog X.w) k fa fd ps (spOf X.K ad 2 f)) (hb : Binds X.K fd ps []) (pu : Pur f)
    {A : Around} (hr : Room k A) (fr : A.frames = X.A.frames) {pins : List (Addr × Obj)} {σ : L2.St} {F F1 : Hp} {ρ ρ1 : Rts} {S : Store} {H1 : Hp} {s : Shared} {x y : Val} {u v : V} {a b : Value} {r0 : Bool}
    (l : Le F ρ F1 ρ1) (rs : RS0 X.K ad F1 ρ1 S H1) (I : Inv X pins σ H1 s) (rx : Rp X.K ad F1 ρ1 x u) (ry : Rp X.K ad F1 ρ1 y v) (ra : RelV u a) (rb : RelV v b) (e : eqOwn c f S x y = some r0) :
    wpAny (model X.prog X.w) A (eqBool a b) (fun r s' => r = r0 ∧ EqI X ad pins σ F ρ S s') X.xe s := by
  unfold eqOwn at e
  split at e
  · rename_i hi
    obtain ⟨i1, i2⟩ := Bool.and_eq_true_iff.mp hi
    obtain ⟨p, dx, fs, rfl, h1⟩ := isOf_ins hC rs rx i1
    obtain ⟨q, dy, gs, rfl, h2⟩ := isOf_ins hC rs ry i2
    cases (show a = Value.ref p from ra)
    cases (show b = Value.ref q from rb)
    split at e
    · rename_i b0 S1 ef
      cases pu _ _ _ _ ef
      by_cases hpq : p = q
      · subst hpq
        have hm' := sPl_of I rs.sub rx ry
        rw [hm'] at e
        have : r0 = true := by
          cases b0
          · simp at e
          · simpa using e.symm
        subst this
        exact SeqAt.EqAt.same (A := A) (s := s) (.ref p) X.prog X.w X.xe _ ⟨rfl, F1, ρ1, H1, l, rs, I⟩
      · have : r0 = b0 := by
          split at e
          · cases e
          · exact (Option.some.inj e).symm
        subst this
        refine GQ.eqBool_refG hpq ?_
        obtain ⟨mA, J, _⟩ := ins_get I.hok h1
        obtain ⟨mB, J', _⟩ := ins_get I.hok h2
        obtain ⟨od, J, _⟩ := J.look
        obtain ⟨od', J', _⟩ := J'.look
        obtain ⟨m, hFr⟩ := I.fr
        have e0 : Env0 X.prog X.w X.K X.mg X.base A X.stack s H1 := by
          have e := I.env0
          exact ⟨by rw [fr]; exact e.frames, e.mod, e.bs, e.bsz, e.funs, e.frf, e.hok, e.bare⟩
        refine PySem.W.cmp_K (op := .Eq) (tb := .ref C) hr.units0 hFr I.ok.mod.kin J J'.type (by simp [PySem.W.notFirst]) hm.at_ hm.fn ?_
        have hsp : spOf X.K ad 2 f [.ref p, .ref q] H1 (fun v H' => v = .bl r0 ∧ ∃ F' ρ', Le F1 ρ1 F' ρ' ∧ RS0 X.K ad F' ρ' S H') (fun _ _ _ => False) := by
          refine ⟨F1, ρ1, S, [x, y], rfl, rs, .cons rx (.cons ry .nil), ?_⟩
          rw [ef]
          intro F' ρ' b' H' l' rs' rb'
          cases rb'
          exact ⟨rfl, F', ρ', l', rs'⟩
        refine wpAny_mono (run_cmp (us := [.ref p, .ref q]) (vs := [.ref p, .ref q]) hF hr e0 hb I (.cons rfl (.cons rfl .nil)) hsp) (fun w s' z => ?_) fun _ _ x => x
        obtain ⟨z', H', I', rz, e', F', ρ', l', rs'⟩ := z
        subst e'
        cases (show w = Value.bool r0 from rz)
        exact ⟨r0, rfl, rfl, F', ρ', H', l.trans l', rs', I'⟩
    · cases e
  · cases e
theorem rps_drop {K : PySem.W.Frag} {F : Hp} {ρ : Rts} {xs : List Val} {vs : List V} {i : Nat} {v : V} (h : Rps K ad F ρ xs vs) (e : vs[i]? = some v) : ∃ x, xs.drop i = x :: xs.drop (i + 1) ∧ Rp K ad F ρ x v := by
  obtain ⟨y, h1, h2⟩ := h.get' e
  obtain ⟨hl, h1⟩ := List.getElem?_eq_some_iff.mp h1
  exact ⟨y, by rw [List.drop_eq_getElem_cons hl, h1], h2⟩
theorem eqIts_len (S : Store) : ∀ {xs ys : List Val} {b : Bool}, eqIts c f S xs ys = some b → (xs = [] ∨ ys = []) → b = (xs.length == ys.length)
  | [], [], b, e, _ => by simpa [eqIts] using e.symm
  | [], y :: ys, b, e, _ => by simpa [eqIts] using e.symm
  | x :: xs, [], b, e, _ => by simpa [eqIts] using e.symm
  | x :: xs, y :: ys, b, e, h => by simp at h
theorem drop_len {α β : Type} {xs : List α} {ys : List β} (i : Nat) (h1 : i ≤ xs.length) (h2 : i ≤ ys.length) : ((xs.drop i).length == (ys.drop i).length) = (xs.length == ys.length) := by
  rw [Bool.eq_iff_iff, beq_iff_eq, beq_iff_eq, List.length_drop, List.length_drop]
  omega
/-- where a turn stands -/
def EqJ (X : Cx) (ad : Ads) (pins : List (Addr × Obj)) (σ : L2.St) (F : Hp) (ρ : Rts) (S : Store) (c : Str) (f : BF) (xs ys : List Val) (b : Bool) (i : Nat) (s' : Shared) : Prop := EqI X ad pins σ F ρ S s' ∧ eqIts c f S (xs.drop i) (ys.drop i) = some b
theorem eq_turn (hC : ad (.inl c) = some C) (hm : Meth X.K C "__eq__" fa) (hF : FnOk X.prog X.w X.K X.mg X.base (L2.CX X.prog X.w) k fa fd ps (spOf X.K ad 2 f)) (hb : Binds X.K fd ps []) (pu : Pur f)
    {A : Around} (hr : Room (k + 1) A) (fr : A.frames = X.A.frames) {pins : List (Addr × Obj)} {σ : L2.St} {F : Hp} {ρ : Rts} {S : Store} {xs ys : List Val} {us vs : List V} {its its2 : List Value} {b : Bool}
    (rx : Rps X.K ad F ρ xs us) (ry : Rps X.K ad F ρ ys vs) (ra : Vals us its) (rb : Vals vs its2) {i : Nat} (h1 : i < its.toArray.size) (h2 : i < its2.toArray.size) {s : Shared} (J : EqJ X ad pins σ F ρ S c f xs ys b i s) :
    wpAny (model X.prog X.w) A.in1 (eqBool its.toArray[i] its2.toArray[i]) (fun r s' => (r = true → EqJ X ad pins σ F ρ S c f xs ys b (i + 1) s') ∧ (r = false → EqI X ad pins σ F ρ S s' ∧ b = false)) X.xe s := by
  obtain ⟨⟨F1, ρ1, H1, l, rs, I⟩, e⟩ := J
  have g1 : its[i]? = some its.toArray[i] := by
    have h1' : i < its.length := by simpa using h1
    rw [List.getElem?_eq_getElem h1'] <;> simp
  have g2 : its2[i]? = some its2.toArray[i] := by
    have h2' : i < its2.length := by simpa using h2
    rw [List.getElem?_eq_getElem h2'] <;> simp
  have k1 : i < us.length := by rw [ra.length]; simpa using h1
  have k2 : i < vs.length := by rw [rb.length]; simpa using h2
  obtain ⟨u, hu, ru⟩ := ra.get (List.getElem?_eq_getElem k1)
  obtain ⟨v, hv, rv⟩ := rb.get (List.getElem?_eq_getElem k2)
  rw [g1] at hu
  rw [g2] at hv
  rw [Option.some.inj hu, Option.some.inj hv]
  obtain ⟨x, ex, rx1⟩ := rps_drop rx (List.getElem?_eq_getElem k1)
  obtain ⟨y, ey, ry1⟩ := rps_drop ry (List.getElem?_eq_getElem k2)
  rw [ex, ey] at e
  unfold eqIts at e
  cases eo : eqOwn c f S x y with
  | none => rw [eo] at e; cases e
  | some r0 =>
    rw [eo] at e
    refine wpAny_mono (eqOwn_run hC hm hF hb pu hr.in1 (show A.in1.frames = X.A.frames from fr) l rs I (rx1.mono l) (ry1.mono l) ru rv eo) (fun r s2 q => ?_) fun _ _ x => x
    obtain ⟨rfl, q⟩ := q
    cases r with
    | true => exact ⟨fun _ => ⟨q, e⟩, fun h => (nomatch h)⟩
    | false => exact ⟨fun h => (nomatch h), fun _ => ⟨q, (Option.some.inj e).symm⟩⟩
end
end Fl
namespace Fl
open PySem PySem.Spec L2
open PyProof.Rows hiding St
section
variable {X : Cx} {k : Nat} {c : Str} {C fa : Addr} {fd : FuncData} {ps : List Str} {f : BF} {ad : Ads}

theorem op_eqS (hC : ad (.inl c) = some C) (hm : Meth X.K C "__eq__" fa) (hF : FnOk X.prog X.w X.K X.mg X.base (L2.CX X.prog X.w) k fa fd ps (spOf X.K ad 2 f)) (hb : Binds X.K fd ps []) (pu : Pur f) (hr : Room (k + 1) X.A) :
    OpR X (compareOp .Eq) (rEqS X.K ad false c f) := by
  intro pins s σ H x y v u Q I rx ry h
  obtain ⟨F, ρ, S, x', y', b, rs, hx, hy, e, q⟩ := h
  unfold eqSq at e
  show wpAny (model X.prog X.w) X.A (richCompare .Eq v u) (EP X pins σ Q) X.xe s
  split at e
  · rename_i xs ys
    cases hx with
    | tup h1 h2 => cases hy with
      | tup k1 k2 =>
        cases rx
        cases ry
        obtain ⟨its, r1, hT1, z1⟩ := I.tuple (Sub.tup rs.sub h1)
        obtain ⟨its2, r2, hT2, z2⟩ := I.tuple (Sub.tup rs.sub k1)
        have l1 : xs.length = its.length := h2.length.trans r1.length
        have l2 : ys.length = its2.length := k2.length.trans r2.length
        refine GD.rc_tupEq hr.units0 (fun i s' => EqJ X ad pins σ F ρ S c f xs ys b i s') (fun s' => EqI X ad pins σ F ρ S s' ∧ b = false) hT1 hT2 (fun i g1 g2 s' J => eq_turn hC hm hF hb pu hr rfl h2 k2 r1 r2 g1 g2 J) (fun s' J => ?_) (fun s' J => ?_) ⟨⟨F, ρ, H, .refl, rs, I⟩, e⟩
        · obtain ⟨⟨F1, ρ1, H1, l, rs1, I1⟩, e1⟩ := J
          have hm1 : min its.toArray.size its2.toArray.size ≤ xs.length := by rw [l1, List.size_toArray]; exact Nat.min_le_left _ _
          have hm2 : min its.toArray.size its2.toArray.size ≤ ys.length := by rw [l2, List.size_toArray, List.size_toArray]; exact Nat.min_le_right _ _
          have hb' := eqIts_len S e1 (by
            rw [List.drop_eq_nil_iff, List.drop_eq_nil_iff, l1, l2, List.size_toArray, List.size_toArray]
            omega)
          rw [drop_len _ hm1 hm2] at hb'
          have hsz : (its.toArray.size == its2.toArray.size) = b := by rw [hb', List.size_toArray, List.size_toArray, l1, l2]
          rw [hsz]
          exact ⟨.bl _, H1, I1, by cases b <;> rfl, q F1 ρ1 H1 l rs1⟩
        · obtain ⟨⟨F1, ρ1, H1, l, rs1, I1⟩, rfl⟩ := J
          exact ⟨.bl _, H1, I1, rfl, q F1 ρ1 H1 l rs1⟩
  · rename_i xs ys
    split at e
    · rename_i hlen
      cases hx with
      | lst h1 h2 => cases hy with
        | lst k1 k2 =>
          cases rx
          cases ry
          rename_i a vs a' vs'
          refine GD.rc_listeq (N := xs.length) hr.units0 (fun i s' => EqJ X ad pins σ F ρ S c f xs ys b i s') (fun s' => EqI X ad pins σ F ρ S s' ∧ b = false) ⟨fun i s' J => ?_, fun s' J => ?_⟩ (fun s' J => ?_) (fun s' J => ?_) ⟨⟨F, ρ, H, .refl, rs, I⟩, e⟩
          · obtain ⟨⟨F1, ρ1, H1, l, rs1, I1⟩, e1⟩ := id J
            obtain ⟨z, its, n, r, e2⟩ := I1.hok _ _ (rs1.sub _ _ (l.toLe0.at h1 fun _ => bare_lst))
            obtain ⟨z', its', n', r', e2'⟩ := I1.hok _ _ (rs1.sub _ _ (l.toLe0.at k1 fun _ => bare_lst))
            refine ⟨its.toArray, its'.toArray, n, n', e2, e2', by rw [List.size_toArray, ← r.length, ← h2.length], by rw [List.size_toArray, ← r'.length, ← k2.length, hlen], fun g1 g2 => ?_⟩
            exact eq_turn hC hm hF hb pu hr rfl h2 k2 r r' g1 g2 J
          · obtain ⟨⟨F1, ρ1, H1, l, rs1, I1⟩, _⟩ := id J
            obtain ⟨z, its, n, r, e2⟩ := I1.hok _ _ (rs1.sub _ _ (l.toLe0.at h1 fun _ => bare_lst))
            obtain ⟨z', its', n', r', e2'⟩ := I1.hok _ _ (rs1.sub _ _ (l.toLe0.at k1 fun _ => bare_lst))
            exact ⟨its.toArray, its'.toArray, n, n', e2, e2', by rw [List.size_toArray, ← r.length, ← h2.length], by rw [List.size_toArray, ← r'.length, ← k2.length, hlen]⟩
          · obtain ⟨⟨F1, ρ1, H1, l, rs1, I1⟩, e1⟩ := J
            have hb' := eqIts_len S e1 (by rw [List.drop_eq_nil_iff]; exact .inl (Nat.le_refl _))
            rw [drop_len _ (Nat.le_refl _) (by omega)] at hb'
            have : b = true := by rw [hb', hlen]; simp
            subst this
            exact ⟨.bl _, H1, I1, rfl, q F1 ρ1 H1 l rs1⟩
          · obtain ⟨⟨F1, ρ1, H1, l, rs1, I1⟩, rfl⟩ := J
            exact ⟨.bl _, H1, I1, rfl, q F1 ρ1 H1 l rs1⟩
    · cases e
  · cases e

theorem op_neS (hC : ad (.inl c) = some C) (hm : Meth X.K C "__eq__" fa) (hF : FnOk X.prog X.w X.K X.mg X.base (L2.CX X.prog X.w) k fa fd ps (spOf X.K ad 2 f)) (hb : Binds X.K fd ps []) (pu : Pur f) (hr : Room (k + 1) X.A) :
    OpR X (compareOp .NotEq) (rEqS X.K ad true c f) := by
  intro pins s σ H x y v u Q I rx ry h
  obtain ⟨F, ρ, S, x', y', b, rs, hx, hy, e, q⟩ := h
  unfold eqSq at e
  show wpAny (model X.prog X.w) X.A (richCompare .NotEq v u) (EP X pins σ Q) X.xe s
  split at e
  · rename_i xs ys
    cases hx with
    | tup h1 h2 => cases hy with
      | tup k1 k2 =>
        cases rx
        cases ry
        obtain ⟨its, r1, hT1, z1⟩ := I.tuple (Sub.tup rs.sub h1)
        obtain ⟨its2, r2, hT2, z2⟩ := I.tuple (Sub.tup rs.sub k1)
        have l1 : xs.length = its.length := h2.length.trans r1.length
        have l2 : ys.length = its2.length := k2.length.trans r2.length
        refine GD.rc_tupNe hr.units0 (fun i s' => EqJ X ad pins σ F ρ S c f xs ys b i s') (fun s' => EqI X ad pins σ F ρ S s' ∧ b = false) hT1 hT2 (fun i g1 g2 s' J => eq_turn hC hm hF hb pu hr rfl h2 k2 r1 r2 g1 g2 J) (fun s' J => ?_) (fun s' J => ?_) ⟨⟨F, ρ, H, .refl, rs, I⟩, e⟩
        · obtain ⟨⟨F1, ρ1, H1, l, rs1, I1⟩, e1⟩ := J
          have hm1 : min its.toArray.size its2.toArray.size ≤ xs.length := by rw [l1, List.size_toArray]; exact Nat.min_le_left _ _
          have hm2 : min its.toArray.size its2.toArray.size ≤ ys.length := by rw [l2, List.size_toArray, List.size_toArray]; exact Nat.min_le_right _ _
          have hb' := eqIts_len S e1 (by
            rw [List.drop_eq_nil_iff, List.drop_eq_nil_iff, l1, l2, List.size_toArray, List.size_toArray]
            omega)
          rw [drop_len _ hm1 hm2] at hb'
          have hsz : (its.toArray.size == its2.toArray.size) = b := by rw [hb', List.size_toArray, List.size_toArray, l1, l2]
          rw [hsz]
          exact ⟨.bl _, H1, I1, by cases b <;> rfl, q F1 ρ1 H1 l rs1⟩
        · obtain ⟨⟨F1, ρ1, H1, l, rs1, I1⟩, rfl⟩ := J
          exact ⟨.bl _, H1, I1, rfl, q F1 ρ1 H1 l rs1⟩
  · rename_i xs ys
    split at e
    · rename_i hlen
      cases hx with
      | lst h1 h2 => cases hy with
        | lst k1 k2 =>
          cases rx
          cases ry
          rename_i a vs a' vs'
          refine GD.rc_listne (N := xs.length) hr.units0 (fun i s' => EqJ X ad pins σ F ρ S c f xs ys b i s') (fun s' => EqI X ad pins σ F ρ S s' ∧ b = false) ⟨fun i s' J => ?_, fun s' J => ?_⟩ (fun s' J => ?_) (fun s' J => ?_) ⟨⟨F, ρ, H, .refl, rs, I⟩, e⟩
          · obtain ⟨⟨F1, ρ1, H1, l, rs1, I1⟩, e1⟩ := id J
            obtain ⟨z, its, n, r, e2⟩ := I1.hok _ _ (rs1.sub _ _ (l.toLe0.at h1 fun _ => bare_lst))
            obtain ⟨z', its', n', r', e2'⟩ := I1.hok _ _ (rs1.sub _ _ (l.toLe0.at k1 fun _ => bare_lst))
            refine ⟨its.toArray, its'.toArray, n, n', e2, e2', by rw [List.size_toArray, ← r.length, ← h2.length], by rw [List.size_toArray, ← r'.length, ← k2.length, hlen], fun g1 g2 => ?_⟩
            exact eq_turn hC hm hF hb pu hr rfl h2 k2 r r' g1 g2 J
          · obtain ⟨⟨F1, ρ1, H1, l, rs1, I1⟩, _⟩ := id J
            obtain ⟨z, its, n, r, e2⟩ := I1.hok _ _ (rs1.sub _ _ (l.toLe0.at h1 fun _ => bare_lst))
            obtain ⟨z', its', n', r', e2'⟩ := I1.hok _ _ (rs1.sub _ _ (l.toLe0.at k1 fun _ => bare_lst))
            exact ⟨its.toArray, its'.toArray, n, n', e2, e2', by rw [List.size_toArray, ← r.length, ← h2.length], by rw [List.size_toArray, ← r'.length, ← k2.length, hlen]⟩
          · obtain ⟨⟨F1, ρ1, H1, l, rs1, I1⟩, e1⟩ := J
            have hb' := eqIts_len S e1 (by rw [List.drop_eq_nil_iff]; exact .inl (Nat.le_refl _))
            rw [drop_len _ (Nat.le_refl _) (by omega)] at hb'
            have : b = true := by rw [hb', hlen]; simp
            subst this
            exact ⟨.bl _, H1, I1, rfl, q F1 ρ1 H1 l rs1⟩
          · obtain ⟨⟨F1, ρ1, H1, l, rs1, I1⟩, rfl⟩ := J
            exact ⟨.bl _, H1, I1, rfl, q F1 ρ1 H1 l rs1⟩
    · cases e
  · cases e
end
section
variable {X : Cx} {ad : Ads} {W : WX} {pos : Pos} {a b : Expr} {fa fb : EF} {k n : Nat} {c : Str} {f : BF}
theorem g_eqS (D : EqAt X.prog X.w X.K X.mg X.base ad k c f) (pu : Pur f) (hk : Room (k + 1) X.A) (ha : GE X ad W a fa) (hb : GE X ad W b fb) : GE X ad W (.Compare a [.Eq] [b] pos) (e2 (vEqS false c f) fa fb) :=
  let ⟨_, _, _, _, hC, _, hm, hF, hbi, _, _⟩ := D.ex
  g_cmp (op_eqS hC hm hF hbi pu hk) s_eqS (nomark _) ha hb
theorem g_neS (D : EqAt X.prog X.w X.K X.mg X.base ad k c f) (pu : Pur f) (hk : Room (k + 1) X.A) (ha : GE X ad W a fa) (hb : GE X ad W b fb) : GE X ad W (.Compare a [.NotEq] [b] pos) (e2 (vEqS true c f) fa fb) :=
  let ⟨_, _, _, _, hC, _, hm, hF, hbi, _, _⟩ := D.ex
  g_cmp (op_neS hC hm hF hbi pu hk) s_eqS (nomark _) ha hb
theorem t_eqS (D : EqAt X.prog X.w X.K X.mg X.base ad k c f) (pu : Pur f) (hk : Room (k + 1) X.A) (ha : GE X ad W a fa) (hb : GE X ad W b fb) : GT X ad W (.Compare a [.Eq] [b] pos) (eBool (e2 (vEqS false c f) fa fb)) :=
  let ⟨_, _, _, _, hC, _, hm, hF, hbi, _, _⟩ := D.ex
  gt_cmp (op_eqS hC hm hF hbi pu hk) s_eqS (nomark _) ha hb
theorem t_neS (D : EqAt X.prog X.w X.K X.mg X.base ad k c f) (pu : Pur f) (hk : Room (k + 1) X.A) (ha : GE X ad W a fa) (hb : GE X ad W b fb) : GT X ad W (.Compare a [.NotEq] [b] pos) (eBool (e2 (vEqS true c f) fa fb)) :=
  let ⟨_, _, _, _, hC, _, hm, hF, hbi, _, _⟩ := D.ex
  gt_cmp (op_neS hC hm hF hbi pu hk) s_eqS (nomark _) ha hb
end
end Fl
/-! data == a thing with an own __eq__: that one is asked -/
namespace GD
open PySem PySem.SeqAt
open AutoSeq1 (wpAny_loadPart')
open MeetsSeq
theorem str_eq_declines_obj (b : Str) (u : Tok) (l : Addr) {o : Obj} (hd : ∀ v, o.data ≠ .prim v) :
    Meets (Builtin.«str.__eq__» ⟨[.str b u, .ref l], []⟩) (fun _ R s => s.heap.get? l = some o ∧ R (.ok (.ret .notImplemented)) s) :=
  .of_wp fun prog w A R s h => by
    obtain ⟨hp, g, d, tk, os⟩ := s; obtain ⟨hl, h⟩ := h
    obtain ⟨cl, dd, dat, sl⟩ := o
    wp_walk using wpAny_loadPart' hl, wpAny_load hl
    split
    · rename_i x t e
      exact absurd e (hd _)
    · wp_walk
      exact ⟨_, rfl, h⟩
theorem tuple_eq_declines_obj {prog : Program} {w : World} {A : Around} {R : Result → Shared → Prop} (l b : Addr) (items : Array Value) (n : Nat) (dd : Option Addr) (sl : Array (Option Value)) {s : Shared} {C : Addr} {d2 : Option Addr} {da : Data} {sl2 : Array (Option Value)} (hb : s.heap.get? b = some { cls := .ref C, dict := d2, data := da, slots := sl2 })
    (hi : PySem.W.Looks (model prog w) s.heap (isSubtype (.ref C) (.type "tuple")) false) (hl : s.heap.get? l = some { cls := .type "tuple", dict := dd, data := .seq items n, slots := sl }) (h : R (.ok (.ret .notImplemented)) s) :
    wpAny (model prog w) A.in1 (Builtin.«tuple.__eq__» ⟨[.ref l, .ref b], []⟩) (FinOf prog w A R) (fun e s' => R (.error e) s') s := by
  obtain ⟨hp, g, d, tk, os⟩ := s
  wp_walk using wpAny_loadPart' hl, wpAny_loadPart' hb
  refine hi.here ?_
  wp_walk
  exact h
end GD
namespace Fl
open PySem PySem.Spec L2
open PyProof.Rows hiding St
/-- data that stands on the left of an own thing -/
inductive DKind (K : PySem.W.Frag) (H : Hp) : V → String → Prop
  | str (z : Str) : DKind K H (.str z) "str"
  | non : DKind K H .non "NoneType"
  | tup {a : Addr} {xs : List V} : SqT K H a xs → DKind K H (.ref a) "tuple"
section
variable {X : Cx} {k : Nat} {c : Str} {C fa : Addr} {fd : FuncData} {ps : List Str} {f : BF} {ad : Ads}
theorem kind_typeIs {pins : List (Addr × Obj)} {σ : L2.St} {H : Hp} {s : Shared} {x : V} {T : String} {a : Value} (I : Inv X pins σ H s) (d : DKind X.K H x T) (ra : RelV x a) : s.TypeIs a T := by
  cases d with
  | str z => obtain ⟨t, rfl⟩ := ra; exact typeIs_str s z t
  | non => cases ra; rfl
  | tup h =>
    cases ra
    obtain ⟨its, _, ⟨o, ho, hc, _⟩, _⟩ := I.tuple h
    exact ⟨o, ho, hc⟩
theorem kind_declines {pins : List (Addr × Obj)} {σ : L2.St} {H : Hp} {s : Shared} {A : Around} {E : Value → Shared → Prop} {Q : Option Value → Shared → Prop} {x : V} {T : String} {a : Value} {b dx : Addr} (I : Inv X pins σ H s) (d : DKind X.K H x T) (ra : RelV x a)
    (hb : s.heap.get? b = some (PySem.W.instObj C dx)) (hs : PySem.W.subIn X.K (.ref C) (.type T) = some false) (h : Q none s) : wpAny (model X.prog X.w) A (tryCompare a "__eq__" (.ref b)) Q E s := by
  cases d with
  | str z =>
    obtain ⟨t, rfl⟩ := ra
    refine wpAny_tryCompare_declines (typeIs_str s z t) F.slot_str_eq (call_meets F.slot_str_eq (typeIs_str s z t) F.entry_str_eq (F.args_str_eq_2 _ _) (GD.str_eq_declines_obj z t b (fun v e => by cases e)) ⟨hb, ?_⟩)
    exact ⟨rfl, h⟩
  | non =>
    cases ra
    refine wpAny_tryCompare_declines (T := "NoneType") rfl F.slot_NoneType_eq (call_gives F.slot_NoneType_eq rfl F.entry_NoneType_eq (F.args_NoneType_eq_2 _ _) (SeqAt.NoneType___eq___none_ref_0 b) ?_)
    exact ⟨rfl, h⟩
  | tup hq =>
    cases ra
    obtain ⟨its, _, ⟨⟨cl, dd, da, sl⟩, ho, hc, n, hd⟩, _⟩ := I.tuple hq
    simp only at hc hd
    subst hc hd
    refine wpAny_tryCompare_declines (T := "tuple") ⟨_, ho, rfl⟩ F.slot_tuple_eq (GQ.call_here F.slot_tuple_eq ⟨_, ho, rfl⟩ F.entry_tuple_eq (F.args_tuple_eq_2 _ _) ?_)
    exact GD.tuple_eq_declines_obj (R := wants (fun v s' => v = .notImplemented ∧ Q none s') E) _ b its.toArray n dd sl hb (PySem.W.looks_subIn I.kIn hs) ho ⟨rfl, h⟩
end
end Fl
namespace Fl
open PySem PySem.Spec L2
open PyProof.Rows hiding St
def dkV : Val → Bool
  | .str _ => true
  | .non => true
  | .tup _ => true
  | _ => false
def dkT : List String := ["str", "NoneType", "tuple"]
theorem dk_of {K : PySem.W.Frag} {ad : Ads} {F H : Hp} {ρ : Rts} (sub : Sub F H) {x : Val} {u : V} (r : Rp K ad F ρ x u) (h : dkV x = true) : ∃ T ∈ dkT, DKind K H u T := by
  cases r with
  | str z => exact ⟨_, by simp [dkT], .str z⟩
  | non => exact ⟨_, by simp [dkT], .non⟩
  | tup h1 h2 => exact ⟨_, by simp [dkT], .tup (Sub.tup sub h1)⟩
  | _ => cases h
section
variable {X : Cx} {k : Nat} {c : Str} {C fa : Addr} {fd : FuncData} {ps : List Str} {f : BF} {ad : Ads}
/-- a == b, a some data, b an own thing: that one's __eq__ is asked -/
theorem rc_ref {A : Around} {pins : List (Addr × Obj)} {σ : L2.St} {H : Hp} {s : Shared} {Q : Value → Shared → Prop} {x : V} {T : String} {a : Value} {b dx : Addr} {fs : List (Str × V)} (hm : Meth X.K C "__eq__" fa) (hT : PySem.W.subIn X.K (.ref C) (.type T) = some false)
    (hu : A.units < cLine) (I : Inv X pins σ H s) (d : DKind X.K H x T) (ra : RelV x a) (hb : H b = some (.ins C dx fs))
    (h : wpAny (model X.prog X.w) A (call (.ref fa) [.ref b, a]) (fun v s' => ∃ r, v = .bool r ∧ Q (.bool r) s') X.xe s) : wpAny (model X.prog X.w) A (richCompare .Eq a (.ref b)) Q X.xe s := by
  obtain ⟨mA, J0, _⟩ := ins_get I.hok hb
  obtain ⟨od, J, _⟩ := J0.look
  have ha := kind_typeIs I d ra
  have one : wpAny (model X.prog X.w) A (tryCompare (.ref b) "__eq__" a) (fun r s' => ∃ v, r = some v ∧ Q v s') X.xe s := by
    unfold tryCompare
    refine wpAny_bind (PySem.W.ifBound_K I.kIn J hm.at_ hm.fn (wpAny_mono h (fun v s' hv => ?_) fun _ _ e => e))
    obtain ⟨r, rfl, hq⟩ := hv
    exact wpAny_pure ⟨_, rfl, hq⟩
  have hne : (Value.type T != Value.ref C) = true := rfl
  have hi : cmpInfo CmpOp.Eq = ("==", ("__eq__" : Str), ("__eq__" : Str)) := rfl
  simp only [richCompare, hi, ha.oneThing_none]
  try with_reducible refine wpAny_holding ?_
  refine wpAny_bind (wpAny_cRoomFor hu ?_)
  refine wpAny_bind (wpAny_typeOf ha (wpAny_bind (J.type.here ?_)))
  simp only [hne, if_true]
  refine wpAny_bind ((PySem.W.looks_subIn I.kIn hT).here ?_)
  simp only [Bool.false_eq_true, if_false, Bool.not_false, if_true]
  refine wpAny_bind (m := tryCompare a _ (.ref b)) (kind_declines I d ra J0.obj hT ?_)
  refine wpAny_bind (m := tryCompare (.ref b) _ a) (wpAny_mono one (fun r s' z => ?_) fun _ _ e => e)
  obtain ⟨v, rfl, hq⟩ := z
  exact wpAny_pure hq
def rEqR (K : PySem.W.Frag) (ad : Ads) (c : Str) (f : BF) : R2 := fun u v H Q => ∃ F ρ S x y r S1, RS0 K ad F ρ S H ∧ Rp K ad F ρ x u ∧ Rp K ad F ρ y v ∧ dkV x = true ∧ isOf c y y S = true ∧ f [y, x] S = .ok (.bl r) S1 ∧ ∀ F' ρ' H', Le F ρ F' ρ' → RS0 K ad F' ρ' S1 H' → Q (.bl r) H'
def vEqR (c : Str) (f : BF) (x y : Val) (S : Store) : Res Val := if dkV x && isOf c y y S then (match f [y, x] S with
  | .ok (.bl b) S1 => .ok (.bl b) S1
  | _ => .stuck) else .stuck
theorem s_eqR {K : PySem.W.Frag} {ad : Ads} {c : Str} {f : BF} : OpS K ad (rEqR K ad c f) (vEqR c f) := by
  intro W F ρ env S σ H x y u v Q rs rx ry q
  unfold vEqR at q
  split at q
  · rename_i hi
    obtain ⟨h1, h2⟩ := Bool.and_eq_true_iff.mp hi
    split at q
    · rename_i b S1 e
      exact ⟨F, ρ, S, x, y, b, S1, rs.s, rx, ry, h1, h2, e, fun F' ρ' H' l rs' => q F' ρ' _ H' l ⟨rs', rs.e.mono l⟩ (.bl _)⟩
    · exact q.elim
  · exact q.elim
theorem op_eqR (hC : ad (.inl c) = some C) (hm : Meth X.K C "__eq__" fa) (hF : FnOk X.prog X.w X.K X.mg X.base (L2.CX X.prog X.w) k fa fd ps (spOf X.K ad 2 f)) (hb : Binds X.K fd ps []) (hT : ∀ T ∈ dkT, PySem.W.subIn X.K (.ref C) (.type T) = some false) (hr : Room k X.A) :
    OpR X (compareOp .Eq) (rEqR X.K ad c f) := by
  intro pins s σ H x y v u Q I rx ry h
  obtain ⟨F, ρ, S, x', y', r, S1, rs, hx, hy, hd, hi, e, q⟩ := h
  obtain ⟨T, hTm, dk⟩ := dk_of rs.sub hx hd
  obtain ⟨p, dx, fs, rfl, h1⟩ := isOf_ins hC rs hy hi
  cases (show u = Value.ref p from ry)
  show wpAny (model X.prog X.w) X.A (richCompare .Eq v (.ref p)) (EP X pins σ Q) X.xe s
  have hsp : spOf X.K ad 2 f [.ref p, x] H (fun v H' => v = .bl r ∧ Q (.bl r) H') (fun _ _ _ => False) := by
    refine ⟨F, ρ, S, [y', x'], rfl, rs, .cons hy (.cons hx .nil), ?_⟩
    rw [e]
    intro F' ρ' b' H' l' rs' rb'
    cases rb'
    exact ⟨rfl, q F' ρ' H' l' rs'⟩
  refine rc_ref hm (hT T hTm) hr.units0 I dk rx h1 (wpAny_mono (run_cmp (us := [.ref p, v]) (vs := [.ref p, x]) hF hr I.env0 hb I (.cons rfl (.cons rx .nil)) hsp) (fun w s' z => ?_) fun _ _ x => x)
  obtain ⟨z', H', I', rz, e', qz⟩ := z
  subst e'
  cases (show w = Value.bool r from rz)
  exact ⟨r, rfl, .bl r, H', I', rfl, qz⟩
/-- ==: data with an own thing behind it, or two own things, or data -/
def vEqX (c : Str) (f : BF) : Val → Val → Store → Res Val := fun x y S => if dkV x && isOf c y y S then vEqR c f x y S else vEqO c f x y S
end
section
variable {X : Cx} {ad : Ads} {W : WX} {pos : Pos} {a b : Expr} {fa fb : EF} {k n : Nat} {c : Str} {f : BF}
theorem g_eqX (D : EqAt X.prog X.w X.K X.mg X.base ad k c f) (hT : ∀ c C, ad (.inl c) = some C → ∀ T ∈ dkT, PySem.W.subIn X.K (.ref C) (.type T) = some false) (hk : Room k X.A) (hr : Room n X.A) (ha : GE X ad W a fa) (hb : GE X ad W b fb) : GE X ad W (.Compare a [.Eq] [b] pos) (e2 (vEqX c f) fa fb) :=
  let ⟨_, _, _, _, hC, _, hm, hF, hbi, _, _⟩ := D.ex
  g_cmp ((op_eqR hC hm hF hbi (hT _ _ hC) hk).or ((op_ownEq hm hF hk hbi).or (op_eqD hr.units))) (s_eqR.or (c := fun x y S => dkV x && isOf c y y S) ((s_ownEq hC).or (c := isOf c) s_eq)) (nomark _) ha hb
theorem t_eqX (D : EqAt X.prog X.w X.K X.mg X.base ad k c f) (hT : ∀ c C, ad (.inl c) = some C → ∀ T ∈ dkT, PySem.W.subIn X.K (.ref C) (.type T) = some false) (hk : Room k X.A) (hr : Room n X.A) (ha : GE X ad W a fa) (hb : GE X ad W b fb) : GT X ad W (.Compare a [.Eq] [b] pos) (eBool (e2 (vEqX c f) fa fb)) :=
  let ⟨_, _, _, _, hC, _, hm, hF, hbi, _, _⟩ := D.ex
  gt_cmp ((op_eqR hC hm hF hbi (hT _ _ hC) hk).or ((op_ownEq hm hF hk hbi).or (op_eqD hr.units))) (s_eqR.or (c := fun x y S => dkV x && isOf c y y S) ((s_ownEq hC).or (c := isOf c) s_eq)) (nomark _) ha hb
end
end Fl
/-! what leaves the store as it is -/
namespace Fl
open PySem PySem.Spec L2
open PyProof.Rows hiding St
theorem dk3 {K : PySem.W.Frag} {C : Addr} (h1 : PySem.W.subIn K (.ref C) (.type "str") = some false) (h2 : PySem.W.subIn K (.ref C) (.type "NoneType") = some false) (h3 : PySem.W.subIn K (.ref C) (.type "tuple") = some false) : ∀ T ∈ dkT, PySem.W.subIn K (.ref C) (.type T) = some false := by
  intro T h
  simp only [dkT, List.mem_cons, List.not_mem_nil, or_false] at h
  rcases h with rfl | rfl | rfl <;> assumption
def PurE (e : EF) : Prop := ∀ env S r S1, e env S = .ok r S1 → S1 = S
def PurO (o : Val → Val → Store → Res Val) : Prop := ∀ x y S r S1, o x y S = .ok r S1 → S1 = S
theorem bind_ok {α β : Type} {r : Res α} {k : α → Store → Res β} {b : β} {S : Store} (h : r.bind k = .ok b S) : ∃ a S1, r = .ok a S1 ∧ k a S1 = .ok b S := by
  cases r with
  | ok a S1 => exact ⟨a, S1, rfl, h⟩
  | exc c fs S1 => cases h
  | stuck => cases h
theorem pu_var {i : Nat} : PurE (eVar i) := fun env S r S1 h => by
  unfold eVar at h
  split at h
  · cases h; rfl
  · cases h
theorem pu_c {v : Val} : PurE (eC v) := fun env S r S1 h => by cases h; rfl
theorem pu_fld {f : Str} {o : EF} (ho : PurE o) : PurE (eFld f o) := fun env S r S1 h => by
  unfold eFld at h
  obtain ⟨a, S2, h1, h2⟩ := bind_ok h
  cases ho _ _ _ _ h1
  split at h2
  · split at h2
    · cases h2; rfl
    · cases h2
  · cases h2
theorem pu_e2 {o : Val → Val → Store → Res Val} {fa fb : EF} (ho : PurO o) (ha : PurE fa) (hb : PurE fb) : PurE (e2 o fa fb) := fun env S r S1 h => by
  unfold e2 at h
  obtain ⟨a, S2, h1, h2⟩ := bind_ok h
  cases ha _ _ _ _ h1
  obtain ⟨b, S3, h3, h4⟩ := bind_ok h2
  cases hb _ _ _ _ h3
  exact ho _ _ _ _ _ h4
theorem pu_eq : PurO vEq := fun x y S r S1 h => by
  unfold vEq at h
  split at h
  · split at h
    · cases h; rfl
    · cases h
  · cases h
theorem pu_eqS {neg : Bool} {c : Str} {f : BF} : PurO (vEqS neg c f) := fun x y S r S1 h => by
  unfold vEqS at h
  split at h
  · cases h; rfl
  · cases h
theorem pu_isi {t : TK → Bool} {f : EF} (hf : PurE f) : PurE (eIsi t f) := fun env S r S1 h => by
  unfold eIsi at h
  obtain ⟨a, S2, h1, h2⟩ := bind_ok h
  cases hf _ _ _ _ h1
  split at h2
  · cases h2; rfl
  · cases h2
theorem pu_and {f g : EF} (hf : PurE f) (hg : PurE g) : PurE (eAnd f g) := fun env S r S1 h => by
  unfold eAnd at h
  obtain ⟨a, S2, h1, h2⟩ := bind_ok h
  unfold eBool at h1
  obtain ⟨b, S3, h3, h4⟩ := bind_ok h1
  cases hf _ _ _ _ h3
  split at h4
  · cases h4
    split at h2
    · exact hg _ _ _ _ h2
    · cases h2; rfl
  · cases h4
theorem pu_run {n : Nat} {e : EF} (he : PurE e) : Pur (runB n (sRet e)) := fun xs S r S1 h => by
  unfold runB at h
  cases e1 : sRet e (xs.map some ++ List.replicate (n - xs.length) none) S with
  | ret v S2 =>
    rw [e1] at h
    unfold sRet at e1
    cases e2 : e (xs.map some ++ List.replicate (n - xs.length) none) S with
    | ok v2 S3 => 
      rw [e2] at e1
      cases e1
      cases h
      exact he _ _ _ _ e2
    | exc c fs S3 => rw [e2] at e1; cases e1
    | stuck => rw [e2] at e1; cases e1
  | nx en S2 =>
    unfold sRet at e1
    cases e2 : e (xs.map some ++ List.replicate (n - xs.length) none) S <;> rw [e2] at e1 <;> cases e1
  | exc c fs e S2 => rw [e1] at h; cases h
  | brk e S2 => rw [e1] at h; cases h
  | cnt e S2 => rw [e1] at h; cases h
  | stuck => rw [e1] at h; cases h
end Fl
namespace Fl
open PySem PySem.Spec L2
open PyProof.Rows hiding St
def top (i : Nat) : Stmt := PySem.Challenge.pw_menuhome_k11_whole_actions_by_digits.main.body.getD i (.Pass ⟨0, 0, 0, 0⟩)
def k_DIGITS : Val := .str "0123456789"
def k_LETTERS : Val := .str "abcdefghijklmnopqrstuvwxyz"
def k_NO_NAMES : Val := .tup [.str "line", .str "out", .str "main", .str "back", .str "go", .str "call", .str "menu", .str "else", .str "none"]
def w_NAMES_BEHIND : List (Str × Val) := [("line", .int (1)), ("out", .int (0)), ("again", .int (0)), ("main", .int (0)), ("go", .int (1)), ("call", .int (2)), ("back", .int (0))]
structure Txt (K : PySem.W.Frag) (mg : Str → Option Value) (w : World) (ad : Ads) : Type where
  A_Menu : Addr
  nh : ad.hold = none
  a_Menu : ∃ C, mg "Menu" = some (.ref C) ∧ ad (.inl "Menu") = some C
  c_Menu : mg "Menu" = some (.ref A_Menu)
  dk : ∀ c C, ad (.inl c) = some C → ∀ T ∈ dkT, PySem.W.subIn K (.ref C) (.type T) = some false
  f_clears : ∀ c C, ad (.inl c) = some C → Cls K C ∧ NoAttr K C "clears"
  f_name : ∀ c C, ad (.inl c) = some C → Cls K C ∧ NoAttr K C "name"
  f_rows : ∀ c C, ad (.inl c) = some C → Cls K C ∧ NoAttr K C "rows"
  f_tail : ∀ c C, ad (.inl c) = some C → Cls K C ∧ NoAttr K C "tail"
  f_tries : ∀ c C, ad (.inl c) = some C → Cls K C ∧ NoAttr K C "tries"
  isi_Menu : IsiOk K ad (.ref A_Menu) (isOwn "Menu")
  isi_bool : IsiOk K ad (.type "bool") isBl
  isi_int : IsiOk K ad (.type "int") isInt
  isi_list : IsiOk K ad (.type "list") isLst
  isi_str : IsiOk K ad (.type "str") isStr
  isi_tuple : IsiOk K ad (.type "tuple") isTup
  ity : ∀ c C, ad (.inl c) = some C → InsTy K C
  k_DIGITS : GlAt K mg ad "DIGITS" k_DIGITS
  k_LETTERS : GlAt K mg ad "LETTERS" k_LETTERS
  k_NO_NAMES : GlAt K mg ad "NO_NAMES" k_NO_NAMES
  n_abs : mg "abs" = none
  n_all : mg "all" = none
  n_bool : mg "bool" = none
  n_int : mg "int" = none
  n_isinstance : mg "isinstance" = none
  n_len : mg "len" = none
  n_list : mg "list" = none
  n_max : mg "max" = none
  n_min : mg "min" = none
  n_range : mg "range" = none
  n_sorted : mg "sorted" = none
  n_str : mg "str" = none
  n_tuple : mg "tuple" = none
  w_NAMES_BEHIND : ∃ p, mg "NAMES_BEHIND" = some (.ref p) ∧ WDict K w ad p w_NAMES_BEHIND
section
variable {P : Program} {w : World} {K : PySem.W.Frag} {mg : Str → Option Value} {base : Heap} {ad : Ads}
abbrev st_is_name : Stmt := top 9
def b_is_name : SF :=
    (sSeq (sIf (tOrF (tNotF (eBool (eIsi isStr (eVar 0)))) (eBool (e2 (vIn false) (eVar 0) (eC k_NO_NAMES)))) (sRet (eC (.bl false))) sNx)
    (sRet (eAnd (eChain vLe vLe (eC (.int 1)) (eCall bLenA (aCons (eVar 0) aNil)) (eC (.int 4))) (eCall bAll (aCons (eLc false (iSeq (eVar 0)) (tgName 1) tTrue (e2 (vIn false) (eVar 1) (eC k_LETTERS)) [1]) aNil)))))
def f_is_name : BF := runB 2 b_is_name
theorem sc_is_name : FnScope ["value", "sign"] ["value"] (defScope st_is_name) := ⟨rfl, rfl, rfl, by decide +kernel, rfl, by decide +kernel, by decide +kernel⟩
theorem ok_is_name {f : Addr} {fd : FuncData} (Fz : Fn K "is_name" "is_name" st_is_name f fd) (T : Txt K mg w ad) : FnOk P w K mg base (L2.CX P w) 1 f fd ["value"] (spOf K ad 1 f_is_name) := by
  have sc := sc_is_name
  refine def_ok T.nh Fz sc (body := b_is_name) fun cdv A outer s H E hr => ?_
  have tk := takes_of (X := cxOf (L2.CX P w) P w K mg base ["value", "sign"] "is_name" (defScope st_is_name) f cdv A outer s H E) rfl rfl rfl rfl
  have hp := passes_of (X := cxOf (L2.CX P w) P w K mg base ["value", "sign"] "is_name" (defScope st_is_name) f cdv A outer s H E) rfl
  exact (gss_cons (gs_if (GW.t (gw_or (gt_not (gt_val (g_isi T.ity rfl T.n_isinstance (g_var 0) (cl_ty rfl T.n_str (by decide +kernel)) T.isi_str))) (gw_or1 (t_in (g_var 0) (g_gl rfl T.k_NO_NAMES))))) (gss_one (gs_ret g_bool)) gss_nil)
    (gss_one (gs_ret (g_and (g_chain op_le s_IB op_le s_IB g_int (g_callB call_lenA s_lenA rfl T.n_len (by decide +kernel) (ga_cons (g_var 0) ga_nil)) g_int) (g_one (g_callB (cr_all rfl) s_all rfl T.n_all (by decide +kernel) (ga_cons (g_lc T.nh (own := [("sign", 1)]) false rfl sc.nd (gi_seq (g_var 0)) (blkOk_by (by kernel_rfl)) (fun _ _ _ _ _ => (gg_name (i := 1) sc.nd rfl (by first | exact Or.inl rfl | exact Or.inr rfl) (by decide))) (fun _ _ _ _ _ => gts_nil) (fun _ _ _ _ _ => (g_in (g_var 1) (g_gl rfl T.k_LETTERS)))) ga_nil)))))))
abbrev st_are_digits : Stmt := top 10
def b_are_digits : SF :=
    (sRet (eAnd (e2 vGt (eCall bLenA (aCons (eVar 0) aNil)) (eC (.int 0))) (eCall bAll (aCons (eLc false (iSeq (eVar 0)) (tgName 1) tTrue (e2 (vIn false) (eVar 1) (eC k_DIGITS)) [1]) aNil))))
def f_are_digits : BF := runB 2 b_are_digits
theorem sc_are_digits : FnScope ["text", "sign"] ["text"] (defScope st_are_digits) := ⟨rfl, rfl, rfl, by decide +kernel, rfl, by decide +kernel, by decide +kernel⟩
theorem ok_are_digits {f : Addr} {fd : FuncData} (Fz : Fn K "are_digits" "are_digits" st_are_digits f fd) (T : Txt K mg w ad) : FnOk P w K mg base (L2.CX P w) 1 f fd ["text"] (spOf K ad 1 f_are_digits) := by
  have sc := sc_are_digits
  refine def_ok T.nh Fz sc (body := b_are_digits) fun cdv A outer s H E hr => ?_
  have tk := takes_of (X := cxOf (L2.CX P w) P w K mg base ["text", "sign"] "are_digits" (defScope st_are_digits) f cdv A outer s H E) rfl rfl rfl rfl
  have hp := passes_of (X := cxOf (L2.CX P w) P w K mg base ["text", "sign"] "are_digits" (defScope st_are_digits) f cdv A outer s H E) rfl
  exact (gss_one (gs_ret (g_and (g_gt (g_callB call_lenA s_lenA rfl T.n_len (by decide +kernel) (ga_cons (g_var 0) ga_nil)) g_int) (g_one (g_callB (cr_all rfl) s_all rfl T.n_all (by decide +kernel) (ga_cons (g_lc T.nh (own := [("sign", 1)]) false rfl sc.nd (gi_seq (g_var 0)) (blkOk_by (by kernel_rfl)) (fun _ _ _ _ _ => (gg_name (i := 1) sc.nd rfl (by first | exact Or.inl rfl | exact Or.inr rfl) (by decide))) (fun _ _ _ _ _ => gts_nil) (fun _ _ _ _ _ => (g_in (g_var 1) (g_gl rfl T.k_DIGITS)))) ga_nil))))))
abbrev st_is_digit : Stmt := top 11
def b_is_digit : SF :=
    (sRet (eAnd (eIsi isStr (eVar 0)) (eAnd (e2 vEq (eCall bLenA (aCons (eVar 0) aNil)) (eC (.int 1))) (e2 (vIn false) (eVar 0) (eC k_DIGITS)))))
def f_is_digit : BF := runB 1 b_is_digit
theorem sc_is_digit : FnScope ["value"] ["value"] (defScope st_is_digit) := ⟨rfl, rfl, rfl, by decide +kernel, rfl, by decide +kernel, by decide +kernel⟩
theorem ok_is_digit {f : Addr} {fd : FuncData} (Fz : Fn K "is_digit" "is_digit" st_is_digit f fd) (T : Txt K mg w ad) : FnOk P w K mg base (L2.CX P w) 1 f fd ["value"] (spOf K ad 1 f_is_digit) := by
  have sc := sc_is_digit
  refine def_ok T.nh Fz sc (body := b_is_digit) fun cdv A outer s H E hr => ?_
  have tk := takes_of (X := cxOf (L2.CX P w) P w K mg base ["value"] "is_digit" (defScope st_is_digit) f cdv A outer s H E) rfl rfl rfl rfl
  have hp := passes_of (X := cxOf (L2.CX P w) P w K mg base ["value"] "is_digit" (defScope st_is_digit) f cdv A outer s H E) rfl
  exact (gss_one (gs_ret (g_and (g_isi T.ity rfl T.n_isinstance (g_var 0) (cl_ty rfl T.n_str (by decide +kernel)) T.isi_str) (g_and (g_eq hr (g_callB call_lenA s_lenA rfl T.n_len (by decide +kernel) (ga_cons (g_var 0) ga_nil)) g_int) (g_one (g_in (g_var 0) (g_gl rfl T.k_DIGITS)))))))
abbrev st_is_action : Stmt := top 12
def b_is_action : SF :=
    (sSeq (sIf (tNotF (eBool (eIsi isStr (eVar 0)))) (sRet (eC (.bl false))) sNx)
    (sSeq (sAsg (eM1 (mSplit false) (eVar 0) (eC (.str " "))) (tgStar 2 1 (tgsCons 1 (tgsCons 2 tgsNil))))
    (sRet (eAnd (e2 vEq (eWGet w_NAMES_BEHIND (eVar 1)) (eCall bLenA (aCons (eVar 2) aNil))) (eCall bAll (aCons (eLc false (iSeq (eVar 2)) (tgName 3) tTrue (eDef f_is_name 1 [] (aCons (eVar 3) aNil)) [3]) aNil))))))
def f_is_action : BF := runB 4 b_is_action
theorem sc_is_action : FnScope ["value", "kind", "names", "name"] ["value"] (defScope st_is_action) := ⟨rfl, rfl, rfl, by decide +kernel, rfl, by decide +kernel, by decide +kernel⟩
theorem ok_is_action {f : Addr} {fd : FuncData} (Fz : Fn K "is_action" "is_action" st_is_action f fd) (T : Txt K mg w ad) (D_is_name : DefAt P w K mg base ad 1 "is_name" 1 [] f_is_name) : FnOk P w K mg base (L2.CX P w) 2 f fd ["value"] (spOf K ad 1 f_is_action) := by
  have sc := sc_is_action
  refine def_ok T.nh Fz sc (body := b_is_action) fun cdv A outer s H E hr => ?_
  have tk := takes_of (X := cxOf (L2.CX P w) P w K mg base ["value", "kind", "names", "name"] "is_action" (defScope st_is_action) f cdv A outer s H E) rfl rfl rfl rfl
  have hp := passes_of (X := cxOf (L2.CX P w) P w K mg base ["value", "kind", "names", "name"] "is_action" (defScope st_is_action) f cdv A outer s H E) rfl
  exact (gss_cons (gs_if (gt_not (gt_val (g_isi T.ity rfl T.n_isinstance (g_var 0) (cl_ty rfl T.n_str (by decide +kernel)) T.isi_str))) (gss_one (gs_ret g_bool)) gss_nil)
    (gss_cons (gs_asg (vs := [1, 2]) (g_split false (g_var 0) g_str) (gg_star (i := 1) rfl (by decide) (ggs_cons (i := 1) sc.nd rfl (by first | exact Or.inl rfl | exact Or.inr rfl) (by decide) (ggs_star (i := 2) sc.nd rfl (by first | exact Or.inl rfl | exact Or.inr rfl) (by decide) ggs_nil))))
    (gss_one (gs_ret (g_and (g_eq hr (g_wget T.w_NAMES_BEHIND rfl (g_var 1)) (g_callB call_lenA s_lenA rfl T.n_len (by decide +kernel) (ga_cons (g_var 2) ga_nil))) (g_one (g_callB (cr_all rfl) s_all rfl T.n_all (by decide +kernel) (ga_cons (g_lc T.nh (own := [("name", 3)]) false rfl sc.nd (gi_seq (g_var 2)) (blkOk_by (by kernel_rfl)) (fun _ _ _ _ _ => (gg_name (i := 3) sc.nd rfl (by first | exact Or.inl rfl | exact Or.inr rfl) (by decide))) (fun _ _ _ _ _ => gts_nil) (fun _ _ _ _ _ => (g_def D_is_name (hr.mono (by decide)) takes0 rfl (ga_cons (g_var 3) ga_nil)))) ga_nil))))))))
abbrev st_is_row : Stmt := top 13
def b_is_row : SF :=
    (sRet (eAnd (eIsi isTup (eVar 0)) (eAnd (e2 vEq (eCall bLenA (aCons (eVar 0) aNil)) (eC (.int 2))) (eAnd (eDef f_is_digit 1 [] (aCons (e2 vIx (eVar 0) (eC (.int 0))) aNil)) (eDef f_is_action 1 [] (aCons (e2 vIx (eVar 0) (eC (.int 1))) aNil))))))
def f_is_row : BF := runB 1 b_is_row
theorem sc_is_row : FnScope ["value"] ["value"] (defScope st_is_row) := ⟨rfl, rfl, rfl, by decide +kernel, rfl, by decide +kernel, by decide +kernel⟩
theorem ok_is_row {f : Addr} {fd : FuncData} (Fz : Fn K "is_row" "is_row" st_is_row f fd) (T : Txt K mg w ad) (D_is_digit : DefAt P w K mg base ad 1 "is_digit" 1 [] f_is_digit) (D_is_action : DefAt P w K mg base ad 2 "is_action" 1 [] f_is_action) : FnOk P w K mg base (L2.CX P w) 3 f fd ["value"] (spOf K ad 1 f_is_row) := by
  have sc := sc_is_row
  refine def_ok T.nh Fz sc (body := b_is_row) fun cdv A outer s H E hr => ?_
  have tk := takes_of (X := cxOf (L2.CX P w) P w K mg base ["value"] "is_row" (defScope st_is_row) f cdv A outer s H E) rfl rfl rfl rfl
  have hp := passes_of (X := cxOf (L2.CX P w) P w K mg base ["value"] "is_row" (defScope st_is_row) f cdv A outer s H E) rfl
  exact (gss_one (gs_ret (g_and (g_isi T.ity rfl T.n_isinstance (g_var 0) (cl_ty rfl T.n_tuple (by decide +kernel)) T.isi_tuple) (g_and (g_eq hr (g_callB call_lenA s_lenA rfl T.n_len (by decide +kernel) (ga_cons (g_var 0) ga_nil)) g_int) (g_and (g_def D_is_digit (hr.mono (by decide)) tk rfl (ga_cons (g_ix (g_var 0) g_int (fun _ _ => rfl)) ga_nil)) (g_one (g_def D_is_action (hr.mono (by decide)) tk rfl (ga_cons (g_ix (g_var 0) g_int (fun _ _ => rfl)) ga_nil))))))))
abbrev st_are_rows : Stmt := top 14
def b_are_rows : SF :=
    (sSeq (sIf (tOrF (tNotF (eBool (eIsi (anyT [isLst, isTup]) (eVar 0)))) (tNotF (eBool (eCall bAll (aCons (eLc false (iSeq (eVar 0)) (tgName 1) tTrue (eDef f_is_row 1 [] (aCons (eVar 1) aNil)) [1]) aNil))))) (sRet (eC (.bl false))) sNx)
    (sRet (e2 vEq (eLenK (eSc (iSeq (eVar 0)) (tgName 1) tTrue (e2 vIx (eVar 1) (eC (.int 0))) [1])) (eCall bLenA (aCons (eVar 0) aNil)))))
def f_are_rows : BF := runB 2 b_are_rows
theorem sc_are_rows : FnScope ["value", "row"] ["value"] (defScope st_are_rows) := ⟨rfl, rfl, rfl, by decide +kernel, rfl, by decide +kernel, by decide +kernel⟩
theorem ok_are_rows {f : Addr} {fd : FuncData} (Fz : Fn K "are_rows" "are_rows" st_are_rows f fd) (T : Txt K mg w ad) (D_is_row : DefAt P w K mg base ad 3 "is_row" 1 [] f_is_row) : FnOk P w K mg base (L2.CX P w) 4 f fd ["value"] (spOf K ad 1 f_are_rows) := by
  have sc := sc_are_rows
  refine def_ok T.nh Fz sc (body := b_are_rows) fun cdv A outer s H E hr => ?_
  have tk := takes_of (X := cxOf (L2.CX P w) P w K mg base ["value", "row"] "are_rows" (defScope st_are_rows) f cdv A outer s H E) rfl rfl rfl rfl
  have hp := passes_of (X := cxOf (L2.CX P w) P w K mg base ["value", "row"] "are_rows" (defScope st_are_rows) f cdv A outer s H E) rfl
  exact (gss_cons (gs_if (GW.t (gw_or (gt_not (gt_val (g_isiT T.ity rfl T.n_isinstance (g_var 0) (cls_cons (cl_ty rfl T.n_list (by decide +kernel)) (cls_cons (cl_ty rfl T.n_tuple (by decide +kernel)) cls_nil)) (.cons T.isi_list (.cons T.isi_tuple .nil))))) (gw_or1 (gt_not (gt_val (g_callB (cr_all rfl) s_all rfl T.n_all (by decide +kernel) (ga_cons (g_lc T.nh (own := [("row", 1)]) false rfl sc.nd (gi_seq (g_var 0)) (blkOk_by (by kernel_rfl)) (fun _ _ _ _ _ => (gg_name (i := 1) sc.nd rfl (by first | exact Or.inl rfl | exact Or.inr rfl) (by decide))) (fun _ _ _ _ _ => gts_nil) (fun _ _ _ _ _ => (g_def D_is_row (hr.mono (by decide)) takes0 rfl (ga_cons (g_var 1) ga_nil)))) ga_nil))))))) (gss_one (gs_ret g_bool)) gss_nil)
    (gss_one (gs_ret (g_eq hr (g_lenK (gk_sc T.nh (own := [("row", 1)]) rfl sc.nd (gi_seq (g_var 0)) (blkOk_by (by kernel_rfl)) (fun _ _ _ _ _ => (gg_name (i := 1) sc.nd rfl (by first | exact Or.inl rfl | exact Or.inr rfl) (by decide))) (fun _ _ _ _ _ => gts_nil) (fun _ _ _ _ _ => (g_ix (g_var 1) g_int (fun _ _ => rfl)))) rfl T.n_len) (g_callB call_lenA s_lenA rfl T.n_len (by decide +kernel) (ga_cons (g_var 0) ga_nil))))))
abbrev st_are_tries : Stmt := top 15
def b_are_tries : SF :=
    (sRet (eAnd (eIsi isInt (eVar 0)) (eAnd (eNot (eIsi isBl (eVar 0))) (e2 vGe (eVar 0) (eC (.int 1))))))
def f_are_tries : BF := runB 1 b_are_tries
theorem sc_are_tries : FnScope ["value"] ["value"] (defScope st_are_tries) := ⟨rfl, rfl, rfl, by decide +kernel, rfl, by decide +kernel, by decide +kernel⟩
theorem ok_are_tries {f : Addr} {fd : FuncData} (Fz : Fn K "are_tries" "are_tries" st_are_tries f fd) (T : Txt K mg w ad) : FnOk P w K mg base (L2.CX P w) 1 f fd ["value"] (spOf K ad 1 f_are_tries) := by
  have sc := sc_are_tries
  refine def_ok T.nh Fz sc (body := b_are_tries) fun cdv A outer s H E hr => ?_
  have tk := takes_of (X := cxOf (L2.CX P w) P w K mg base ["value"] "are_tries" (defScope st_are_tries) f cdv A outer s H E) rfl rfl rfl rfl
  have hp := passes_of (X := cxOf (L2.CX P w) P w K mg base ["value"] "are_tries" (defScope st_are_tries) f cdv A outer s H E) rfl
  exact (gss_one (gs_ret (g_and (g_isi T.ity rfl T.n_isinstance (g_var 0) (cl_ty rfl T.n_int (by decide +kernel)) T.isi_int) (g_and (g_not (g_isi T.ity rfl T.n_isinstance (g_var 0) (cl_ty rfl T.n_bool (by decide +kernel)) T.isi_bool)) (g_one (g_ge (g_var 0) g_int))))))
abbrev st_wrong_argument : Stmt := top 16
def b_wrong_argument : SF :=
    (sSeq (sSet 5 (eTup (aCons (eTup (aCons (eC (.str "name")) (aCons (eDef f_is_name 1 [] (aCons (eVar 0) aNil)) aNil))) (aCons (eTup (aCons (eC (.str "rows")) (aCons (eDef f_are_rows 1 [] (aCons (eVar 1) aNil)) aNil))) (aCons (eTup (aCons (eC (.str "tail")) (aCons (eDef f_is_action 1 [] (aCons (eVar 2) aNil)) aNil))) (aCons (eTup (aCons (eC (.str "tries")) (aCons (eDef f_are_tries 1 [] (aCons (eVar 3) aNil)) aNil))) (aCons (eTup (aCons (eC (.str "clears")) (aCons (eIsi isBl (eVar 4)) aNil))) aNil)))))))
    (sSeq (sFor (iSeq (eVar 5)) (tgTup 2 (tgsCons 6 (tgsCons 7 tgsNil))) (sIf (tNotF (eBool (eVar 7))) (sRet (eVar 6)) sNx))
    (sRet (eC .non))))
def f_wrong_argument : BF := runB 8 b_wrong_argument
theorem sc_wrong_argument : FnScope ["name", "rows", "tail", "tries", "clears", "checked", "word", "right"] ["name", "rows", "tail", "tries", "clears"] (defScope st_wrong_argument) := ⟨rfl, rfl, rfl, by decide +kernel, rfl, by decide +kernel, by decide +kernel⟩
theorem ok_wrong_argument {f : Addr} {fd : FuncData} (Fz : Fn K "wrong_argument" "wrong_argument" st_wrong_argument f fd) (T : Txt K mg w ad) (D_are_tries : DefAt P w K mg base ad 1 "are_tries" 1 [] f_are_tries) (D_is_action : DefAt P w K mg base ad 2 "is_action" 1 [] f_is_action) (D_are_rows : DefAt P w K mg base ad 4 "are_rows" 1 [] f_are_rows) (D_is_name : DefAt P w K mg base ad 1 "is_name" 1 [] f_is_name) : FnOk P w K mg base (L2.CX P w) 5 f fd ["name", "rows", "tail", "tries", "clears"] (spOf K ad 5 f_wrong_argument) := by
  have sc := sc_wrong_argument
  refine def_ok T.nh Fz sc (body := b_wrong_argument) fun cdv A outer s H E hr => ?_
  have tk := takes_of (X := cxOf (L2.CX P w) P w K mg base ["name", "rows", "tail", "tries", "clears", "checked", "word", "right"] "wrong_argument" (defScope st_wrong_argument) f cdv A outer s H E) rfl rfl rfl rfl
  have hp := passes_of (X := cxOf (L2.CX P w) P w K mg base ["name", "rows", "tail", "tries", "clears", "checked", "word", "right"] "wrong_argument" (defScope st_wrong_argument) f cdv A outer s H E) rfl
  exact (gss_cons (gs_set (i := 5) sc.nd rfl (by first | exact Or.inl rfl | exact Or.inr rfl) (g_tup (ga_cons (g_tup (ga_cons g_str (ga_cons (g_def D_is_name (hr.mono (by decide)) tk rfl (ga_cons (g_var 0) ga_nil)) ga_nil))) (ga_cons (g_tup (ga_cons g_str (ga_cons (g_def D_are_rows (hr.mono (by decide)) tk rfl (ga_cons (g_var 1) ga_nil)) ga_nil))) (ga_cons (g_tup (ga_cons g_str (ga_cons (g_def D_is_action (hr.mono (by decide)) tk rfl (ga_cons (g_var 2) ga_nil)) ga_nil))) (ga_cons (g_tup (ga_cons g_str (ga_cons (g_def D_are_tries (hr.mono (by decide)) tk rfl (ga_cons (g_var 3) ga_nil)) ga_nil))) (ga_cons (g_tup (ga_cons g_str (ga_cons (g_isi T.ity rfl T.n_isinstance (g_var 4) (cl_ty rfl T.n_bool (by decide +kernel)) T.isi_bool) ga_nil))) ga_nil)))))))
    (gss_cons (gs_for (vs := [6, 7]) hp rfl (gi_seq (g_var 5)) (gg_tup rfl (ggs_cons (i := 6) sc.nd rfl (by first | exact Or.inl rfl | exact Or.inr rfl) (by decide) (ggs_cons (i := 7) sc.nd rfl (by first | exact Or.inl rfl | exact Or.inr rfl) (by decide) ggs_nil))) (gss_one (gs_if (gt_not (gt_val (g_var 7))) (gss_one (gs_ret (g_var 6))) gss_nil)))
    (gss_one (gs_ret g_non))))
abbrev st_head_line : Stmt := top 17
def b_head_line : SF :=
    (sSeq (sSet 1 (eIf (eBool (eFld "clears" (eVar 0))) (eC (.str " clear")) (eC (.str ""))))
    (sRet (jGo [(eC (.str "menu ")), (eFmt (eFld "name" (eVar 0))), (eC (.str " tries ")), (eFmt (eFld "tries" (eVar 0))), (eFmt (eVar 1))] Str.empty)))
def f_head_line : BF := runB 2 b_head_line
theorem sc_head_line : FnScope ["menu", "mark"] ["menu"] (defScope st_head_line) := ⟨rfl, rfl, rfl, by decide +kernel, rfl, by decide +kernel, by decide +kernel⟩
theorem ok_head_line {f : Addr} {fd : FuncData} (Fz : Fn K "head_line" "head_line" st_head_line f fd) (T : Txt K mg w ad) : FnOk P w K mg base (L2.CX P w) 1 f fd ["menu"] (spOf K ad 1 f_head_line) := by
  have sc := sc_head_line
  refine def_ok T.nh Fz sc (body := b_head_line) fun cdv A outer s H E hr => ?_
  have tk := takes_of (X := cxOf (L2.CX P w) P w K mg base ["menu", "mark"] "head_line" (defScope st_head_line) f cdv A outer s H E) rfl rfl rfl rfl
  have hp := passes_of (X := cxOf (L2.CX P w) P w K mg base ["menu", "mark"] "head_line" (defScope st_head_line) f cdv A outer s H E) rfl
  exact (gss_cons (gs_set (i := 1) sc.nd rfl (by first | exact Or.inl rfl | exact Or.inr rfl) (g_ifExp (gt_val (g_fld T.f_clears (g_var 0) rfl)) g_str g_str))
    (gss_one (gs_ret (g_join2 (.cons g_str (.cons (g_fmt (g_fld T.f_name (g_var 0) rfl)) (.cons g_str (.cons (g_fmt (g_fld T.f_tries (g_var 0) rfl)) (.cons (g_fmt (g_var 1)) .nil)))))))))
abbrev st_is_count : Stmt := top 18
def b_is_count : SF :=
    (sRet (eAnd (eDef f_are_digits 1 [] (aCons (eVar 0) aNil)) (eAnd (e2 vLe (eCall bLenA (aCons (eVar 0) aNil)) (eC (.int 2))) (eOr (e2 vEq (eVar 0) (eC (.str "0"))) (e2 vNe (e2 vIx (eVar 0) (eC (.int 0))) (eC (.str "0")))))))
def f_is_count : BF := runB 1 b_is_count
theorem sc_is_count : FnScope ["word"] ["word"] (defScope st_is_count) := ⟨rfl, rfl, rfl, by decide +kernel, rfl, by decide +kernel, by decide +kernel⟩
theorem ok_is_count {f : Addr} {fd : FuncData} (Fz : Fn K "is_count" "is_count" st_is_count f fd) (T : Txt K mg w ad) (D_are_digits : DefAt P w K mg base ad 1 "are_digits" 1 [] f_are_digits) : FnOk P w K mg base (L2.CX P w) 2 f fd ["word"] (spOf K ad 1 f_is_count) := by
  have sc := sc_is_count
  refine def_ok T.nh Fz sc (body := b_is_count) fun cdv A outer s H E hr => ?_
  have tk := takes_of (X := cxOf (L2.CX P w) P w K mg base ["word"] "is_count" (defScope st_is_count) f cdv A outer s H E) rfl rfl rfl rfl
  have hp := passes_of (X := cxOf (L2.CX P w) P w K mg base ["word"] "is_count" (defScope st_is_count) f cdv A outer s H E) rfl
  exact (gss_one (gs_ret (g_and (g_def D_are_digits (hr.mono (by decide)) tk rfl (ga_cons (g_var 0) ga_nil)) (g_and (g_le (g_callB call_lenA s_lenA rfl T.n_len (by decide +kernel) (ga_cons (g_var 0) ga_nil)) g_int) (g_one (g_or (g_eq hr (g_var 0) g_str) (g_one (g_ne hr (g_ix (g_var 0) g_int (fun _ _ => rfl)) g_str))))))))
abbrev st_read_head : Stmt := top 19
def b_read_head : SF :=
    (sSeq (sSet 1 (eM1 (mS (fun a _ => decide (a.length ≤ sizeLine)) fun a b => .str (Txt.removesuffix a b)) (eVar 0) (eC (.str " clear"))))
    (sSeq (sSet 2 (eM1 (mSplit false) (eVar 1) (eC (.str " "))))
    (sSeq (sIf (tOrF (eBool (e2 vNe (eCall bLenA (aCons (eVar 2) aNil)) (eC (.int 4)))) (tOrF (eBool (e2 vNe (e2 vIx (eVar 2) (eC (.int 0))) (eC (.str "menu")))) (eBool (e2 vNe (e2 vIx (eVar 2) (eC (.int 2))) (eC (.str "tries")))))) (sRet (eC .non)) sNx)
    (sSeq (sIf (tOrF (tNotF (eBool (eDef f_is_name 1 [] (aCons (e2 vIx (eVar 2) (eC (.int 1))) aNil)))) (tNotF (eBool (eDef f_is_count 1 [] (aCons (e2 vIx (eVar 2) (eC (.int 3))) aNil))))) (sRet (eC .non)) sNx)
    (sRet (eTup (aCons (e2 vIx (eVar 2) (eC (.int 1))) (aCons (eCall bInt (aCons (e2 vIx (eVar 2) (eC (.int 3))) aNil)) (aCons (e2 vNe (eVar 1) (eVar 0)) aNil)))))))))
def f_read_head : BF := runB 3 b_read_head
theorem sc_read_head : FnScope ["line", "plain", "words"] ["line"] (defScope st_read_head) := ⟨rfl, rfl, rfl, by decide +kernel, rfl, by decide +kernel, by decide +kernel⟩
theorem ok_read_head {f : Addr} {fd : FuncData} (Fz : Fn K "read_head" "read_head" st_read_head f fd) (T : Txt K mg w ad) (D_is_name : DefAt P w K mg base ad 1 "is_name" 1 [] f_is_name) (D_is_count : DefAt P w K mg base ad 2 "is_count" 1 [] f_is_count) : FnOk P w K mg base (L2.CX P w) 3 f fd ["line"] (spOf K ad 1 f_read_head) := by
  have sc := sc_read_head
  refine def_ok T.nh Fz sc (body := b_read_head) fun cdv A outer s H E hr => ?_
  have tk := takes_of (X := cxOf (L2.CX P w) P w K mg base ["line", "plain", "words"] "read_head" (defScope st_read_head) f cdv A outer s H E) rfl rfl rfl rfl
  have hp := passes_of (X := cxOf (L2.CX P w) P w K mg base ["line", "plain", "words"] "read_head" (defScope st_read_head) f cdv A outer s H E) rfl
  exact (gss_cons (gs_set (i := 1) sc.nd rfl (by first | exact Or.inl rfl | exact Or.inr rfl) (g_removesuffix (g_var 0) g_str))
    (gss_cons (gs_set (i := 2) sc.nd rfl (by first | exact Or.inl rfl | exact Or.inr rfl) (g_split false (g_var 1) g_str))
    (gss_cons (gs_if (GW.t (gw_or (t_ne hr (g_callB call_lenA s_lenA rfl T.n_len (by decide +kernel) (ga_cons (g_var 2) ga_nil)) g_int) (gw_or (t_ne hr (g_ix (g_var 2) g_int (fun _ _ => rfl)) g_str) (gw_or1 (t_ne hr (g_ix (g_var 2) g_int (fun _ _ => rfl)) g_str))))) (gss_one (gs_ret g_non)) gss_nil)
    (gss_cons (gs_if (GW.t (gw_or (gt_not (gt_val (g_def D_is_name (hr.mono (by decide)) tk rfl (ga_cons (g_ix (g_var 2) g_int (fun _ _ => rfl)) ga_nil)))) (gw_or1 (gt_not (gt_val (g_def D_is_count (hr.mono (by decide)) tk rfl (ga_cons (g_ix (g_var 2) g_int (fun _ _ => rfl)) ga_nil))))))) (gss_one (gs_ret g_non)) gss_nil)
    (gss_one (gs_ret (g_tup (ga_cons (g_ix (g_var 2) g_int (fun _ _ => rfl)) (ga_cons (g_callT c_int s_int rfl T.n_int (by decide +kernel) (ga_cons (g_ix (g_var 2) g_int (fun _ _ => rfl)) ga_nil)) (ga_cons (g_ne hr (g_var 1) (g_var 0)) ga_nil))))))))))
abbrev st_read_part : Stmt := top 20
def b_read_part : SF :=
    (sSeq (sSet 2 (eDef f_read_head 1 [] (aCons (e2 vIx (eVar 0) (eVar 1)) aNil)))
    (sSeq (sIf (eBool (e2 vIsN (eVar 2) (eC .non))) (sRaise "InvalidText" "at" (eVar 1)) sNx)
    (sSeq (sAsg (eVar 2) (tgTup 3 (tgsCons 3 (tgsCons 4 (tgsCons 5 tgsNil)))))
    (sSeq (sSet 6 (eLst false aNil))
    (sSeq (sFor (iRg2 (aCons (e2 vAdd (eVar 1) (eC (.int 1))) (aCons (eCall bLenA (aCons (eVar 0) aNil)) aNil))) (tgName 7) (sSeq (sAsg (eM1 mPart (e2 vIx (eVar 0) (eVar 7)) (eC (.str " "))) (tgTup 3 (tgsCons 8 (tgsCons 9 (tgsCons 10 tgsNil)))))
    (sSeq (sIf (tAndF (eBool (e2 vEq (eVar 8) (eC (.str "else")))) (eBool (eDef f_is_action 1 [] (aCons (eVar 10) aNil)))) (sRet (eTup (aCons (eTup (aCons (eVar 3) (aCons (eVar 6) (aCons (eVar 10) (aCons (eVar 4) (aCons (eVar 5) aNil)))))) (aCons (e2 vAdd (eVar 7) (eC (.int 1))) aNil)))) sNx)
    (sSeq (sSet 6 (eLst false (aStar (eVar 6) (aCons (eTup (aCons (eVar 8) (aCons (eVar 10) aNil))) aNil))))
    (sIf (tNotF (eBool (eDef f_are_rows 1 [] (aCons (eVar 6) aNil)))) (sRaise "InvalidText" "at" (eVar 7)) sNx)))))
    (sRaise "InvalidText" "at" (eCall bLenA (aCons (eVar 0) aNil))))))))
def f_read_part : BF := runB 11 b_read_part
theorem sc_read_part : FnScope ["lines", "start", "head", "name", "tries", "clears", "rows", "at", "word", "_", "action"] ["lines", "start"] (defScope st_read_part) := ⟨rfl, rfl, rfl, by decide +kernel, rfl, by decide +kernel, by decide +kernel⟩
theorem ok_read_part {f : Addr} {fd : FuncData} (Fz : Fn K "read_part" "read_part" st_read_part f fd) (T : Txt K mg w ad) (D_read_head : DefAt P w K mg base ad 3 "read_head" 1 [] f_read_head) (E_InvalidText : ErrAt P w K mg base ad 1 "InvalidText" "at") (D_is_action : DefAt P w K mg base ad 2 "is_action" 1 [] f_is_action) (D_are_rows : DefAt P w K mg base ad 4 "are_rows" 1 [] f_are_rows) : FnOk P w K mg base (L2.CX P w) 5 f fd ["lines", "start"] (spOf K ad 2 f_read_part) := by
  have sc := sc_read_part
  refine def_ok T.nh Fz sc (body := b_read_part) fun cdv A outer s H E hr => ?_
  have tk := takes_of (X := cxOf (L2.CX P w) P w K mg base ["lines", "start", "head", "name", "tries", "clears", "rows", "at", "word", "_", "action"] "read_part" (defScope st_read_part) f cdv A outer s H E) rfl rfl rfl rfl
  have hp := passes_of (X := cxOf (L2.CX P w) P w K mg base ["lines", "start", "head", "name", "tries", "clears", "rows", "at", "word", "_", "action"] "read_part" (defScope st_read_part) f cdv A outer s H E) rfl
  exact (gss_cons (gs_set (i := 2) sc.nd rfl (by first | exact Or.inl rfl | exact Or.inr rfl) (g_def D_read_head (hr.mono (by decide)) tk rfl (ga_cons (g_ix (g_var 0) (g_var 1) (fun _ _ => rfl)) ga_nil)))
    (gss_cons (gs_if (t_isN (g_var 2) g_non) (gss_one (gs_raise E_InvalidText rfl (hr.mono (by decide)) tk rfl (g_var 1))) gss_nil)
    (gss_cons (gs_asg (vs := [3, 4, 5]) (g_var 2) (gg_tup rfl (ggs_cons (i := 3) sc.nd rfl (by first | exact Or.inl rfl | exact Or.inr rfl) (by decide) (ggs_cons (i := 4) sc.nd rfl (by first | exact Or.inl rfl | exact Or.inr rfl) (by decide) (ggs_cons (i := 5) sc.nd rfl (by first | exact Or.inl rfl | exact Or.inr rfl) (by decide) ggs_nil)))))
    (gss_cons (gs_set (i := 6) sc.nd rfl (by first | exact Or.inl rfl | exact Or.inr rfl) (g_lst false ga_nil))
    (gss_cons (gs_for (vs := [7]) hp rfl (gi_range2 rfl T.n_range (ga_cons (g_add (g_var 1) g_int) (ga_cons (g_callB call_lenA s_lenA rfl T.n_len (by decide +kernel) (ga_cons (g_var 0) ga_nil)) ga_nil))) (gg_name (i := 7) sc.nd rfl (by first | exact Or.inl rfl | exact Or.inr rfl) (by decide)) (gss_cons (gs_asg (vs := [8, 9, 10]) (g_partition (g_ix (g_var 0) (g_var 7) (fun _ _ => rfl)) g_str) (gg_tup rfl (ggs_cons (i := 8) sc.nd rfl (by first | exact Or.inl rfl | exact Or.inr rfl) (by decide) (ggs_cons (i := 9) sc.nd rfl (by first | exact Or.inl rfl | exact Or.inr rfl) (by decide) (ggs_cons (i := 10) sc.nd rfl (by first | exact Or.inl rfl | exact Or.inr rfl) (by decide) ggs_nil)))))
    (gss_cons (gs_if (GW.t (gw_and (t_eq hr (g_var 8) g_str) (gw_and1 (gt_val (g_def D_is_action (hr.mono (by decide)) tk rfl (ga_cons (g_var 10) ga_nil)))))) (gss_one (gs_ret (g_tup (ga_cons (g_tup (ga_cons (g_var 3) (ga_cons (g_var 6) (ga_cons (g_var 10) (ga_cons (g_var 4) (ga_cons (g_var 5) ga_nil)))))) (ga_cons (g_add (g_var 7) g_int) ga_nil))))) gss_nil)
    (gss_cons (gs_set (i := 6) sc.nd rfl (by first | exact Or.inl rfl | exact Or.inr rfl) (g_lst false (ga_star (g_var 6) (ga_cons (g_tup (ga_cons (g_var 8) (ga_cons (g_var 10) ga_nil))) ga_nil))))
    (gss_one (gs_if (gt_not (gt_val (g_def D_are_rows (hr.mono (by decide)) tk rfl (ga_cons (g_var 6) ga_nil)))) (gss_one (gs_raise E_InvalidText rfl (hr.mono (by decide)) tk rfl (g_var 7))) gss_nil))))))
    (gss_one (gs_raise E_InvalidText rfl (hr.mono (by decide)) tk rfl (g_callB call_lenA s_lenA rfl T.n_len (by decide +kernel) (ga_cons (g_var 0) ga_nil)))))))))
abbrev st_Menu_init : Stmt := inClass (top 21) 0
def b_Menu_init : SF :=
    (sSeq (sSet 6 (eDef f_wrong_argument 5 [] (aCons (eVar 1) (aCons (eVar 2) (aCons (eVar 3) (aCons (eVar 4) (aCons (eVar 5) aNil)))))))
    (sSeq (sIf (eBool (e2 vNotN (eVar 6) (eC .non))) (sRaise "InvalidMenu" "word" (eVar 6)) sNx)
    (sSeq (Fl.sFld "name" (eVar 0) (eVar 1))
    (sSeq (Fl.sFld "rows" (eVar 0) (eCall bTup (aCons (eCall (bSorted false) (aCons (eVar 2) aNil)) aNil)))
    (sSeq (Fl.sFld "tail" (eVar 0) (eVar 3))
    (sSeq (Fl.sFld "tries" (eVar 0) (eVar 4))
    (Fl.sFld "clears" (eVar 0) (eVar 5))))))))
def f_Menu_init : BF := runB 7 b_Menu_init
theorem sc_Menu_init : FnScope ["self", "name", "rows", "tail", "tries", "clears", "word"] ["self", "name", "rows", "tail", "tries", "clears"] (defScope st_Menu_init) := ⟨rfl, rfl, rfl, by decide +kernel, rfl, by decide +kernel, by decide +kernel⟩
theorem ok_Menu_init {f : Addr} {fd : FuncData} (Fz : Fn K "__init__" "Menu.__init__" st_Menu_init f fd) (T : Txt K mg w ad) (D_wrong_argument : DefAt P w K mg base ad 5 "wrong_argument" 5 [] f_wrong_argument) (E_InvalidMenu : ErrAt P w K mg base ad 1 "InvalidMenu" "word") : FnOk P w K mg base (L2.CX P w) 6 f fd ["self", "name", "rows", "tail", "tries", "clears"] (spOf K ad 6 f_Menu_init) := by
  have sc := sc_Menu_init
  refine def_ok T.nh Fz sc (body := b_Menu_init) fun cdv A outer s H E hr => ?_
  have tk := takes_of (X := cxOf (L2.CX P w) P w K mg base ["self", "name", "rows", "tail", "tries", "clears", "word"] "Menu.__init__" (defScope st_Menu_init) f cdv A outer s H E) rfl rfl rfl rfl
  have hp := passes_of (X := cxOf (L2.CX P w) P w K mg base ["self", "name", "rows", "tail", "tries", "clears", "word"] "Menu.__init__" (defScope st_Menu_init) f cdv A outer s H E) rfl
  exact (gss_cons (gs_set (i := 6) sc.nd rfl (by first | exact Or.inl rfl | exact Or.inr rfl) (g_def D_wrong_argument (hr.mono (by decide)) tk rfl (ga_cons (g_var 1) (ga_cons (g_var 2) (ga_cons (g_var 3) (ga_cons (g_var 4) (ga_cons (g_var 5) ga_nil)))))))
    (gss_cons (gs_if (t_notN (g_var 6) g_non) (gss_one (gs_raise E_InvalidMenu rfl (hr.mono (by decide)) tk rfl (g_var 6))) gss_nil)
    (gss_cons (gs_fld T.f_name (g_var 0) (g_var 1))
    (gss_cons (gs_fld T.f_rows (g_var 0) (g_callT call_tuple_of s_tup rfl T.n_tuple (by decide +kernel) (ga_cons (g_callB (cr_sortD hr.units) (s_sorted (c := false)) rfl T.n_sorted (by decide +kernel) (ga_cons (g_var 2) ga_nil)) ga_nil)))
    (gss_cons (gs_fld T.f_tail (g_var 0) (g_var 3))
    (gss_cons (gs_fld T.f_tries (g_var 0) (g_var 4))
    (gss_one (gs_fld T.f_clears (g_var 0) (g_var 5)))))))))
abbrev st_Menu_read : Stmt := inClass (top 21) 1
def b_Menu_read : SF :=
    (sSeq (sSet 2 (eM1 (mSplit false) (eVar 1) (eC (.str "\n"))))
    (sSeq (sAsg (eDef f_read_part 2 [] (aCons (eVar 2) (aCons (eC (.int 0)) aNil))) (tgTup 2 (tgsCons 3 (tgsCons 4 tgsNil))))
    (sSeq (sIf (eBool (e2 vLt (eVar 4) (eCall bLenA (aCons (eVar 2) aNil)))) (sRaise "InvalidText" "at" (eVar 4)) sNx)
    (sSeq (sAsg (eVar 3) (tgTup 5 (tgsCons 5 (tgsCons 6 (tgsCons 7 (tgsCons 8 (tgsCons 9 tgsNil)))))))
    (sRet (eMakL 0 "Menu" false f_Menu_init 6 [] (aCons (eVar 5) (aCons (eVar 6) (aCons (eVar 7) (aCons (eVar 8) (aCons (eVar 9) aNil)))))))))))
def f_Menu_read : BF := runB 10 b_Menu_read
theorem sc_Menu_read : FnScope ["cls", "text", "lines", "part", "behind", "name", "rows", "tail", "tries", "clears"] ["cls", "text"] (defScope st_Menu_read) := ⟨rfl, rfl, rfl, by decide +kernel, rfl, by decide +kernel, by decide +kernel⟩
theorem ok_Menu_read {f : Addr} {fd : FuncData} (Fz : Fn K "read" "Menu.read" st_Menu_read f fd) (T : Txt K mg w ad) (D_read_part : DefAt P w K mg base ad 5 "read_part" 2 [] f_read_part) (E_InvalidText : ErrAt P w K mg base ad 1 "InvalidText" "at") (K_Menu : MakAt P w K mg base ad 6 "Menu" 6 [] f_Menu_init) : FnOk P w K mg base (L2.CX P w) 8 f fd ["cls", "text"] (spOf K ad 2 f_Menu_read) := by
  have sc := sc_Menu_read
  refine def_ok T.nh Fz sc (body := b_Menu_read) fun cdv A outer s H E hr => ?_
  have tk := takes_of (X := cxOf (L2.CX P w) P w K mg base ["cls", "text", "lines", "part", "behind", "name", "rows", "tail", "tries", "clears"] "Menu.read" (defScope st_Menu_read) f cdv A outer s H E) rfl rfl rfl rfl
  have hp := passes_of (X := cxOf (L2.CX P w) P w K mg base ["cls", "text", "lines", "part", "behind", "name", "rows", "tail", "tries", "clears"] "Menu.read" (defScope st_Menu_read) f cdv A outer s H E) rfl
  exact (gss_cons (gs_set (i := 2) sc.nd rfl (by first | exact Or.inl rfl | exact Or.inr rfl) (g_split false (g_var 1) g_str))
    (gss_cons (gs_asg (vs := [3, 4]) (g_def D_read_part (hr.mono (by decide)) tk rfl (ga_cons (g_var 2) (ga_cons g_int ga_nil))) (gg_tup rfl (ggs_cons (i := 3) sc.nd rfl (by first | exact Or.inl rfl | exact Or.inr rfl) (by decide) (ggs_cons (i := 4) sc.nd rfl (by first | exact Or.inl rfl | exact Or.inr rfl) (by decide) ggs_nil))))
    (gss_cons (gs_if (t_lt (g_var 4) (g_callB call_lenA s_lenA rfl T.n_len (by decide +kernel) (ga_cons (g_var 2) ga_nil))) (gss_one (gs_raise E_InvalidText rfl (hr.mono (by decide)) tk rfl (g_var 4))) gss_nil)
    (gss_cons (gs_asg (vs := [5, 6, 7, 8, 9]) (g_var 3) (gg_tup rfl (ggs_cons (i := 5) sc.nd rfl (by first | exact Or.inl rfl | exact Or.inr rfl) (by decide) (ggs_cons (i := 6) sc.nd rfl (by first | exact Or.inl rfl | exact Or.inr rfl) (by decide) (ggs_cons (i := 7) sc.nd rfl (by first | exact Or.inl rfl | exact Or.inr rfl) (by decide) (ggs_cons (i := 8) sc.nd rfl (by first | exact Or.inl rfl | exact Or.inr rfl) (by decide) (ggs_cons (i := 9) sc.nd rfl (by first | exact Or.inl rfl | exact Or.inr rfl) (by decide) ggs_nil)))))))
    (gss_one (gs_ret (g_makL (i := 0) false K_Menu (hr.mono (by decide)) tk rfl (Or.inl rfl) (ga_cons (g_var 5) (ga_cons (g_var 6) (ga_cons (g_var 7) (ga_cons (g_var 8) (ga_cons (g_var 9) ga_nil))))))))))))
abbrev st_Menu_eq : Stmt := inClass (top 21) 3
def b_Menu_eq : SF :=
    (sRet (eAnd (eIsi (isOwn "Menu") (eVar 1)) (eAnd (e2 vEq (eFld "name" (eVar 0)) (eFld "name" (eVar 1))) (eAnd (e2 vEq (eFld "rows" (eVar 0)) (eFld "rows" (eVar 1))) (eAnd (e2 vEq (eFld "tail" (eVar 0)) (eFld "tail" (eVar 1))) (eAnd (e2 vEq (eFld "tries" (eVar 0)) (eFld "tries" (eVar 1))) (e2 vEq (eFld "clears" (eVar 0)) (eFld "clears" (eVar 1)))))))))
def f_Menu_eq : BF := runB 2 b_Menu_eq
theorem pu_Menu_eq : Pur f_Menu_eq := by
  unfold f_Menu_eq b_Menu_eq
  repeat (first | exact pu_var | exact pu_c | exact pu_eq | exact pu_eqS | refine pu_run ?_ | refine pu_and ?_ ?_ | refine pu_isi ?_ | refine pu_fld ?_ | refine pu_e2 ?_ ?_ ?_)
theorem sc_Menu_eq : FnScope ["self", "other"] ["self", "other"] (defScope st_Menu_eq) := ⟨rfl, rfl, rfl, by decide +kernel, rfl, by decide +kernel, by decide +kernel⟩
theorem ok_Menu_eq {f : Addr} {fd : FuncData} (Fz : Fn K "__eq__" "Menu.__eq__" st_Menu_eq f fd) (T : Txt K mg w ad) : FnOk P w K mg base (L2.CX P w) 1 f fd ["self", "other"] (spOf K ad 2 f_Menu_eq) := by
  have sc := sc_Menu_eq
  refine def_ok T.nh Fz sc (body := b_Menu_eq) fun cdv A outer s H E hr => ?_
  have tk := takes_of (X := cxOf (L2.CX P w) P w K mg base ["self", "other"] "Menu.__eq__" (defScope st_Menu_eq) f cdv A outer s H E) rfl rfl rfl rfl
  have hp := passes_of (X := cxOf (L2.CX P w) P w K mg base ["self", "other"] "Menu.__eq__" (defScope st_Menu_eq) f cdv A outer s H E) rfl
  exact (gss_one (gs_ret (g_and (g_isi T.ity rfl T.n_isinstance (g_var 1) (cl_own rfl T.c_Menu) T.isi_Menu) (g_and (g_eq hr (g_fld T.f_name (g_var 0) rfl) (g_fld T.f_name (g_var 1) rfl)) (g_and (g_eq hr (g_fld T.f_rows (g_var 0) rfl) (g_fld T.f_rows (g_var 1) rfl)) (g_and (g_eq hr (g_fld T.f_tail (g_var 0) rfl) (g_fld T.f_tail (g_var 1) rfl)) (g_and (g_eq hr (g_fld T.f_tries (g_var 0) rfl) (g_fld T.f_tries (g_var 1) rfl)) (g_one (g_eq hr (g_fld T.f_clears (g_var 0) rfl) (g_fld T.f_clears (g_var 1) rfl))))))))))
abbrev st_Menu_str : Stmt := inClass (top 21) 4
def b_Menu_str : SF :=
    (sSeq (sSet 1 (eLc false (iSeq (eFld "rows" (eVar 0))) (tgTup 2 (tgsCons 2 (tgsCons 3 tgsNil))) tTrue (jGo [(eFmt (eVar 2)), (eC (.str " ")), (eFmt (eVar 3))] Str.empty) [2, 3]))
    (sRet (eM1 mJoin (eC (.str "\n")) (eLst false (aCons (eDef f_head_line 1 [] (aCons (eVar 0) aNil)) (aStar (eVar 1) (aCons (jGo [(eC (.str "else ")), (eFmt (eFld "tail" (eVar 0)))] Str.empty) aNil)))))))
def f_Menu_str : BF := runB 4 b_Menu_str
theorem sc_Menu_str : FnScope ["self", "rows", "digit", "action"] ["self"] (defScope st_Menu_str) := ⟨rfl, rfl, rfl, by decide +kernel, rfl, by decide +kernel, by decide +kernel⟩
theorem ok_Menu_str {f : Addr} {fd : FuncData} (Fz : Fn K "__str__" "Menu.__str__" st_Menu_str f fd) (T : Txt K mg w ad) (D_head_line : DefAt P w K mg base ad 1 "head_line" 1 [] f_head_line) : FnOk P w K mg base (L2.CX P w) 2 f fd ["self"] (spOf K ad 1 f_Menu_str) := by
  have sc := sc_Menu_str
  refine def_ok T.nh Fz sc (body := b_Menu_str) fun cdv A outer s H E hr => ?_
  have tk := takes_of (X := cxOf (L2.CX P w) P w K mg base ["self", "rows", "digit", "action"] "Menu.__str__" (defScope st_Menu_str) f cdv A outer s H E) rfl rfl rfl rfl
  have hp := passes_of (X := cxOf (L2.CX P w) P w K mg base ["self", "rows", "digit", "action"] "Menu.__str__" (defScope st_Menu_str) f cdv A outer s H E) rfl
  exact (gss_cons (gs_setLc T.nh (i := 1) (own := [("digit", 2), ("action", 3)]) false rfl sc.nd rfl rfl (sw_true rfl rfl rfl (by kernel_rfl)) (gi_seq (g_fld T.f_rows (g_var 0) rfl)) (blkOk_by (by kernel_rfl)) (fun _ _ _ _ _ => (gg_tup rfl (ggs_cons (i := 2) sc.nd rfl (by first | exact Or.inl rfl | exact Or.inr rfl) (by decide) (ggs_cons (i := 3) sc.nd rfl (by first | exact Or.inl rfl | exact Or.inr rfl) (by decide) ggs_nil)))) (fun _ _ _ _ _ => gts_nil) (fun _ _ _ _ _ => (g_join2 (.cons (g_fmt (g_var 2)) (.cons g_str (.cons (g_fmt (g_var 3)) .nil))))))
    (gss_one (gs_ret (g_join g_str (g_lst false (ga_cons (g_def D_head_line (hr.mono (by decide)) tk rfl (ga_cons (g_var 0) ga_nil)) (ga_star (g_var 1) (ga_cons (g_join2 (.cons g_str (.cons (g_fmt (g_fld T.f_tail (g_var 0) rfl)) .nil))) ga_nil))))))))
abbrev st_l_seed : Stmt := top 23
def b_l_seed : SF :=
    (sSeq (sSet 2 (e2 vAdd (e2 vMul (eC (.int 6971)) (eVar 1)) (eC (.int 53))))
    (sSeq (sIf (eBool (e2 vLt (eVar 1) (eCall bLenA (aCons (eVar 0) aNil)))) (sSet 2 (eCall bAbs (aCons (e2 vIx (eVar 0) (eVar 1)) aNil))) (sIf (eBool (e2 vGt (eCall bLenA (aCons (eVar 0) aNil)) (eC (.int 0)))) (sSet 2 (e2 vAdd (eVar 2) (e2 vMul (e2 vMod (eCall bInt (aCons (eCall bAbs (aCons (e2 vIx (eVar 0) (e2 vMod (eCall bInt (aCons (eVar 1) aNil)) (eCall bLenA (aCons (eVar 0) aNil)))) aNil)) aNil)) (eC (.int 2147483629))) (eC (.int 50111))))) sNx))
    (sSeq (sSet 3 (eIf (eBool (e2 vGe (eVar 2) (e2 vPow (eC (.int 10)) (eC (.int 18))))) (eVar 2) (eC (.int 0))))
    (sRet (eLst true (aCons (eVar 3) (aCons (e2 vAdd (e2 vMod (eCall bInt (aCons (e2 vAdd (e2 vMul (e2 vMod (eCall bInt (aCons (eVar 2) aNil)) (eC (.int 2147483629))) (eC (.int 48271))) (e2 vMul (eC (.int 31019)) (eVar 1))) aNil)) (eC (.int 2147483629))) (eC (.int 1))) aNil)))))))
def f_l_seed : BF := runB 4 b_l_seed
theorem sc_l_seed : FnScope ["_law_script", "_law_k", "_law_cell", "_law_great"] ["_law_script", "_law_k"] (defScope st_l_seed) := ⟨rfl, rfl, rfl, by decide +kernel, rfl, by decide +kernel, by decide +kernel⟩
theorem ok_l_seed {f : Addr} {fd : FuncData} (Fz : Fn K "_law_seed" "_law_seed" st_l_seed f fd) (T : Txt K mg w ad) : FnOk P w K mg base (L2.CX P w) 1 f fd ["_law_script", "_law_k"] (spOf K ad 2 f_l_seed) := by
  have sc := sc_l_seed
  refine def_ok T.nh Fz sc (body := b_l_seed) fun cdv A outer s H E hr => ?_
  have tk := takes_of (X := cxOf (L2.CX P w) P w K mg base ["_law_script", "_law_k", "_law_cell", "_law_great"] "_law_seed" (defScope st_l_seed) f cdv A outer s H E) rfl rfl rfl rfl
  have hp := passes_of (X := cxOf (L2.CX P w) P w K mg base ["_law_script", "_law_k", "_law_cell", "_law_great"] "_law_seed" (defScope st_l_seed) f cdv A outer s H E) rfl
  exact (gss_cons (gs_set (i := 2) sc.nd rfl (by first | exact Or.inl rfl | exact Or.inr rfl) (g_add (g_mul g_int (g_var 1)) g_int))
    (gss_cons (gs_if (t_lt (g_var 1) (g_callB call_lenA s_lenA rfl T.n_len (by decide +kernel) (ga_cons (g_var 0) ga_nil))) (gss_one (gs_set (i := 2) sc.nd rfl (by first | exact Or.inl rfl | exact Or.inr rfl) (g_callB call_abs s_abs rfl T.n_abs (by decide +kernel) (ga_cons (g_ix (g_var 0) (g_var 1) (fun _ _ => rfl)) ga_nil)))) (gss_one (gs_if (t_gt (g_callB call_lenA s_lenA rfl T.n_len (by decide +kernel) (ga_cons (g_var 0) ga_nil)) g_int) (gss_one (gs_set (i := 2) sc.nd rfl (by first | exact Or.inl rfl | exact Or.inr rfl) (g_add (g_var 2) (g_mul (g_mod (g_callT c_int s_int rfl T.n_int (by decide +kernel) (ga_cons (g_callB call_abs s_abs rfl T.n_abs (by decide +kernel) (ga_cons (g_ix (g_var 0) (g_mod (g_callT c_int s_int rfl T.n_int (by decide +kernel) (ga_cons (g_var 1) ga_nil)) (g_callB call_lenA s_lenA rfl T.n_len (by decide +kernel) (ga_cons (g_var 0) ga_nil))) (fun _ _ => rfl)) ga_nil)) ga_nil)) g_int) g_int)))) gss_nil)))
    (gss_cons (gs_set (i := 3) sc.nd rfl (by first | exact Or.inl rfl | exact Or.inr rfl) (g_ifExp (t_ge (g_var 2) (g_pow g_int g_int)) (g_var 2) g_int))
    (gss_one (gs_ret (g_lst true (ga_cons (g_var 3) (ga_cons (g_add (g_mod (g_callT c_int s_int rfl T.n_int (by decide +kernel) (ga_cons (g_add (g_mul (g_mod (g_callT c_int s_int rfl T.n_int (by decide +kernel) (ga_cons (g_var 2) ga_nil)) g_int) g_int) (g_mul g_int (g_var 1))) ga_nil)) g_int) g_int) ga_nil))))))))
abbrev st_l_choose : Stmt := top 24
def b_l_choose : SF :=
    (sSeq (sIf (eBool (e2 vGt (e2 vIx (eVar 0) (eC (.int 0))) (eC (.int 0)))) (sSeq (sSet 2 (e2 vMod (eCall bInt (aCons (e2 vIx (eVar 0) (eC (.int 0))) aNil)) (eVar 1)))
    (sSeq (sAsg (e2 vFdiv (e2 vIx (eVar 0) (eC (.int 0))) (eVar 1)) (tgIx (eVar 0) (eC (.int 0))))
    (sRet (eVar 2)))) sNx)
    (sSeq (sSet 3 (e2 vMod (eCall bInt (aCons (e2 vAdd (e2 vMul (e2 vIx (eVar 0) (eC (.int 1))) (eC (.int 40014))) (eC (.int 43))) aNil)) (eC (.int 2147483563))))
    (sSeq (sAsg (e2 vAdd (e2 vMod (eCall bInt (aCons (e2 vAdd (e2 vMul (eVar 3) (eC (.int 40692))) (eC (.int 3571))) aNil)) (eC (.int 2147483629))) (eC (.int 1))) (tgIx (eVar 0) (eC (.int 1))))
    (sRet (e2 vMod (eCall bInt (aCons (e2 vFdiv (e2 vAdd (e2 vMul (eVar 3) (eC (.int 2147483647))) (e2 vIx (eVar 0) (eC (.int 1)))) (eC (.int 8191))) aNil)) (eVar 1))))))
def f_l_choose : BF := runB 4 b_l_choose
theorem sc_l_choose : FnScope ["_law_box", "_law_many", "_law_digit", "_law_raw"] ["_law_box", "_law_many"] (defScope st_l_choose) := ⟨rfl, rfl, rfl, by decide +kernel, rfl, by decide +kernel, by decide +kernel⟩
theorem ok_l_choose {f : Addr} {fd : FuncData} (Fz : Fn K "_law_choose" "_law_choose" st_l_choose f fd) (T : Txt K mg w ad) : FnOk P w K mg base (L2.CX P w) 1 f fd ["_law_box", "_law_many"] (spOf K ad 2 f_l_choose) := by
  have sc := sc_l_choose
  refine def_ok T.nh Fz sc (body := b_l_choose) fun cdv A outer s H E hr => ?_
  have tk := takes_of (X := cxOf (L2.CX P w) P w K mg base ["_law_box", "_law_many", "_law_digit", "_law_raw"] "_law_choose" (defScope st_l_choose) f cdv A outer s H E) rfl rfl rfl rfl
  have hp := passes_of (X := cxOf (L2.CX P w) P w K mg base ["_law_box", "_law_many", "_law_digit", "_law_raw"] "_law_choose" (defScope st_l_choose) f cdv A outer s H E) rfl
  exact (gss_cons (gs_if (t_gt (g_ix (g_var 0) g_int (fun _ _ => rfl)) g_int) (gss_cons (gs_set (i := 2) sc.nd rfl (by first | exact Or.inl rfl | exact Or.inr rfl) (g_mod (g_callT c_int s_int rfl T.n_int (by decide +kernel) (ga_cons (g_ix (g_var 0) g_int (fun _ _ => rfl)) ga_nil)) (g_var 1)))
    (gss_cons (gs_asg (vs := []) (g_fdiv (g_ix (g_var 0) g_int (fun _ _ => rfl)) (g_var 1)) (gg_ix (g_var 0) g_int))
    (gss_one (gs_ret (g_var 2))))) gss_nil)
    (gss_cons (gs_set (i := 3) sc.nd rfl (by first | exact Or.inl rfl | exact Or.inr rfl) (g_mod (g_callT c_int s_int rfl T.n_int (by decide +kernel) (ga_cons (g_add (g_mul (g_ix (g_var 0) g_int (fun _ _ => rfl)) g_int) g_int) ga_nil)) g_int))
    (gss_cons (gs_asg (vs := []) (g_add (g_mod (g_callT c_int s_int rfl T.n_int (by decide +kernel) (ga_cons (g_add (g_mul (g_var 3) g_int) g_int) ga_nil)) g_int) g_int) (gg_ix (g_var 0) g_int))
    (gss_one (gs_ret (g_mod (g_callT c_int s_int rfl T.n_int (by decide +kernel) (ga_cons (g_fdiv (g_add (g_mul (g_var 3) g_int) (g_ix (g_var 0) g_int (fun _ _ => rfl))) g_int) ga_nil)) (g_var 1)))))))
abbrev st_l_one_of : Stmt := top 25
def b_l_one_of : SF :=
    (sRet (e2 vIx (eVar 1) (eDef f_l_choose 2 [] (aCons (eVar 0) (aCons (eCall bLenA (aCons (eVar 1) aNil)) aNil)))))
def f_l_one_of : BF := runB 2 b_l_one_of
theorem sc_l_one_of : FnScope ["_law_box", "_law_some"] ["_law_box", "_law_some"] (defScope st_l_one_of) := ⟨rfl, rfl, rfl, by decide +kernel, rfl, by decide +kernel, by decide +kernel⟩
theorem ok_l_one_of {f : Addr} {fd : FuncData} (Fz : Fn K "_law_one_of" "_law_one_of" st_l_one_of f fd) (T : Txt K mg w ad) (D_l_choose : DefAt P w K mg base ad 1 "_law_choose" 2 [] f_l_choose) : FnOk P w K mg base (L2.CX P w) 2 f fd ["_law_box", "_law_some"] (spOf K ad 2 f_l_one_of) := by
  have sc := sc_l_one_of
  refine def_ok T.nh Fz sc (body := b_l_one_of) fun cdv A outer s H E hr => ?_
  have tk := takes_of (X := cxOf (L2.CX P w) P w K mg base ["_law_box", "_law_some"] "_law_one_of" (defScope st_l_one_of) f cdv A outer s H E) rfl rfl rfl rfl
  have hp := passes_of (X := cxOf (L2.CX P w) P w K mg base ["_law_box", "_law_some"] "_law_one_of" (defScope st_l_one_of) f cdv A outer s H E) rfl
  exact (gss_one (gs_ret (g_ix (g_var 1) (g_def D_l_choose (hr.mono (by decide)) tk rfl (ga_cons (g_var 0) (ga_cons (g_callB call_lenA s_lenA rfl T.n_len (by decide +kernel) (ga_cons (g_var 1) ga_nil)) ga_nil))) (fun _ _ => rfl))))
abbrev st_l_mixed : Stmt := top 26
def b_l_mixed : SF :=
    (sSeq (sPar 2 3 (aCons (eCall (bLstA true) (aCons (eVar 1) aNil)) (aCons (eLst true aNil) aNil)))
    (sSeq (sFor (iRg1 (aCons (eCall bLenA (aCons (eVar 1) aNil)) aNil)) (tgName 4) (sExp (eBM mAppend (eVar 3) (aCons (eBM mPopAt (eVar 2) (aCons (eDef f_l_choose 2 [] (aCons (eVar 0) (aCons (eCall bLenA (aCons (eVar 2) aNil)) aNil))) aNil)) aNil))))
    (sRet (eFrz (eVar 3)))))
def f_l_mixed : BF := runB 5 b_l_mixed
theorem sc_l_mixed : FnScope ["_law_box", "_law_some", "_law_left", "_law_found", "_law_turn"] ["_law_box", "_law_some"] (defScope st_l_mixed) := ⟨rfl, rfl, rfl, by decide +kernel, rfl, by decide +kernel, by decide +kernel⟩
theorem ok_l_mixed {f : Addr} {fd : FuncData} (Fz : Fn K "_law_mixed" "_law_mixed" st_l_mixed f fd) (T : Txt K mg w ad) (D_l_choose : DefAt P w K mg base ad 1 "_law_choose" 2 [] f_l_choose) : FnOk P w K mg base (L2.CX P w) 2 f fd ["_law_box", "_law_some"] (spOf K ad 2 f_l_mixed) := by
  have sc := sc_l_mixed
  refine def_ok T.nh Fz sc (body := b_l_mixed) fun cdv A outer s H E hr => ?_
  have tk := takes_of (X := cxOf (L2.CX P w) P w K mg base ["_law_box", "_law_some", "_law_left", "_law_found", "_law_turn"] "_law_mixed" (defScope st_l_mixed) f cdv A outer s H E) rfl rfl rfl rfl
  have hp := passes_of (X := cxOf (L2.CX P w) P w K mg base ["_law_box", "_law_some", "_law_left", "_law_found", "_law_turn"] "_law_mixed" (defScope st_l_mixed) f cdv A outer s H E) rfl
  exact (gss_cons (gs_par (i := 2) (j := 3) rfl sc.nd rfl rfl (by decide) rfl rfl (ga_cons (g_callT (call_lstA rfl) (s_lstA (c := true)) rfl T.n_list (by decide +kernel) (ga_cons (g_var 1) ga_nil)) (ga_cons (g_lst true ga_nil) ga_nil)) rfl)
    (gss_cons (gs_for (vs := [4]) hp rfl (gi_range1 rfl T.n_range (ga_cons (g_callB call_lenA s_lenA rfl T.n_len (by decide +kernel) (ga_cons (g_var 1) ga_nil)) ga_nil)) (gg_name (i := 4) sc.nd rfl (by first | exact Or.inl rfl | exact Or.inr rfl) (by decide)) (gss_one (gs_exp (g_append (g_var 3) (ga_cons (g_popAt (g_var 2) (ga_cons (g_def D_l_choose (hr.mono (by decide)) tk rfl (ga_cons (g_var 0) (ga_cons (g_callB call_lenA s_lenA rfl T.n_len (by decide +kernel) (ga_cons (g_var 2) ga_nil)) ga_nil))) ga_nil)) ga_nil)))))
    (gss_one (gs_ret (g_frz (g_var 3))))))
abbrev st_l_deed : Stmt := top 27
def b_l_deed : SF :=
    (sSeq (sSet 2 (eDef f_l_choose 2 [] (aCons (eVar 0) (aCons (eC (.int 11)) aNil))))
    (sSeq (sIf (eBool (e2 vLt (eVar 2) (eC (.int 2)))) (sRet (eTup (aCons (eC (.str "line")) (aCons (eDef f_l_one_of 2 [] (aCons (eVar 0) (aCons (eLst false (aCons (eC (.str "cash")) (aCons (eC (.str "desk")) (aCons (eC (.str "a")) (aCons (eC (.str "x")) aNil))))) aNil))) aNil)))) sNx)
    (sSeq (sIf (eBool (e2 vLt (eVar 2) (eC (.int 4)))) (sRet (eTup (aCons (eC (.str "go")) (aCons (eDef f_l_one_of 2 [] (aCons (eVar 0) (aCons (eVar 1) aNil))) aNil)))) sNx)
    (sSeq (sIf (eBool (e2 vLt (eVar 2) (eC (.int 7)))) (sRet (eTup (aCons (eC (.str "call")) (aCons (eDef f_l_one_of 2 [] (aCons (eVar 0) (aCons (eVar 1) aNil))) (aCons (eDef f_l_one_of 2 [] (aCons (eVar 0) (aCons (eVar 1) aNil))) aNil))))) sNx)
    (sRet (e2 vIx (eLst false (aCons (eTup (aCons (eC (.str "back")) aNil)) (aCons (eTup (aCons (eC (.str "back")) aNil)) (aCons (eTup (aCons (eC (.str "again")) aNil)) (aCons (eTup (aCons (eC (.str "main")) aNil)) aNil))))) (e2 vSub (eVar 2) (eC (.int 7)))))))))
def f_l_deed : BF := runB 3 b_l_deed
theorem sc_l_deed : FnScope ["_law_box", "_law_names", "_law_form"] ["_law_box", "_law_names"] (defScope st_l_deed) := ⟨rfl, rfl, rfl, by decide +kernel, rfl, by decide +kernel, by decide +kernel⟩
theorem ok_l_deed {f : Addr} {fd : FuncData} (Fz : Fn K "_law_deed" "_law_deed" st_l_deed f fd) (T : Txt K mg w ad) (D_l_choose : DefAt P w K mg base ad 1 "_law_choose" 2 [] f_l_choose) (D_l_one_of : DefAt P w K mg base ad 2 "_law_one_of" 2 [] f_l_one_of) : FnOk P w K mg base (L2.CX P w) 3 f fd ["_law_box", "_law_names"] (spOf K ad 2 f_l_deed) := by
  have sc := sc_l_deed
  refine def_ok T.nh Fz sc (body := b_l_deed) fun cdv A outer s H E hr => ?_
  have tk := takes_of (X := cxOf (L2.CX P w) P w K mg base ["_law_box", "_law_names", "_law_form"] "_law_deed" (defScope st_l_deed) f cdv A outer s H E) rfl rfl rfl rfl
  have hp := passes_of (X := cxOf (L2.CX P w) P w K mg base ["_law_box", "_law_names", "_law_form"] "_law_deed" (defScope st_l_deed) f cdv A outer s H E) rfl
  exact (gss_cons (gs_set (i := 2) sc.nd rfl (by first | exact Or.inl rfl | exact Or.inr rfl) (g_def D_l_choose (hr.mono (by decide)) tk rfl (ga_cons (g_var 0) (ga_cons g_int ga_nil))))
    (gss_cons (gs_if (t_lt (g_var 2) g_int) (gss_one (gs_ret (g_tup (ga_cons g_str (ga_cons (g_def D_l_one_of (hr.mono (by decide)) tk rfl (ga_cons (g_var 0) (ga_cons (g_lst false (ga_cons g_str (ga_cons g_str (ga_cons g_str (ga_cons g_str ga_nil))))) ga_nil))) ga_nil))))) gss_nil)
    (gss_cons (gs_if (t_lt (g_var 2) g_int) (gss_one (gs_ret (g_tup (ga_cons g_str (ga_cons (g_def D_l_one_of (hr.mono (by decide)) tk rfl (ga_cons (g_var 0) (ga_cons (g_var 1) ga_nil))) ga_nil))))) gss_nil)
    (gss_cons (gs_if (t_lt (g_var 2) g_int) (gss_one (gs_ret (g_tup (ga_cons g_str (ga_cons (g_def D_l_one_of (hr.mono (by decide)) tk rfl (ga_cons (g_var 0) (ga_cons (g_var 1) ga_nil))) (ga_cons (g_def D_l_one_of (hr.mono (by decide)) tk rfl (ga_cons (g_var 0) (ga_cons (g_var 1) ga_nil))) ga_nil)))))) gss_nil)
    (gss_one (gs_ret (g_ix (g_lst false (ga_cons (g_tup (ga_cons g_str ga_nil)) (ga_cons (g_tup (ga_cons g_str ga_nil)) (ga_cons (g_tup (ga_cons g_str ga_nil)) (ga_cons (g_tup (ga_cons g_str ga_nil)) ga_nil))))) (g_sub (g_var 2) g_int) (fun _ _ => rfl))))))))
abbrev st_l_menu : Stmt := top 28
def b_l_menu : SF :=
    (sSeq (sSet 4 eD0)
    (sSeq (sFor (iSeq (eSl false (eDef f_l_mixed 2 [] (aCons (eVar 0) (aCons (eC (.str "0123459")) aNil))) oNone (oSome (eDef f_l_choose 2 [] (aCons (eVar 0) (aCons (e2 vAdd (eVar 3) (eC (.int 1))) aNil)))))) (tgName 5) (Fl.sDPut (eVar 4) (eVar 5) (eDef f_l_deed 2 [] (aCons (eVar 0) (aCons (eVar 2) aNil)))))
    (sSeq (sSet 6 (eIf (eBool (e2 vEq (eDef f_l_choose 2 [] (aCons (eVar 0) (aCons (eC (.int 6)) aNil))) (eC (.int 0)))) (eTup (aCons (eC (.str "out")) aNil)) (eDef f_l_deed 2 [] (aCons (eVar 0) (aCons (eVar 2) aNil)))))
    (sRet (eLst false (aCons (eVar 1) (aCons (eVar 4) (aCons (eVar 6) (aCons (e2 vAdd (eC (.int 1)) (eDef f_l_choose 2 [] (aCons (eVar 0) (aCons (eC (.int 3)) aNil)))) (aCons (e2 vEq (eDef f_l_choose 2 [] (aCons (eVar 0) (aCons (eC (.int 4)) aNil))) (eC (.int 0))) aNil))))))))))
def f_l_menu : BF := runB 7 b_l_menu
theorem sc_l_menu : FnScope ["_law_box", "_law_name", "_law_names", "_law_most", "_law_rows", "_law_digit", "_law_tail"] ["_law_box", "_law_name", "_law_names", "_law_most"] (defScope st_l_menu) := ⟨rfl, rfl, rfl, by decide +kernel, rfl, by decide +kernel, by decide +kernel⟩
theorem ok_l_menu {f : Addr} {fd : FuncData} (Fz : Fn K "_law_menu" "_law_menu" st_l_menu f fd) (T : Txt K mg w ad) (D_l_mixed : DefAt P w K mg base ad 2 "_law_mixed" 2 [] f_l_mixed) (D_l_choose : DefAt P w K mg base ad 1 "_law_choose" 2 [] f_l_choose) (D_l_deed : DefAt P w K mg base ad 3 "_law_deed" 2 [] f_l_deed) : FnOk P w K mg base (L2.CX P w) 4 f fd ["_law_box", "_law_name", "_law_names", "_law_most"] (spOf K ad 4 f_l_menu) := by
  have sc := sc_l_menu
  refine def_ok T.nh Fz sc (body := b_l_menu) fun cdv A outer s H E hr => ?_
  have tk := takes_of (X := cxOf (L2.CX P w) P w K mg base ["_law_box", "_law_name", "_law_names", "_law_most", "_law_rows", "_law_digit", "_law_tail"] "_law_menu" (defScope st_l_menu) f cdv A outer s H E) rfl rfl rfl rfl
  have hp := passes_of (X := cxOf (L2.CX P w) P w K mg base ["_law_box", "_law_name", "_law_names", "_law_most", "_law_rows", "_law_digit", "_law_tail"] "_law_menu" (defScope st_l_menu) f cdv A outer s H E) rfl
  exact (gss_cons (gs_set (i := 4) sc.nd rfl (by first | exact Or.inl rfl | exact Or.inr rfl) g_d0)
    (gss_cons (gs_for (vs := [5]) hp rfl (gi_seq (g_sl false (g_def D_l_mixed (hr.mono (by decide)) tk rfl (ga_cons (g_var 0) (ga_cons g_str ga_nil))) go_none (go_some (g_def D_l_choose (hr.mono (by decide)) tk rfl (ga_cons (g_var 0) (ga_cons (g_add (g_var 3) g_int) ga_nil)))))) (gg_name (i := 5) sc.nd rfl (by first | exact Or.inl rfl | exact Or.inr rfl) (by decide)) (gss_one (gs_dput hr (g_var 4) (g_var 5) (g_def D_l_deed (hr.mono (by decide)) tk rfl (ga_cons (g_var 0) (ga_cons (g_var 2) ga_nil))))))
    (gss_cons (gs_set (i := 6) sc.nd rfl (by first | exact Or.inl rfl | exact Or.inr rfl) (g_ifExp (t_eq hr (g_def D_l_choose (hr.mono (by decide)) tk rfl (ga_cons (g_var 0) (ga_cons g_int ga_nil))) g_int) (g_tup (ga_cons g_str ga_nil)) (g_def D_l_deed (hr.mono (by decide)) tk rfl (ga_cons (g_var 0) (ga_cons (g_var 2) ga_nil)))))
    (gss_one (gs_ret (g_lst false (ga_cons (g_var 1) (ga_cons (g_var 4) (ga_cons (g_var 6) (ga_cons (g_add g_int (g_def D_l_choose (hr.mono (by decide)) tk rfl (ga_cons (g_var 0) (ga_cons g_int ga_nil)))) (ga_cons (g_eq hr (g_def D_l_choose (hr.mono (by decide)) tk rfl (ga_cons (g_var 0) (ga_cons g_int ga_nil))) g_int) ga_nil)))))))))))
abbrev st_l_anything : Stmt := top 32
def b_l_anything (g : BF) : SF :=
    (sSeq (sSet 2 (eDef f_l_choose 2 [] (aCons (eVar 0) (aCons (eC (.int 9)) aNil))))
    (sSeq (sIf (tOrF (eBool (e2 vLt (eVar 1) (eC (.int 1)))) (eBool (e2 vLt (eVar 2) (eC (.int 5))))) (sSeq (sSet 3 (eLst false (aCons (eC .non) (aCons (eC (.bl true)) (aCons (eC (.bl false)) (aCons (eC (.int 0)) (aCons (eC (.int 1)) (aCons (eNeg (eC (.int 3))) (aCons (e2 vPow (eC (.int 10)) (eC (.int 20))) (aCons (eC (.str "")) (aCons (eC (.str "out")) (aCons (eC (.str "line")) (aCons (eC (.str "5x")) (aCons (eC (.str "Pay")) (aCons (eC (.str "a b")) (aCons (eC (.str "abcde")) (aCons (eTup aNil) (aCons (eLst false aNil) aNil))))))))))))))))))
    (sRet (eDef f_l_one_of 2 [] (aCons (eVar 0) (aCons (eVar 3) aNil))))) sNx)
    (sSeq (sSet 4 (eLc false (iRg1 (aCons (eDef f_l_choose 2 [] (aCons (eVar 0) (aCons (eC (.int 3)) aNil))) aNil)) (tgName 5) tTrue (eDef g 2 [] (aCons (eVar 0) (aCons (e2 vSub (eVar 1) (eC (.int 1))) aNil))) [5]))
    (sRet (eIf (eBool (e2 vLt (eVar 2) (eC (.int 7)))) (eCall bTup (aCons (eVar 4) aNil)) (eVar 4))))))
def f_l_anything : BF := recF (fun g => runB 6 (b_l_anything g)) 7
theorem sc_l_anything : FnScope ["_law_box", "_law_deep", "_law_form", "_law_some", "_law_inner", "_law_turn"] ["_law_box", "_law_deep"] (defScope st_l_anything) := ⟨rfl, rfl, rfl, by decide +kernel, rfl, by decide +kernel, by decide +kernel⟩
theorem ok_l_anything {f : Addr} {fd : FuncData} (Fz : Fn K "_law_anything" "_law_anything" st_l_anything f fd) (T : Txt K mg w ad) (D_l_choose : DefAt P w K mg base ad 1 "_law_choose" 2 [] f_l_choose) (D_l_one_of : DefAt P w K mg base ad 2 "_law_one_of" 2 [] f_l_one_of) (hm : mg "_law_anything" = some (.ref f)) (hk : PySem.W.keepIn K (.ref f) = true) (hb : Binds K fd ["_law_box", "_law_deep"] []) : DefAt P w K mg base ad 9 "_law_anything" 2 [] f_l_anything := by
  have sc := sc_l_anything
  refine rec_ok (k := 2) (n := 2) hm hk hb rfl (fun m g D_self => ?_) 7
  refine def_ok T.nh Fz sc (body := b_l_anything g) fun cdv A outer s H E hr => ?_
  have tk := takes_of (X := cxOf (L2.CX P w) P w K mg base ["_law_box", "_law_deep", "_law_form", "_law_some", "_law_inner", "_law_turn"] "_law_anything" (defScope st_l_anything) f cdv A outer s H E) rfl rfl rfl rfl
  have hp := passes_of (X := cxOf (L2.CX P w) P w K mg base ["_law_box", "_law_deep", "_law_form", "_law_some", "_law_inner", "_law_turn"] "_law_anything" (defScope st_l_anything) f cdv A outer s H E) rfl
  exact (gss_cons (gs_set (i := 2) sc.nd rfl (by first | exact Or.inl rfl | exact Or.inr rfl) (g_def D_l_choose (hr.mono (by omega)) tk rfl (ga_cons (g_var 0) (ga_cons g_int ga_nil))))
    (gss_cons (gs_if (GW.t (gw_or (t_lt (g_var 1) g_int) (gw_or1 (t_lt (g_var 2) g_int)))) (gss_cons (gs_set (i := 3) sc.nd rfl (by first | exact Or.inl rfl | exact Or.inr rfl) (g_lst false (ga_cons g_non (ga_cons g_bool (ga_cons g_bool (ga_cons g_int (ga_cons g_int (ga_cons (g_neg g_int) (ga_cons (g_pow g_int g_int) (ga_cons g_str (ga_cons g_str (ga_cons g_str (ga_cons g_str (ga_cons g_str (ga_cons g_str (ga_cons g_str (ga_cons (g_tup ga_nil) (ga_cons (g_lst false ga_nil) ga_nil))))))))))))))))))
    (gss_one (gs_ret (g_def D_l_one_of (hr.mono (by omega)) tk rfl (ga_cons (g_var 0) (ga_cons (g_var 3) ga_nil)))))) gss_nil)
    (gss_cons (gs_setLc T.nh (i := 4) (own := [("_law_turn", 5)]) false rfl sc.nd rfl rfl (sw_true rfl rfl rfl (by kernel_rfl)) (gi_range1 rfl T.n_range (ga_cons (g_def D_l_choose (hr.mono (by omega)) tk rfl (ga_cons (g_var 0) (ga_cons g_int ga_nil))) ga_nil)) (blkOk_by (by kernel_rfl)) (fun _ _ _ _ _ => (gg_name (i := 5) sc.nd rfl (by first | exact Or.inl rfl | exact Or.inr rfl) (by decide))) (fun _ _ _ _ _ => gts_nil) (fun _ _ _ _ _ => (g_def D_self (hr.mono (by omega)) takes0 rfl (ga_cons (g_var 0) (ga_cons (g_sub (g_var 1) g_int) ga_nil)))))
    (gss_one (gs_ret (g_ifExp (t_lt (g_var 2) g_int) (g_callT call_tuple_of s_tup rfl T.n_tuple (by decide +kernel) (ga_cons (g_var 4) ga_nil)) (g_var 4)))))))
abbrev st_l_made : Stmt := top 33
def b_l_made : SF :=
    (sSeq (sLk (e2 vIx (eVar 0) (eC (.int 1))) (sSet 1 (eLc false (iWalk (e2 vIx (eVar 0) (eC (.int 1)))) (tgName 2) tTrue (eTup (aCons (eVar 2) (aCons (eM1 mJoin (eC (.str " ")) (eDGet (e2 vIx (eVar 0) (eC (.int 1))) (eVar 2))) aNil))) [2])))
    (sRet (eMak "Menu" false f_Menu_init 6 [] (aCons (e2 vIx (eVar 0) (eC (.int 0))) (aCons (eVar 1) (aCons (eM1 mJoin (eC (.str " ")) (e2 vIx (eVar 0) (eC (.int 2)))) (aCons (e2 vIx (eVar 0) (eC (.int 3))) (aCons (e2 vIx (eVar 0) (eC (.int 4))) aNil))))))))
def f_l_made : BF := runB 3 b_l_made
theorem sc_l_made : FnScope ["_law_one", "_law_rows", "_law_digit"] ["_law_one"] (defScope st_l_made) := ⟨rfl, rfl, rfl, by decide +kernel, rfl, by decide +kernel, by decide +kernel⟩
theorem ok_l_made {f : Addr} {fd : FuncData} (Fz : Fn K "_law_made" "_law_made" st_l_made f fd) (T : Txt K mg w ad) (K_Menu : MakAt P w K mg base ad 6 "Menu" 6 [] f_Menu_init) : FnOk P w K mg base (L2.CX P w) 8 f fd ["_law_one"] (spOf K ad 1 f_l_made) := by
  have sc := sc_l_made
  refine def_ok T.nh Fz sc (body := b_l_made) fun cdv A outer s H E hr => ?_
  have tk := takes_of (X := cxOf (L2.CX P w) P w K mg base ["_law_one", "_law_rows", "_law_digit"] "_law_made" (defScope st_l_made) f cdv A outer s H E) rfl rfl rfl rfl
  have hp := passes_of (X := cxOf (L2.CX P w) P w K mg base ["_law_one", "_law_rows", "_law_digit"] "_law_made" (defScope st_l_made) f cdv A outer s H E) rfl
  exact (gss_cons (gs_lk (gs_setLc T.nh (i := 1) (own := [("_law_digit", 2)]) false rfl sc.nd rfl rfl (sw_true rfl rfl rfl (by kernel_rfl)) (gi_walk (g_ix (g_var 0) g_int (fun _ _ => rfl))) (blkOk_by (by kernel_rfl)) (fun _ _ _ _ _ => (gg_name (i := 2) sc.nd rfl (by first | exact Or.inl rfl | exact Or.inr rfl) (by decide))) (fun _ _ _ _ _ => gts_nil) (fun _ _ _ _ _ => (g_tup (ga_cons (g_var 2) (ga_cons (g_join g_str (g_dget hr (g_ix (g_var 0) g_int (fun _ _ => rfl)) (g_var 2))) ga_nil))))))
    (gss_one (gs_ret (g_mak false K_Menu (hr.mono (by decide)) tk rfl (ga_cons (g_ix (g_var 0) g_int (fun _ _ => rfl)) (ga_cons (g_var 1) (ga_cons (g_join g_str (g_ix (g_var 0) g_int (fun _ _ => rfl))) (ga_cons (g_ix (g_var 0) g_int (fun _ _ => rfl)) (ga_cons (g_ix (g_var 0) g_int (fun _ _ => rfl)) ga_nil)))))))))
abbrev st_Menu_action : Stmt := inClass (top 21) 2
def b_Menu_action : SF :=
    (sSeq (sFor (iSeq (eFld "rows" (eVar 0))) (tgTup 2 (tgsCons 2 (tgsCons 3 tgsNil))) (sIf (eBool (e2 (vEqX "Menu" f_Menu_eq) (eVar 2) (eVar 1))) (sRet (eVar 3)) sNx))
    (sRet (eC .non)))
def f_Menu_action : BF := runB 4 b_Menu_action
theorem sc_Menu_action : FnScope ["self", "digit", "known", "action"] ["self", "digit"] (defScope st_Menu_action) := ⟨rfl, rfl, rfl, by decide +kernel, rfl, by decide +kernel, by decide +kernel⟩
theorem ok_Menu_action {f : Addr} {fd : FuncData} (Fz : Fn K "action" "Menu.action" st_Menu_action f fd) (T : Txt K mg w ad) (Q_Menu : EqAt P w K mg base ad 1 "Menu" f_Menu_eq) : FnOk P w K mg base (L2.CX P w) 3 f fd ["self", "digit"] (spOf K ad 2 f_Menu_action) := by
  have sc := sc_Menu_action
  refine def_ok T.nh Fz sc (body := b_Menu_action) fun cdv A outer s H E hr => ?_
  have tk := takes_of (X := cxOf (L2.CX P w) P w K mg base ["self", "digit", "known", "action"] "Menu.action" (defScope st_Menu_action) f cdv A outer s H E) rfl rfl rfl rfl
  have hp := passes_of (X := cxOf (L2.CX P w) P w K mg base ["self", "digit", "known", "action"] "Menu.action" (defScope st_Menu_action) f cdv A outer s H E) rfl
  exact (gss_cons (gs_for (vs := [2, 3]) hp rfl (gi_seq (g_fld T.f_rows (g_var 0) rfl)) (gg_tup rfl (ggs_cons (i := 2) sc.nd rfl (by first | exact Or.inl rfl | exact Or.inr rfl) (by decide) (ggs_cons (i := 3) sc.nd rfl (by first | exact Or.inl rfl | exact Or.inr rfl) (by decide) ggs_nil))) (gss_one (gs_if (t_eqX Q_Menu T.dk (hr.mono (by decide)) hr (g_var 2) (g_var 1)) (gss_one (gs_ret (g_var 3))) gss_nil)))
    (gss_one (gs_ret g_non)))
abbrev st_law : Stmt := top 34
def b_law : SF :=
    (sSeq (sFor (iRg1 (aCons (eCall bMax (aCons (eC (.int 1)) (aCons (eCall bMin (aCons (eC (.int 3)) (aCons (eCall bLenA (aCons (eVar 0) aNil)) aNil))) aNil))) aNil)) (tgName 1) (sSeq (sSet 2 (eDef f_l_seed 2 [] (aCons (eVar 0) (aCons (eVar 1) aNil))))
    (sFor (iRg1 (aCons (eC (.int 5)) aNil)) (tgName 3) (sSeq (sSet 4 (eDef f_l_menu 4 [] (aCons (eVar 2) (aCons (eC (.str "top")) (aCons (eLst false (aCons (eC (.str "top")) (aCons (eC (.str "ask")) (aCons (eC (.str "m")) aNil)))) (aCons (eC (.int 5)) aNil))))))
    (sSeq (sSet 5 (eDef f_l_made 1 [] (aCons (eVar 4) aNil)))
    (sSeq (sSet 6 (eLc false (iSeq (eC (.str "9876543210"))) (tgName 7) tTrue (eTup (aCons (eVar 7) (aCons (eMet ["Menu"] f_Menu_action 2 [] "action" (eVar 5) (aCons (eVar 7) aNil)) aNil))) [7]))
    (sSeq (sSet 6 (eLc false (iSeq (eVar 6)) (tgName 8) (eBool (e2 vNotN (e2 vIx (eVar 8) (eC (.int 1))) (eC .non))) (eVar 8) [8]))
    (sSeq (sSet 9 (eMak "Menu" false f_Menu_init 6 [] (aCons (eC (.str "top")) (aCons (eVar 6) (aCons (eFld "tail" (eVar 5)) (aCons (eFld "tries" (eVar 5)) (aCons (eFld "clears" (eVar 5)) aNil)))))))
    (sSeq (sIf (tOrF (eBool (e2 (vNeO "Menu" f_Menu_eq) (eVar 9) (eVar 5))) (eBool (e2 vNe (eCall bLenA (aCons (eVar 6) aNil)) (eCall bLenA (aCons (eFld "rows" (eVar 5)) aNil))))) (sRet (eC (.bl false))) sNx)
    (sSeq (sIf (eBool (e2 vNe (eCall bTup (aCons (eRev false (eVar 6)) aNil)) (eFld "rows" (eVar 5)))) (sRet (eC (.bl false))) sNx)
    (sSeq (sSet 10 (eLst false (aCons (eC .non) (aCons (eC (.int 0)) (aCons (eC (.int 1)) (aCons (eC (.str "")) (aCons (eC (.str "01")) (aCons (eC (.str "a")) (aCons (eC (.str "-")) (aCons (eLst false (aCons (eC (.str "1")) aNil)) (aCons (eTup (aCons (eC (.str "1")) aNil)) (aCons (eC (.bl true)) (aCons (eVar 5) (aCons (e2 vPow (eC (.int 10)) (eC (.int 20))) aNil))))))))))))))
    (sSeq (sFor (iSeq (e2 vAdd (eVar 10) (eLst false (aCons (eDef f_l_anything 2 [] (aCons (eVar 2) (aCons (eC (.int 4)) aNil))) aNil)))) (tgName 11) (sIf (eBool (e2 vNotN (eMet ["Menu"] f_Menu_action 2 [] "action" (eVar 5) (aCons (eVar 11) aNil)) (eC .non))) (sRet (eC (.bl false))) sNx))
    (sIf (tOrF (eBool (e2 vNe (eFld "rows" (eCMet "Menu" f_Menu_read 2 [] (eC (.cls "Menu")) (aCons (eCall (bStrO "Menu" f_Menu_str bStr) (aCons (eVar 5) aNil)) aNil))) (eFld "rows" (eVar 5)))) (eBool (e2 vNe (eMet ["Menu"] f_Menu_action 2 [] "action" (eVar 5) (aCons (eC (.str "0")) aNil)) (eMet ["Menu"] f_Menu_action 2 [] "action" (eCMet "Menu" f_Menu_read 2 [] (eC (.cls "Menu")) (aCons (eCall (bStrO "Menu" f_Menu_str bStr) (aCons (eVar 5) aNil)) aNil)) (aCons (eC (.str "0")) aNil))))) (sRet (eC (.bl false))) sNx)))))))))))))
    (sRet (eC (.bl true))))
def f_law : BF := runB 12 b_law
theorem sc_law : FnScope ["_law_script", "_law_k", "_law_box", "_law_turn", "_law_one", "_law_made_here", "_law_met", "_law_digit", "_law_pair", "_law_again", "_law_some", "_law_thing"] ["_law_script"] (defScope st_law) := ⟨rfl, rfl, rfl, by decide +kernel, rfl, by decide +kernel, by decide +kernel⟩
theorem ok_law {f : Addr} {fd : FuncData} (Fz : Fn K "law" "law" st_law f fd) (T : Txt K mg w ad) (D_l_seed : DefAt P w K mg base ad 1 "_law_seed" 2 [] f_l_seed) (D_l_menu : DefAt P w K mg base ad 4 "_law_menu" 4 [] f_l_menu) (D_l_made : DefAt P w K mg base ad 8 "_law_made" 1 [] f_l_made) (M_Menu_action : MetAt P w K mg base ad 3 "Menu" "action" 2 [] f_Menu_action) (K_Menu : MakAt P w K mg base ad 6 "Menu" 6 [] f_Menu_init) (Q_Menu : EqAt P w K mg base ad 1 "Menu" f_Menu_eq) (D_l_anything : DefAt P w K mg base ad 9 "_law_anything" 2 [] f_l_anything) (M_Menu_read : ClmAt P w K mg base ad 8 "Menu" "read" 2 [] f_Menu_read) (U_Menu : StrAt P w K mg base ad 2 "Menu" f_Menu_str) : FnOk P w K mg base (L2.CX P w) 10 f fd ["_law_script"] (spOf K ad 1 f_law) := by
  have sc := sc_law
  refine def_ok T.nh Fz sc (body := b_law) fun cdv A outer s H E hr => ?_
  have tk := takes_of (X := cxOf (L2.CX P w) P w K mg base ["_law_script", "_law_k", "_law_box", "_law_turn", "_law_one", "_law_made_here", "_law_met", "_law_digit", "_law_pair", "_law_again", "_law_some", "_law_thing"] "law" (defScope st_law) f cdv A outer s H E) rfl rfl rfl rfl
  have hp := passes_of (X := cxOf (L2.CX P w) P w K mg base ["_law_script", "_law_k", "_law_box", "_law_turn", "_law_one", "_law_made_here", "_law_met", "_law_digit", "_law_pair", "_law_again", "_law_some", "_law_thing"] "law" (defScope st_law) f cdv A outer s H E) rfl
  exact (gss_cons (gs_for (vs := [1]) hp rfl (gi_range1 rfl T.n_range (ga_cons (g_callB (call_max2 rfl) s_max rfl T.n_max (by decide +kernel) (ga_cons g_int (ga_cons (g_callB (call_min2 rfl) s_min rfl T.n_min (by decide +kernel) (ga_cons g_int (ga_cons (g_callB call_lenA s_lenA rfl T.n_len (by decide +kernel) (ga_cons (g_var 0) ga_nil)) ga_nil))) ga_nil))) ga_nil)) (gg_name (i := 1) sc.nd rfl (by first | exact Or.inl rfl | exact Or.inr rfl) (by decide)) (gss_cons (gs_set (i := 2) sc.nd rfl (by first | exact Or.inl rfl | exact Or.inr rfl) (g_def D_l_seed (hr.mono (by decide)) tk rfl (ga_cons (g_var 0) (ga_cons (g_var 1) ga_nil))))
    (gss_one (gs_for (vs := [3]) hp rfl (gi_range1 rfl T.n_range (ga_cons g_int ga_nil)) (gg_name (i := 3) sc.nd rfl (by first | exact Or.inl rfl | exact Or.inr rfl) (by decide)) (gss_cons (gs_set (i := 4) sc.nd rfl (by first | exact Or.inl rfl | exact Or.inr rfl) (g_def D_l_menu (hr.mono (by decide)) tk rfl (ga_cons (g_var 2) (ga_cons g_str (ga_cons (g_lst false (ga_cons g_str (ga_cons g_str (ga_cons g_str ga_nil)))) (ga_cons g_int ga_nil))))))
    (gss_cons (gs_set (i := 5) sc.nd rfl (by first | exact Or.inl rfl | exact Or.inr rfl) (g_def D_l_made (hr.mono (by decide)) tk rfl (ga_cons (g_var 4) ga_nil)))
    (gss_cons (gs_setLc T.nh (i := 6) (own := [("_law_digit", 7)]) false rfl sc.nd rfl rfl (sw_true rfl rfl rfl (by kernel_rfl)) (gi_seq g_str) (blkOk_by (by kernel_rfl)) (fun _ _ _ _ _ => (gg_name (i := 7) sc.nd rfl (by first | exact Or.inl rfl | exact Or.inr rfl) (by decide))) (fun _ _ _ _ _ => gts_nil) (fun _ _ _ _ _ => (g_tup (ga_cons (g_var 7) (ga_cons (g_met M_Menu_action (hr.mono (by decide)) takes0 (g_var 5) (ga_cons (g_var 7) ga_nil)) ga_nil)))))
    (gss_cons (gs_setLc T.nh (i := 6) (own := [("_law_pair", 8)]) false rfl sc.nd rfl rfl (sw_true rfl rfl rfl (by kernel_rfl)) (gi_seq (g_var 6)) (blkOk_by (by kernel_rfl)) (fun _ _ _ _ _ => (gg_name (i := 8) sc.nd rfl (by first | exact Or.inl rfl | exact Or.inr rfl) (by decide))) (fun _ _ _ _ _ => (gts_one (t_notN (g_ix (g_var 8) g_int (fun _ _ => rfl)) g_non))) (fun _ _ _ _ _ => (g_var 8)))
    (gss_cons (gs_set (i := 9) sc.nd rfl (by first | exact Or.inl rfl | exact Or.inr rfl) (g_mak false K_Menu (hr.mono (by decide)) tk rfl (ga_cons g_str (ga_cons (g_var 6) (ga_cons (g_fld T.f_tail (g_var 5) rfl) (ga_cons (g_fld T.f_tries (g_var 5) rfl) (ga_cons (g_fld T.f_clears (g_var 5) rfl) ga_nil)))))))
    (gss_cons (gs_if (GW.t (gw_or (t_neO Q_Menu (hr.mono (by decide)) hr (g_var 9) (g_var 5)) (gw_or1 (t_ne hr (g_callB call_lenA s_lenA rfl T.n_len (by decide +kernel) (ga_cons (g_var 6) ga_nil)) (g_callB call_lenA s_lenA rfl T.n_len (by decide +kernel) (ga_cons (g_fld T.f_rows (g_var 5) rfl) ga_nil)))))) (gss_one (gs_ret g_bool)) gss_nil)
    (gss_cons (gs_if (t_ne hr (g_callT call_tuple_of s_tup rfl T.n_tuple (by decide +kernel) (ga_cons (g_rev (p4 := ⟨0, 0, 0, 0⟩) false (g_var 6)) ga_nil)) (g_fld T.f_rows (g_var 5) rfl)) (gss_one (gs_ret g_bool)) gss_nil)
    (gss_cons (gs_set (i := 10) sc.nd rfl (by first | exact Or.inl rfl | exact Or.inr rfl) (g_lst false (ga_cons g_non (ga_cons g_int (ga_cons g_int (ga_cons g_str (ga_cons g_str (ga_cons g_str (ga_cons g_str (ga_cons (g_lst false (ga_cons g_str ga_nil)) (ga_cons (g_tup (ga_cons g_str ga_nil)) (ga_cons g_bool (ga_cons (g_var 5) (ga_cons (g_pow g_int g_int) ga_nil))))))))))))))
    (gss_cons (gs_for (vs := [11]) hp rfl (gi_seq (g_add (g_var 10) (g_lst false (ga_cons (g_def D_l_anything (hr.mono (by decide)) tk rfl (ga_cons (g_var 2) (ga_cons g_int ga_nil))) ga_nil)))) (gg_name (i := 11) sc.nd rfl (by first | exact Or.inl rfl | exact Or.inr rfl) (by decide)) (gss_one (gs_if (t_notN (g_met M_Menu_action (hr.mono (by decide)) tk (g_var 5) (ga_cons (g_var 11) ga_nil)) g_non) (gss_one (gs_ret g_bool)) gss_nil)))
    (gss_one (gs_if (GW.t (gw_or (t_ne hr (g_fld T.f_rows (g_cmet M_Menu_read (hr.mono (by decide)) tk (g_clsN rfl T.a_Menu) (ga_cons (g_strO U_Menu (hr.mono (by decide)) rfl T.n_str (by decide +kernel) (ga_cons (g_var 5) ga_nil)) ga_nil)) rfl) (g_fld T.f_rows (g_var 5) rfl)) (gw_or1 (t_ne hr (g_met M_Menu_action (hr.mono (by decide)) tk (g_var 5) (ga_cons g_str ga_nil)) (g_met M_Menu_action (hr.mono (by decide)) tk (g_cmet M_Menu_read (hr.mono (by decide)) tk (g_clsN rfl T.a_Menu) (ga_cons (g_strO U_Menu (hr.mono (by decide)) rfl T.n_str (by decide +kernel) (ga_cons (g_var 5) ga_nil)) ga_nil)) (ga_cons g_str ga_nil)))))) (gss_one (gs_ret g_bool)) gss_nil)))))))))))))))
    (gss_one (gs_ret g_bool)))
end
end Fl
namespace Fl
open PySem PySem.Spec L2
open PyProof.Rows hiding St

/-- a source of draws stands at i -/
def Box (S : Store) (i : Nat) : Prop := ∃ g x : Int, S[i]? = some (true, .lst [.int g, .int x])
/-- all but i is as it was; more may stand behind -/
structure Kp (i : Nat) (S S' : Store) : Prop where
  len : S.length ≤ S'.length
  at_ : ∀ j, j < S.length → j ≠ i → S'[j]? = S[j]?
  box : Box S' i
theorem Box.lt {S : Store} {i : Nat} (h : Box S i) : i < S.length := by
  obtain ⟨g, x, h⟩ := h
  exact (List.getElem?_eq_some_iff.mp h).1
theorem Kp.refl {S : Store} {i : Nat} (h : Box S i) : Kp i S S := ⟨Nat.le_refl _, fun _ _ _ => rfl, h⟩
theorem Kp.trans {S S' S'' : Store} {i : Nat} (h : Kp i S S') (h' : Kp i S' S'') : Kp i S S'' :=
  ⟨Nat.le_trans h.len h'.len, fun j hj hi => (h'.at_ j (Nat.lt_of_lt_of_le hj h.len) hi).trans (h.at_ j hj hi), h'.box⟩
theorem Kp.set {S : Store} {i : Nat} (h : i < S.length) (g x : Int) : Kp i S (S.set i (true, .lst [.int g, .int x])) :=
  ⟨by simp, fun j _ hi => by rw [List.getElem?_set_ne (Ne.symm hi)], g, x, by simp [h]⟩
theorem Kp.app {S : Store} {i : Nat} (h : Box S i) (T : Store) : Kp i S (S ++ T) :=
  ⟨by simp, fun j hj _ => by rw [List.getElem?_append_left hj], by obtain ⟨g, x, e⟩ := h; exact ⟨g, x, by rw [List.getElem?_append_left (Box.lt ⟨g, x, e⟩), e]⟩⟩

theorem choose_w {S : Store} {i : Nat} {m : Int} {Q : Val → Store → Prop} {X : XP} (hb : Box S i) (hm : 0 < m) (k : ∀ r g x, 0 ≤ r → r < m → Q (.int r) (S.set i (true, .lst [.int g, .int x]))) (hm2 : m < 1073741824 := by omega) :
    (f_l_choose [.ref i, .int m] S).wp Q X := by
  obtain ⟨g, x, hs⟩ := hb
  have hi : i < S.length := Box.lt ⟨g, x, hs⟩
  have e0 : vIx (.ref i) (.int 0) S = .ok (.int g) S := ix_r hs rfl
  have e1 : vIx (.ref i) (.int 1) S = .ok (.int x) S := ix_r hs rfl
  unfold f_l_choose b_l_choose
  have e2 : ∀ v, vIx (.ref i) (.int 1) (S.set i (true, .lst [.int g, .int v])) = .ok (.int v) (S.set i (true, .lst [.int g, .int v])) := fun v => ix_r (c := true) (xs := [.int g, .int v]) (by simp [hi]) rfl
  have z0 : ixN 2 0 = some 0 := rfl
  have z1 : ixN 2 1 = some 1 := rfl
  simp only [e0, e1, gt_ii, v_ite, mod_ii hm, int_i, fdiv_ii hm hm2, hs, z0, z1, w_ok, w_exc, w_stuck, w_bind, w_runB, w_var, got_some, w_e2, w_call, w_cons, w_nil, w_def, w_tup, w_lst, w_bool, w_notF, w_andF, w_orF, w_and, w_or, w_not, w_if, w_neg, w_star, w_aSeq, w_fld, w_frz, w_chain, w_m1, w_bm, w_iSeq, w_rg1, w_rg2, w_isi, w_wget, w_lc, w_cmet, w_met, w_mak, w_makL, w_jnil, w_jcons, w_fmt, w_sl, w_oNone, w_oSome, w_d0, w_dget, w_walk, v_nx, v_ret, v_exc, v_brk, v_cnt, v_stuck, v_seq', v_nx', v_exp, v_ret', v_retN, v_if, v_set, v_raise, v_asg, v_par, v_for, v_fld, v_dput, t_name, t_tup, t_ix, v_tryE, v_tryS, v_tryR, v_trySq, v_tryEq, v_hnil, v_hcons, w_isx, w_xf, w_enu, List.map_cons, List.map_nil, List.length_cons, List.length_nil, List.replicate_succ, List.replicate_zero, List.cons_append, List.nil_append, List.append_nil, List.getElem?_cons_zero, List.getElem?_cons_succ, List.set_cons_zero, List.set_cons_succ, Nat.reduceSub, Nat.reduceAdd, Nat.reduceLeDiff, Nat.reduceEqDiff, Nat.zero_add, Nat.sub_zero, if_true, if_false, ite_true, ite_false, Bool.false_eq_true, Bool.true_eq_false, Bool.not_true, Bool.not_false, true_implies, false_implies, implies_true, and_true, true_and, not_true_eq_false, not_false_eq_true, eC, tTrue, tgsCons, tgsNil, wipeE, reduceIte, reduceCtorEq, Option.some.injEq, eq_self, Int.cast_ofNat_Int, Int.reduceBEq, Int.reduceLT, Int.reduceLE, Int.reduceAdd, Int.reduceSub, beq_self_eq_true, decide_true, decide_false, Bool.or_false, Bool.or_true, Bool.false_or, Bool.true_or, Bool.and_true, Bool.true_and, Bool.and_false, Bool.false_and, Bool.not_not, decide_eq_true_eq, true_or, or_true, false_or, or_false, Nat.reduceLT, and_self]
  refine ⟨fun _ => k _ _ _ (Int.emod_nonneg _ (by omega)) (Int.emod_lt_of_pos _ hm), fun _ => ?_⟩
  simp only [mul_ir (j := 40014) (by decide), mul_ir (j := 40692) (by decide), mul_ir (j := 2147483647) (by decide), add_ii, int_i, mod_ii (j := 2147483563) (by decide), mod_ii (j := 2147483629) (by decide), hs, z1, e2, fdiv_ii (j := 8191) (by decide) (by decide), mod_ii hm, w_ok, w_exc, w_stuck, w_bind, w_runB, w_var, got_some, w_e2, w_call, w_cons, w_nil, w_def, w_tup, w_lst, w_bool, w_notF, w_andF, w_orF, w_and, w_or, w_not, w_if, w_neg, w_star, w_aSeq, w_fld, w_frz, w_chain, w_m1, w_bm, w_iSeq, w_rg1, w_rg2, w_isi, w_wget, w_lc, w_cmet, w_met, w_mak, w_makL, w_jnil, w_jcons, w_fmt, w_sl, w_oNone, w_oSome, w_d0, w_dget, w_walk, v_nx, v_ret, v_exc, v_brk, v_cnt, v_stuck, v_seq', v_nx', v_exp, v_ret', v_retN, v_if, v_set, v_raise, v_asg, v_par, v_for, v_fld, v_dput, t_name, t_tup, t_ix, v_tryE, v_tryS, v_tryR, v_trySq, v_tryEq, v_hnil, v_hcons, w_isx, w_xf, w_enu, List.map_cons, List.map_nil, List.length_cons, List.length_nil, List.replicate_succ, List.replicate_zero, List.cons_append, List.nil_append, List.append_nil, List.getElem?_cons_zero, List.getElem?_cons_succ, List.set_cons_zero, List.set_cons_succ, Nat.reduceSub, Nat.reduceAdd, Nat.reduceLeDiff, Nat.reduceEqDiff, Nat.zero_add, Nat.sub_zero, if_true, if_false, ite_true, ite_false, Bool.false_eq_true, Bool.true_eq_false, Bool.not_true, Bool.not_false, true_implies, false_implies, implies_true, and_true, true_and, not_true_eq_false, not_false_eq_true, eC, tTrue, tgsCons, tgsNil, wipeE, reduceIte, reduceCtorEq, Option.some.injEq, eq_self, Int.cast_ofNat_Int, Int.reduceBEq, Int.reduceLT, Int.reduceLE, Int.reduceAdd, Int.reduceSub, beq_self_eq_true, decide_true, decide_false, Bool.or_false, Bool.or_true, Bool.false_or, Bool.true_or, Bool.and_true, Bool.true_and, Bool.and_false, Bool.false_and, Bool.not_not, decide_eq_true_eq, true_or, or_true, false_or, or_false, Nat.reduceLT, and_self]
  exact k _ _ _ (Int.emod_nonneg _ (by omega)) (Int.emod_lt_of_pos _ hm)
/-- the same, whatever the source is then -/
theorem choose_k {S : Store} {i : Nat} {m : Int} {Q : Val → Store → Prop} {X : XP} (hb : Box S i) (hm : 0 < m) (k : ∀ r S', 0 ≤ r → r < m → Kp i S S' → S'.length = S.length → Q (.int r) S') (hm2 : m < 1073741824 := by omega) : (f_l_choose [.ref i, .int m] S).wp Q X :=
  choose_w hb hm (fun r g x h0 h1 => k r _ h0 h1 (Kp.set hb.lt g x) (by simp)) hm2
theorem one_of_w {S : Store} {i : Nat} {xs : List Val} {Q : Val → Store → Prop} {X : XP} (hb : Box S i) (hx : 0 < xs.length) (hl : xs.length < 1073741824) (k : ∀ v S', v ∈ xs → Kp i S S' → S'.length = S.length → Q v S') : (f_l_one_of [.ref i, .lst xs] S).wp Q X := by
  unfold f_l_one_of b_l_one_of
  simp only [len_l, w_ok, w_exc, w_stuck, w_bind, w_runB, w_var, got_some, w_e2, w_call, w_cons, w_nil, w_def, w_tup, w_lst, w_bool, w_notF, w_andF, w_orF, w_and, w_or, w_not, w_if, w_neg, w_star, w_aSeq, w_fld, w_frz, w_chain, w_m1, w_bm, w_iSeq, w_rg1, w_rg2, w_isi, w_wget, w_lc, w_cmet, w_met, w_mak, w_makL, w_jnil, w_jcons, w_fmt, w_sl, w_oNone, w_oSome, w_d0, w_dget, w_walk, v_nx, v_ret, v_exc, v_brk, v_cnt, v_stuck, v_seq', v_nx', v_exp, v_ret', v_retN, v_if, v_set, v_raise, v_asg, v_par, v_for, v_fld, v_dput, t_name, t_tup, t_ix, v_tryE, v_tryS, v_tryR, v_trySq, v_tryEq, v_hnil, v_hcons, w_isx, w_xf, w_enu, List.map_cons, List.map_nil, List.length_cons, List.length_nil, List.replicate_succ, List.replicate_zero, List.cons_append, List.nil_append, List.append_nil, List.getElem?_cons_zero, List.getElem?_cons_succ, List.set_cons_zero, List.set_cons_succ, Nat.reduceSub, Nat.reduceAdd, Nat.reduceLeDiff, Nat.reduceEqDiff, Nat.zero_add, Nat.sub_zero, if_true, if_false, ite_true, ite_false, Bool.false_eq_true, Bool.true_eq_false, Bool.not_true, Bool.not_false, true_implies, false_implies, implies_true, and_true, true_and, not_true_eq_false, not_false_eq_true, eC, tTrue, tgsCons, tgsNil, wipeE, reduceIte, reduceCtorEq, Option.some.injEq, eq_self, Int.cast_ofNat_Int, Int.reduceBEq, Int.reduceLT, Int.reduceLE, Int.reduceAdd, Int.reduceSub, beq_self_eq_true, decide_true, decide_false, Bool.or_false, Bool.or_true, Bool.false_or, Bool.true_or, Bool.and_true, Bool.true_and, Bool.and_false, Bool.false_and, Bool.not_not, decide_eq_true_eq, true_or, or_true, false_or, or_false, Nat.reduceLT, and_self]
  refine choose_k hb (by omega) (fun r S' h0 h1 kp hl => ?_) (by omega)
  obtain ⟨v, hv, e⟩ := atI_of h0 h1
  simp only [ix_l e, w_ok, w_exc, w_stuck, w_bind, w_runB, w_var, got_some, w_e2, w_call, w_cons, w_nil, w_def, w_tup, w_lst, w_bool, w_notF, w_andF, w_orF, w_and, w_or, w_not, w_if, w_neg, w_star, w_aSeq, w_fld, w_frz, w_chain, w_m1, w_bm, w_iSeq, w_rg1, w_rg2, w_isi, w_wget, w_lc, w_cmet, w_met, w_mak, w_makL, w_jnil, w_jcons, w_fmt, w_sl, w_oNone, w_oSome, w_d0, w_dget, w_walk, v_nx, v_ret, v_exc, v_brk, v_cnt, v_stuck, v_seq', v_nx', v_exp, v_ret', v_retN, v_if, v_set, v_raise, v_asg, v_par, v_for, v_fld, v_dput, t_name, t_tup, t_ix, v_tryE, v_tryS, v_tryR, v_trySq, v_tryEq, v_hnil, v_hcons, w_isx, w_xf, w_enu, List.map_cons, List.map_nil, List.length_cons, List.length_nil, List.replicate_succ, List.replicate_zero, List.cons_append, List.nil_append, List.append_nil, List.getElem?_cons_zero, List.getElem?_cons_succ, List.set_cons_zero, List.set_cons_succ, Nat.reduceSub, Nat.reduceAdd, Nat.reduceLeDiff, Nat.reduceEqDiff, Nat.zero_add, Nat.sub_zero, if_true, if_false, ite_true, ite_false, Bool.false_eq_true, Bool.true_eq_false, Bool.not_true, Bool.not_false, true_implies, false_implies, implies_true, and_true, true_and, not_true_eq_false, not_false_eq_true, eC, tTrue, tgsCons, tgsNil, wipeE, reduceIte, reduceCtorEq, Option.some.injEq, eq_self, Int.cast_ofNat_Int, Int.reduceBEq, Int.reduceLT, Int.reduceLE, Int.reduceAdd, Int.reduceSub, beq_self_eq_true, decide_true, decide_false, Bool.or_false, Bool.or_true, Bool.false_or, Bool.true_or, Bool.and_true, Bool.true_and, Bool.and_false, Bool.false_and, Bool.not_not, decide_eq_true_eq, true_or, or_true, false_or, or_false, Nat.reduceLT, and_self]
  exact k v S' hv kp hl
end Fl
namespace Fl
open PySem PySem.Spec L2
open PyProof.Rows hiding St

theorem small_size {n : Nat} (h : n ≤ 16777216) : n ≤ sizeLine := by rw [sizeLine_eq]; exact h
theorem seed_w {ns : List Int} {n : Nat} {S : Store} {Q : Val → Store → Prop} {X : XP} (k : ∀ g x : Int, Q (.ref S.length) (S ++ [(true, .lst [.int g, .int x])])) : (f_l_seed [.wls (ns.map Val.int), .int n] S).wp Q X := by
  unfold f_l_seed b_l_seed
  have hp : ∀ S : Store, vPow (.int 10) (.int 18) S = .ok (.int 1000000000000000000) S := fun S => rfl
  have z2 : 2 ≤ sizeLine := small_size (by decide)
  simp only [mul_il (i := 6971) (by decide), add_ii, lt_ii, len_w, v_ite, gt_ii, w_ok, w_exc, w_stuck, w_bind, w_runB, w_var, got_some, w_e2, w_call, w_cons, w_nil, w_def, w_tup, w_lst, w_bool, w_notF, w_andF, w_orF, w_and, w_or, w_not, w_if, w_neg, w_star, w_aSeq, w_fld, w_frz, w_chain, w_m1, w_bm, w_iSeq, w_rg1, w_rg2, w_isi, w_wget, w_lc, w_cmet, w_met, w_mak, w_makL, w_jnil, w_jcons, w_fmt, w_sl, w_oNone, w_oSome, w_d0, w_dget, w_walk, v_nx, v_ret, v_exc, v_brk, v_cnt, v_stuck, v_seq', v_nx', v_exp, v_ret', v_retN, v_if, v_set, v_raise, v_asg, v_par, v_for, v_fld, v_dput, t_name, t_tup, t_ix, v_tryE, v_tryS, v_tryR, v_trySq, v_tryEq, v_hnil, v_hcons, w_isx, w_xf, w_enu, List.map_cons, List.map_nil, List.length_cons, List.length_nil, List.replicate_succ, List.replicate_zero, List.cons_append, List.nil_append, List.append_nil, List.getElem?_cons_zero, List.getElem?_cons_succ, List.set_cons_zero, List.set_cons_succ, Nat.reduceSub, Nat.reduceAdd, Nat.reduceLeDiff, Nat.reduceEqDiff, Nat.zero_add, Nat.sub_zero, if_true, if_false, ite_true, ite_false, Bool.false_eq_true, Bool.true_eq_false, Bool.not_true, Bool.not_false, true_implies, false_implies, implies_true, and_true, true_and, not_true_eq_false, not_false_eq_true, eC, tTrue, tgsCons, tgsNil, wipeE, reduceIte, reduceCtorEq, Option.some.injEq, eq_self, Int.cast_ofNat_Int, Int.reduceBEq, Int.reduceLT, Int.reduceLE, Int.reduceAdd, Int.reduceSub, beq_self_eq_true, decide_true, decide_false, Bool.or_false, Bool.or_true, Bool.false_or, Bool.true_or, Bool.and_true, Bool.true_and, Bool.and_false, Bool.false_and, Bool.not_not, decide_eq_true_eq, true_or, or_true, false_or, or_false, Nat.reduceLT, and_self]
  refine ⟨fun h => ?_, fun h => ?_⟩
  · have hn : n < (ns.map Val.int).length := by omega
    have e : vIx (.wls (ns.map Val.int)) (.int n) S = .ok (.int (ns[n]'(by simpa using hn))) S := ix_w (by rw [atI_nat hn]; simp)
    simp only [e, abs_i, ge_ii, hp, w_ite, int_i, mod_ii (j := 2147483629) (by decide), mul_ir (j := 48271) (by decide), mul_il (i := 31019) (by decide), add_ii, mkL, z2, w_ok, w_exc, w_stuck, w_bind, w_runB, w_var, got_some, w_e2, w_call, w_cons, w_nil, w_def, w_tup, w_lst, w_bool, w_notF, w_andF, w_orF, w_and, w_or, w_not, w_if, w_neg, w_star, w_aSeq, w_fld, w_frz, w_chain, w_m1, w_bm, w_iSeq, w_rg1, w_rg2, w_isi, w_wget, w_lc, w_cmet, w_met, w_mak, w_makL, w_jnil, w_jcons, w_fmt, w_sl, w_oNone, w_oSome, w_d0, w_dget, w_walk, v_nx, v_ret, v_exc, v_brk, v_cnt, v_stuck, v_seq', v_nx', v_exp, v_ret', v_retN, v_if, v_set, v_raise, v_asg, v_par, v_for, v_fld, v_dput, t_name, t_tup, t_ix, v_tryE, v_tryS, v_tryR, v_trySq, v_tryEq, v_hnil, v_hcons, w_isx, w_xf, w_enu, List.map_cons, List.map_nil, List.length_cons, List.length_nil, List.replicate_succ, List.replicate_zero, List.cons_append, List.nil_append, List.append_nil, List.getElem?_cons_zero, List.getElem?_cons_succ, List.set_cons_zero, List.set_cons_succ, Nat.reduceSub, Nat.reduceAdd, Nat.reduceLeDiff, Nat.reduceEqDiff, Nat.zero_add, Nat.sub_zero, if_true, if_false, ite_true, ite_false, Bool.false_eq_true, Bool.true_eq_false, Bool.not_true, Bool.not_false, true_implies, false_implies, implies_true, and_true, true_and, not_true_eq_false, not_false_eq_true, eC, tTrue, tgsCons, tgsNil, wipeE, reduceIte, reduceCtorEq, Option.some.injEq, eq_self, Int.cast_ofNat_Int, Int.reduceBEq, Int.reduceLT, Int.reduceLE, Int.reduceAdd, Int.reduceSub, beq_self_eq_true, decide_true, decide_false, Bool.or_false, Bool.or_true, Bool.false_or, Bool.true_or, Bool.and_true, Bool.true_and, Bool.and_false, Bool.false_and, Bool.not_not, decide_eq_true_eq, true_or, or_true, false_or, or_false, Nat.reduceLT, and_self]
    exact ⟨fun _ => k _ _, fun _ => k _ _⟩
  · refine ⟨fun h0 => ?_, fun h0 => ?_⟩
    · have hl : 0 < ((ns.map Val.int).length : Int) := h0
      have hm : ((n : Int) % ((ns.map Val.int).length : Int)) = ((n % (ns.map Val.int).length : Nat) : Int) := rfl
      have hn : n % (ns.map Val.int).length < (ns.map Val.int).length := Nat.mod_lt _ (by omega)
      have e : vIx (.wls (ns.map Val.int)) (.int ((n : Int) % ((ns.map Val.int).length : Int))) S = .ok (.int (ns[n % (ns.map Val.int).length]'(by simpa using hn))) S := ix_w (by rw [hm, atI_nat hn]; simp)
      simp only [mod_ii hl, e, abs_i, ge_ii, hp, w_ite, int_i, mod_ii (j := 2147483629) (by decide), mul_ir (j := 50111) (by decide), mul_ir (j := 48271) (by decide), mul_il (i := 31019) (by decide), add_ii, mkL, z2, w_ok, w_exc, w_stuck, w_bind, w_runB, w_var, got_some, w_e2, w_call, w_cons, w_nil, w_def, w_tup, w_lst, w_bool, w_notF, w_andF, w_orF, w_and, w_or, w_not, w_if, w_neg, w_star, w_aSeq, w_fld, w_frz, w_chain, w_m1, w_bm, w_iSeq, w_rg1, w_rg2, w_isi, w_wget, w_lc, w_cmet, w_met, w_mak, w_makL, w_jnil, w_jcons, w_fmt, w_sl, w_oNone, w_oSome, w_d0, w_dget, w_walk, v_nx, v_ret, v_exc, v_brk, v_cnt, v_stuck, v_seq', v_nx', v_exp, v_ret', v_retN, v_if, v_set, v_raise, v_asg, v_par, v_for, v_fld, v_dput, t_name, t_tup, t_ix, v_tryE, v_tryS, v_tryR, v_trySq, v_tryEq, v_hnil, v_hcons, w_isx, w_xf, w_enu, List.map_cons, List.map_nil, List.length_cons, List.length_nil, List.replicate_succ, List.replicate_zero, List.cons_append, List.nil_append, List.append_nil, List.getElem?_cons_zero, List.getElem?_cons_succ, List.set_cons_zero, List.set_cons_succ, Nat.reduceSub, Nat.reduceAdd, Nat.reduceLeDiff, Nat.reduceEqDiff, Nat.zero_add, Nat.sub_zero, if_true, if_false, ite_true, ite_false, Bool.false_eq_true, Bool.true_eq_false, Bool.not_true, Bool.not_false, true_implies, false_implies, implies_true, and_true, true_and, not_true_eq_false, not_false_eq_true, eC, tTrue, tgsCons, tgsNil, wipeE, reduceIte, reduceCtorEq, Option.some.injEq, eq_self, Int.cast_ofNat_Int, Int.reduceBEq, Int.reduceLT, Int.reduceLE, Int.reduceAdd, Int.reduceSub, beq_self_eq_true, decide_true, decide_false, Bool.or_false, Bool.or_true, Bool.false_or, Bool.true_or, Bool.and_true, Bool.true_and, Bool.and_false, Bool.false_and, Bool.not_not, decide_eq_true_eq, true_or, or_true, false_or, or_false, Nat.reduceLT, and_self]
      exact ⟨fun _ => k _ _, fun _ => k _ _⟩
    · simp only [abs_i, ge_ii, hp, w_ite, int_i, mod_ii (j := 2147483629) (by decide), mul_ir (j := 50111) (by decide), mul_ir (j := 48271) (by decide), mul_il (i := 31019) (by decide), add_ii, mkL, z2, w_ok, w_exc, w_stuck, w_bind, w_runB, w_var, got_some, w_e2, w_call, w_cons, w_nil, w_def, w_tup, w_lst, w_bool, w_notF, w_andF, w_orF, w_and, w_or, w_not, w_if, w_neg, w_star, w_aSeq, w_fld, w_frz, w_chain, w_m1, w_bm, w_iSeq, w_rg1, w_rg2, w_isi, w_wget, w_lc, w_cmet, w_met, w_mak, w_makL, w_jnil, w_jcons, w_fmt, w_sl, w_oNone, w_oSome, w_d0, w_dget, w_walk, v_nx, v_ret, v_exc, v_brk, v_cnt, v_stuck, v_seq', v_nx', v_exp, v_ret', v_retN, v_if, v_set, v_raise, v_asg, v_par, v_for, v_fld, v_dput, t_name, t_tup, t_ix, v_tryE, v_tryS, v_tryR, v_trySq, v_tryEq, v_hnil, v_hcons, w_isx, w_xf, w_enu, List.map_cons, List.map_nil, List.length_cons, List.length_nil, List.replicate_succ, List.replicate_zero, List.cons_append, List.nil_append, List.append_nil, List.getElem?_cons_zero, List.getElem?_cons_succ, List.set_cons_zero, List.set_cons_succ, Nat.reduceSub, Nat.reduceAdd, Nat.reduceLeDiff, Nat.reduceEqDiff, Nat.zero_add, Nat.sub_zero, if_true, if_false, ite_true, ite_false, Bool.false_eq_true, Bool.true_eq_false, Bool.not_true, Bool.not_false, true_implies, false_implies, implies_true, and_true, true_and, not_true_eq_false, not_false_eq_true, eC, tTrue, tgsCons, tgsNil, wipeE, reduceIte, reduceCtorEq, Option.some.injEq, eq_self, Int.cast_ofNat_Int, Int.reduceBEq, Int.reduceLT, Int.reduceLE, Int.reduceAdd, Int.reduceSub, beq_self_eq_true, decide_true, decide_false, Bool.or_false, Bool.or_true, Bool.false_or, Bool.true_or, Bool.and_true, Bool.true_and, Bool.and_false, Bool.false_and, Bool.not_not, decide_eq_true_eq, true_or, or_true, false_or, or_false, Nat.reduceLT, and_self]
      exact ⟨fun _ => k _ _, fun _ => k _ _⟩

theorem perm_erase {α : Type} {left : List α} {n : Nat} (hn : n < left.length) : (left[n] :: left.eraseIdx n).Perm left := by
  rw [List.eraseIdx_eq_take_drop_succ]
  have : left = left.take n ++ left[n] :: left.drop (n+1) := by rw [List.getElem_cons_drop, List.take_append_drop]
  conv => rhs; rw [this]
  exact List.perm_middle.symm
end Fl
namespace Fl
open PySem PySem.Spec L2
open PyProof.Rows hiding St

/-- some things in a drawn order: from a list, or from a text -/
theorem mixed_w {S : Store} {i : Nat} {v : Val} {xs : List Val} {Q : Val → Store → Prop} {X : XP} (hb : Box S i) (hv : (v = .lst xs ∧ xs.length ≤ 1000) ∨ ∃ z : Str, v = .str z ∧ xs = z.cps.toList.map strV ∧ z.length ≤ 1000)
    (k : ∀ ys S', List.Perm ys xs → Kp i S S' → Q (.lst ys) S') : (f_l_mixed [.ref i, v] S).wp Q X := by
  have hx : xs.length ≤ 1000 := by
    rcases hv with ⟨_, h⟩ | ⟨z, _, rfl, h⟩
    · exact h
    · rw [List.length_map]; exact h
  have hl : bLenA [v] = fun S => .ok (.int xs.length) S := by
    funext S
    rcases hv with ⟨rfl, h⟩ | ⟨z, rfl, rfl, h⟩
    · rfl
    · rw [len_s (small_size (by omega))]; simp [Str.length]
  have hL : ∀ S : Store, bLstA true [v] S = .ok (.ref S.length) (S ++ [(true, .lst xs)]) := by
    intro S
    rcases hv with ⟨rfl, h⟩ | ⟨z, rfl, rfl, h⟩
    · rfl
    · show (if z.length ≤ sizeLine then _ else _) = _
      rw [if_pos (small_size (by omega))]; rfl
  have z0 : 0 ≤ sizeLine := Nat.zero_le _
  unfold f_l_mixed b_l_mixed
  have hn0 : (0 : Int) ≤ (xs.length : Int) := Int.natCast_nonneg _
  simp only [hL, mkL, z0, hl, rg1_i hn0 (show (xs.length : Int) ≤ 16777216 by omega), w_ok, w_exc, w_stuck, w_bind, w_runB, w_var, got_some, w_e2, w_call, w_cons, w_nil, w_def, w_tup, w_lst, w_bool, w_notF, w_andF, w_orF, w_and, w_or, w_not, w_if, w_neg, w_star, w_aSeq, w_fld, w_frz, w_chain, w_m1, w_bm, w_iSeq, w_rg1, w_rg2, w_isi, w_wget, w_lc, w_cmet, w_met, w_mak, w_makL, w_jnil, w_jcons, w_fmt, w_sl, w_oNone, w_oSome, w_d0, w_dget, w_walk, v_nx, v_ret, v_exc, v_brk, v_cnt, v_stuck, v_seq', v_nx', v_exp, v_ret', v_retN, v_if, v_set, v_raise, v_asg, v_par, v_for, v_fld, v_dput, t_name, t_tup, t_ix, v_tryE, v_tryS, v_tryR, v_trySq, v_tryEq, v_hnil, v_hcons, w_isx, w_xf, w_enu, List.map_cons, List.map_nil, List.length_cons, List.length_nil, List.replicate_succ, List.replicate_zero, List.cons_append, List.nil_append, List.append_nil, List.getElem?_cons_zero, List.getElem?_cons_succ, List.set_cons_zero, List.set_cons_succ, Nat.reduceSub, Nat.reduceAdd, Nat.reduceLeDiff, Nat.reduceEqDiff, Nat.zero_add, Nat.sub_zero, if_true, if_false, ite_true, ite_false, Bool.false_eq_true, Bool.true_eq_false, Bool.not_true, Bool.not_false, true_implies, false_implies, implies_true, and_true, true_and, not_true_eq_false, not_false_eq_true, eC, tTrue, tgsCons, tgsNil, wipeE, reduceIte, reduceCtorEq, Option.some.injEq, eq_self, Int.cast_ofNat_Int, Int.reduceBEq, Int.reduceLT, Int.reduceLE, Int.reduceAdd, Int.reduceSub, beq_self_eq_true, decide_true, decide_false, Bool.or_false, Bool.or_true, Bool.false_or, Bool.true_or, Bool.and_true, Bool.true_and, Bool.and_false, Bool.false_and, Bool.not_not, decide_eq_true_eq, true_or, or_true, false_or, or_false, Nat.reduceLT, and_self]
  have hi := hb.lt
  -- what is left in the first cell, what is found in the second
  refine v_forGo (I := fun rest env S' => ∃ left found : List Val, env.take 4 = [some (.ref i), some v, some (.ref S.length), some (.ref (S.length + 1))] ∧ env.length = 5 ∧ rest.length = left.length ∧ (left ++ found).Perm xs ∧ Kp i S S' ∧
    S'[S.length]? = some (true, .lst left) ∧ S'[S.length + 1]? = some (true, .lst found)) ?_ ?_ ?_
  · rintro x rest env S' ⟨left, found, he, hel, hlen, hp, kp, h1, h2⟩
    match env, he, hel with
    | [e0, e1, e2, e3, e4], he, _ =>
    simp only [List.take_succ_cons, List.take_zero, List.cons.injEq, and_true] at he
    obtain ⟨rfl, rfl, rfl, rfl⟩ := he
    simp only [lstOf, lstX, h1, h2, len_rl h1, w_ok, w_exc, w_stuck, w_bind, w_runB, w_var, got_some, w_e2, w_call, w_cons, w_nil, w_def, w_tup, w_lst, w_bool, w_notF, w_andF, w_orF, w_and, w_or, w_not, w_if, w_neg, w_star, w_aSeq, w_fld, w_frz, w_chain, w_m1, w_bm, w_iSeq, w_rg1, w_rg2, w_isi, w_wget, w_lc, w_cmet, w_met, w_mak, w_makL, w_jnil, w_jcons, w_fmt, w_sl, w_oNone, w_oSome, w_d0, w_dget, w_walk, v_nx, v_ret, v_exc, v_brk, v_cnt, v_stuck, v_seq', v_nx', v_exp, v_ret', v_retN, v_if, v_set, v_raise, v_asg, v_par, v_for, v_fld, v_dput, t_name, t_tup, t_ix, v_tryE, v_tryS, v_tryR, v_trySq, v_tryEq, v_hnil, v_hcons, w_isx, w_xf, w_enu, List.map_cons, List.map_nil, List.length_cons, List.length_nil, List.replicate_succ, List.replicate_zero, List.cons_append, List.nil_append, List.append_nil, List.getElem?_cons_zero, List.getElem?_cons_succ, List.set_cons_zero, List.set_cons_succ, Nat.reduceSub, Nat.reduceAdd, Nat.reduceLeDiff, Nat.reduceEqDiff, Nat.zero_add, Nat.sub_zero, if_true, if_false, ite_true, ite_false, Bool.false_eq_true, Bool.true_eq_false, Bool.not_true, Bool.not_false, true_implies, false_implies, implies_true, and_true, true_and, not_true_eq_false, not_false_eq_true, eC, tTrue, tgsCons, tgsNil, wipeE, reduceIte, reduceCtorEq, Option.some.injEq, eq_self, Int.cast_ofNat_Int, Int.reduceBEq, Int.reduceLT, Int.reduceLE, Int.reduceAdd, Int.reduceSub, beq_self_eq_true, decide_true, decide_false, Bool.or_false, Bool.or_true, Bool.false_or, Bool.true_or, Bool.and_true, Bool.true_and, Bool.and_false, Bool.false_and, Bool.not_not, decide_eq_true_eq, true_or, or_true, false_or, or_false, Nat.reduceLT, and_self]
    refine choose_k kp.box (by simp at hlen; omega) (fun r S2 r0 r1 kp2 hl2 => ?_) (by have := hp.length_eq; simp at this; omega)
    obtain ⟨n, rfl⟩ := Int.eq_ofNat_of_zero_le r0
    have hn : n < left.length := by omega
    have hlx : left.length + found.length = xs.length := by have := hp.length_eq; simpa using this
    have lS : S.length < S'.length := (List.getElem?_eq_some_iff.mp h1).1
    have lS1 : S.length + 1 < S'.length := (List.getElem?_eq_some_iff.mp h2).1
    have g1 : S2[S.length]? = some (true, .lst left) := by rw [kp2.at_ _ lS (by omega)]; exact h1
    have g2 : S2[S.length + 1]? = some (true, .lst found) := by rw [kp2.at_ _ lS1 (by omega)]; exact h2
    have g3 : (S2.set S.length (true, .lst (left.eraseIdx n)))[S.length + 1]? = some (true, .lst found) := by rw [List.getElem?_set_ne (by omega)]; exact g2
    have l2 : S.length < S2.length := by omega
    have l3 : S.length + 1 < S2.length := by omega
    simp only [pop_r g1 hn (by omega), append_r g3 (Nat.lt_of_lt_of_le (show found.length < 1001 by omega) (small_size (by decide))), w_ok, w_exc, w_stuck, w_bind, w_runB, w_var, got_some, w_e2, w_call, w_cons, w_nil, w_def, w_tup, w_lst, w_bool, w_notF, w_andF, w_orF, w_and, w_or, w_not, w_if, w_neg, w_star, w_aSeq, w_fld, w_frz, w_chain, w_m1, w_bm, w_iSeq, w_rg1, w_rg2, w_isi, w_wget, w_lc, w_cmet, w_met, w_mak, w_makL, w_jnil, w_jcons, w_fmt, w_sl, w_oNone, w_oSome, w_d0, w_dget, w_walk, v_nx, v_ret, v_exc, v_brk, v_cnt, v_stuck, v_seq', v_nx', v_exp, v_ret', v_retN, v_if, v_set, v_raise, v_asg, v_par, v_for, v_fld, v_dput, t_name, t_tup, t_ix, v_tryE, v_tryS, v_tryR, v_trySq, v_tryEq, v_hnil, v_hcons, w_isx, w_xf, w_enu, List.map_cons, List.map_nil, List.length_cons, List.length_nil, List.replicate_succ, List.replicate_zero, List.cons_append, List.nil_append, List.append_nil, List.getElem?_cons_zero, List.getElem?_cons_succ, List.set_cons_zero, List.set_cons_succ, Nat.reduceSub, Nat.reduceAdd, Nat.reduceLeDiff, Nat.reduceEqDiff, Nat.zero_add, Nat.sub_zero, if_true, if_false, ite_true, ite_false, Bool.false_eq_true, Bool.true_eq_false, Bool.not_true, Bool.not_false, true_implies, false_implies, implies_true, and_true, true_and, not_true_eq_false, not_false_eq_true, eC, tTrue, tgsCons, tgsNil, wipeE, reduceIte, reduceCtorEq, Option.some.injEq, eq_self, Int.cast_ofNat_Int, Int.reduceBEq, Int.reduceLT, Int.reduceLE, Int.reduceAdd, Int.reduceSub, beq_self_eq_true, decide_true, decide_false, Bool.or_false, Bool.or_true, Bool.false_or, Bool.true_or, Bool.and_true, Bool.true_and, Bool.and_false, Bool.false_and, Bool.not_not, decide_eq_true_eq, true_or, or_true, false_or, or_false, Nat.reduceLT, and_self]
    refine ⟨left.eraseIdx n, found ++ [left[n]], rfl, ?_, ?_, ?_, ?_, ?_⟩
    · rw [List.length_eraseIdx_of_lt hn]; simp at hlen; omega
    · refine List.Perm.trans ?_ hp
      have q : (left[n] :: left.eraseIdx n).Perm left := perm_erase hn
      refine List.Perm.trans ?_ (q.append_right found)
      simp only [List.cons_append]
      rw [← List.append_assoc]
      exact List.perm_append_singleton _ _
    · have kk := kp.trans kp2
      refine ⟨by simpa using kk.len, fun j hj hi' => ?_, ?_⟩
      · rw [List.getElem?_set_ne (by omega), List.getElem?_set_ne (by omega)]; exact kk.at_ j hj hi'
      · obtain ⟨g, x, e⟩ := kk.box
        exact ⟨g, x, by rw [List.getElem?_set_ne (by omega), List.getElem?_set_ne (by omega)]; exact e⟩
    · rw [List.getElem?_set_ne (by omega)]; simp [l2]
    · simp [l3]
  · rintro env S' ⟨left, found, he, hel, hlen, hp, kp, h1, h2⟩
    match env, he, hel with
    | [e0, e1, e2, e3, e4], he, _ =>
    simp only [List.take_succ_cons, List.take_zero, List.cons.injEq, and_true] at he
    obtain ⟨rfl, rfl, rfl, rfl⟩ := he
    have hl0 : left = [] := List.length_eq_zero_iff.mp hlen.symm
    subst hl0
    simp only [frzV, h2, w_ok, w_exc, w_stuck, w_bind, w_runB, w_var, got_some, w_e2, w_call, w_cons, w_nil, w_def, w_tup, w_lst, w_bool, w_notF, w_andF, w_orF, w_and, w_or, w_not, w_if, w_neg, w_star, w_aSeq, w_fld, w_frz, w_chain, w_m1, w_bm, w_iSeq, w_rg1, w_rg2, w_isi, w_wget, w_lc, w_cmet, w_met, w_mak, w_makL, w_jnil, w_jcons, w_fmt, w_sl, w_oNone, w_oSome, w_d0, w_dget, w_walk, v_nx, v_ret, v_exc, v_brk, v_cnt, v_stuck, v_seq', v_nx', v_exp, v_ret', v_retN, v_if, v_set, v_raise, v_asg, v_par, v_for, v_fld, v_dput, t_name, t_tup, t_ix, v_tryE, v_tryS, v_tryR, v_trySq, v_tryEq, v_hnil, v_hcons, w_isx, w_xf, w_enu, List.map_cons, List.map_nil, List.length_cons, List.length_nil, List.replicate_succ, List.replicate_zero, List.cons_append, List.nil_append, List.append_nil, List.getElem?_cons_zero, List.getElem?_cons_succ, List.set_cons_zero, List.set_cons_succ, Nat.reduceSub, Nat.reduceAdd, Nat.reduceLeDiff, Nat.reduceEqDiff, Nat.zero_add, Nat.sub_zero, if_true, if_false, ite_true, ite_false, Bool.false_eq_true, Bool.true_eq_false, Bool.not_true, Bool.not_false, true_implies, false_implies, implies_true, and_true, true_and, not_true_eq_false, not_false_eq_true, eC, tTrue, tgsCons, tgsNil, wipeE, reduceIte, reduceCtorEq, Option.some.injEq, eq_self, Int.cast_ofNat_Int, Int.reduceBEq, Int.reduceLT, Int.reduceLE, Int.reduceAdd, Int.reduceSub, beq_self_eq_true, decide_true, decide_false, Bool.or_false, Bool.or_true, Bool.false_or, Bool.true_or, Bool.and_true, Bool.true_and, Bool.and_false, Bool.false_and, Bool.not_not, decide_eq_true_eq, true_or, or_true, false_or, or_false, Nat.reduceLT, and_self]
    have lS1 : S.length + 1 < S'.length := (List.getElem?_eq_some_iff.mp h2).1
    refine k found _ (by simpa using hp) ⟨by simpa using kp.len, fun j hj hi' => ?_, ?_⟩
    · rw [List.getElem?_set_ne (by omega)]; exact kp.at_ j hj hi'
    · obtain ⟨g, x, e⟩ := kp.box
      exact ⟨g, x, by rw [List.getElem?_set_ne (by omega)]; exact e⟩
  · refine ⟨xs, [], by simp, rfl, by simp [rangeV], by simp, ?_, ?_, ?_⟩
    · exact (Kp.app hb _).trans (Kp.app (Kp.app hb _).box _)
    · simp
    · simp
end Fl
namespace Fl
open PySem PySem.Spec L2
open PyProof.Rows hiding St

/-- words as a tuple -/
def wordsV (ws : List Str) : Val := .tup (ws.map Val.str)
/-- a drawn action -/
def Deed (names ws : List Str) : Prop := (∃ l ∈ (["cash", "desk", "a", "x"] : List Str), ws = (["line", l] : List Str)) ∨ (∃ n ∈ names, ws = (["go", n] : List Str)) ∨ (∃ n ∈ names, ∃ m ∈ names, ws = (["call", n, m] : List Str)) ∨ ws = (["back"] : List Str) ∨ ws = (["again"] : List Str) ∨ ws = (["main"] : List Str)
theorem nodup_str {l : List Str} : (l.map Val.str).Nodup ↔ l.Nodup := by
  unfold List.Nodup
  rw [List.pairwise_map]
  constructor <;> intro h <;> exact h.imp fun {a b} q e => q (by first | (cases e; rfl) | (rw [e]))
theorem cut_sub (ys : List Val) (lo hi : Option Int) : (cutL ys lo hi).Sublist ys := (List.take_sublist _ _).trans (List.drop_sublist _ _)
theorem putD_new {k : Str} {v : Val} {kvs : List (Str × Val)} (h : k ∉ kvs.map (·.1)) : putD k v kvs = kvs ++ [(k, v)] := by
  unfold putD
  rw [if_neg]
  intro hc
  apply h
  simpa using hc
/-- a drawn menu's rows, as a dict -/
def rowsD (rows : List (Str × List Str)) : List (Str × Val) := rows.map fun p => (p.1, wordsV p.2)
/-- a drawn menu -/
structure Drawn1 (names : List Str) (rows : List (Str × List Str)) (tail : List Str) (t : Int) : Prop where
  keys : (rows.map (·.1)).Nodup
  dig : ∀ p ∈ rows, p.1 ∈ (["0", "1", "2", "3", "4", "5", "9"] : List Str)
  deed : ∀ p ∈ rows, Deed names p.2
  tail : tail = (["out"] : List Str) ∨ Deed names tail
  tries : t = 1 ∨ t = 2 ∨ t = 3
  few : rows.length ≤ 100
end Fl
namespace Fl
open PySem PySem.Spec L2
open PyProof.Rows hiding St

theorem deed_w {S : Store} {i : Nat} {names : List Str} {Q : Val → Store → Prop} {X : XP} (hb : Box S i) (hn : 0 < names.length) (hn2 : names.length < 1000) (k : ∀ ws S', Deed names ws → Kp i S S' → Q (wordsV ws) S') : (f_l_deed [.ref i, .lst (names.map Val.str)] S).wp Q X := by
  have z4 : 4 ≤ sizeLine := small_size (by decide)
  have z3 : 3 ≤ sizeLine := small_size (by decide)
  have z2 : 2 ≤ sizeLine := small_size (by decide)
  have z1 : 1 ≤ sizeLine := small_size (by decide)
  unfold f_l_deed b_l_deed
  simp only [w_ok, w_exc, w_stuck, w_bind, w_runB, w_var, got_some, w_e2, w_call, w_cons, w_nil, w_def, w_tup, w_lst, w_bool, w_notF, w_andF, w_orF, w_and, w_or, w_not, w_if, w_neg, w_star, w_aSeq, w_fld, w_frz, w_chain, w_m1, w_bm, w_iSeq, w_rg1, w_rg2, w_isi, w_wget, w_lc, w_cmet, w_met, w_mak, w_makL, w_jnil, w_jcons, w_fmt, w_sl, w_oNone, w_oSome, w_d0, w_dget, w_walk, v_nx, v_ret, v_exc, v_brk, v_cnt, v_stuck, v_seq', v_nx', v_exp, v_ret', v_retN, v_if, v_set, v_raise, v_asg, v_par, v_for, v_fld, v_dput, t_name, t_tup, t_ix, v_tryE, v_tryS, v_tryR, v_trySq, v_tryEq, v_hnil, v_hcons, w_isx, w_xf, w_enu, List.map_cons, List.map_nil, List.length_cons, List.length_nil, List.replicate_succ, List.replicate_zero, List.cons_append, List.nil_append, List.append_nil, List.getElem?_cons_zero, List.getElem?_cons_succ, List.set_cons_zero, List.set_cons_succ, Nat.reduceSub, Nat.reduceAdd, Nat.reduceLeDiff, Nat.reduceEqDiff, Nat.zero_add, Nat.sub_zero, if_true, if_false, ite_true, ite_false, Bool.false_eq_true, Bool.true_eq_false, Bool.not_true, Bool.not_false, true_implies, false_implies, implies_true, and_true, true_and, not_true_eq_false, not_false_eq_true, eC, tTrue, tgsCons, tgsNil, wipeE, reduceIte, reduceCtorEq, Option.some.injEq, eq_self, Int.cast_ofNat_Int, Int.reduceBEq, Int.reduceLT, Int.reduceLE, Int.reduceAdd, Int.reduceSub, beq_self_eq_true, decide_true, decide_false, Bool.or_false, Bool.or_true, Bool.false_or, Bool.true_or, Bool.and_true, Bool.true_and, Bool.and_false, Bool.false_and, Bool.not_not, decide_eq_true_eq, true_or, or_true, false_or, or_false, Nat.reduceLT, and_self]
  refine choose_k hb (by omega) (fun r S1 r0 r1 kp _ => ?_)
  simp only [lt_ii, v_ite, z1, z2, z3, z4, mkL, w_ok, w_exc, w_stuck, w_bind, w_runB, w_var, got_some, w_e2, w_call, w_cons, w_nil, w_def, w_tup, w_lst, w_bool, w_notF, w_andF, w_orF, w_and, w_or, w_not, w_if, w_neg, w_star, w_aSeq, w_fld, w_frz, w_chain, w_m1, w_bm, w_iSeq, w_rg1, w_rg2, w_isi, w_wget, w_lc, w_cmet, w_met, w_mak, w_makL, w_jnil, w_jcons, w_fmt, w_sl, w_oNone, w_oSome, w_d0, w_dget, w_walk, v_nx, v_ret, v_exc, v_brk, v_cnt, v_stuck, v_seq', v_nx', v_exp, v_ret', v_retN, v_if, v_set, v_raise, v_asg, v_par, v_for, v_fld, v_dput, t_name, t_tup, t_ix, v_tryE, v_tryS, v_tryR, v_trySq, v_tryEq, v_hnil, v_hcons, w_isx, w_xf, w_enu, List.map_cons, List.map_nil, List.length_cons, List.length_nil, List.replicate_succ, List.replicate_zero, List.cons_append, List.nil_append, List.append_nil, List.getElem?_cons_zero, List.getElem?_cons_succ, List.set_cons_zero, List.set_cons_succ, Nat.reduceSub, Nat.reduceAdd, Nat.reduceLeDiff, Nat.reduceEqDiff, Nat.zero_add, Nat.sub_zero, if_true, if_false, ite_true, ite_false, Bool.false_eq_true, Bool.true_eq_false, Bool.not_true, Bool.not_false, true_implies, false_implies, implies_true, and_true, true_and, not_true_eq_false, not_false_eq_true, eC, tTrue, tgsCons, tgsNil, wipeE, reduceIte, reduceCtorEq, Option.some.injEq, eq_self, Int.cast_ofNat_Int, Int.reduceBEq, Int.reduceLT, Int.reduceLE, Int.reduceAdd, Int.reduceSub, beq_self_eq_true, decide_true, decide_false, Bool.or_false, Bool.or_true, Bool.false_or, Bool.true_or, Bool.and_true, Bool.true_and, Bool.and_false, Bool.false_and, Bool.not_not, decide_eq_true_eq, true_or, or_true, false_or, or_false, Nat.reduceLT, and_self]
  refine ⟨fun _ => ?_, fun h1 => ⟨fun _ => ?_, fun h2 => ⟨fun _ => ?_, fun h3 => ?_⟩⟩⟩
  · refine one_of_w kp.box (by decide) (by decide) (fun v S2 hv kp2 _ => ?_)
    try simp only [z2, w_ok, w_exc, w_stuck, w_bind, w_runB, w_var, got_some, w_e2, w_call, w_cons, w_nil, w_def, w_tup, w_lst, w_bool, w_notF, w_andF, w_orF, w_and, w_or, w_not, w_if, w_neg, w_star, w_aSeq, w_fld, w_frz, w_chain, w_m1, w_bm, w_iSeq, w_rg1, w_rg2, w_isi, w_wget, w_lc, w_cmet, w_met, w_mak, w_makL, w_jnil, w_jcons, w_fmt, w_sl, w_oNone, w_oSome, w_d0, w_dget, w_walk, v_nx, v_ret, v_exc, v_brk, v_cnt, v_stuck, v_seq', v_nx', v_exp, v_ret', v_retN, v_if, v_set, v_raise, v_asg, v_par, v_for, v_fld, v_dput, t_name, t_tup, t_ix, v_tryE, v_tryS, v_tryR, v_trySq, v_tryEq, v_hnil, v_hcons, w_isx, w_xf, w_enu, List.map_cons, List.map_nil, List.length_cons, List.length_nil, List.replicate_succ, List.replicate_zero, List.cons_append, List.nil_append, List.append_nil, List.getElem?_cons_zero, List.getElem?_cons_succ, List.set_cons_zero, List.set_cons_succ, Nat.reduceSub, Nat.reduceAdd, Nat.reduceLeDiff, Nat.reduceEqDiff, Nat.zero_add, Nat.sub_zero, if_true, if_false, ite_true, ite_false, Bool.false_eq_true, Bool.true_eq_false, Bool.not_true, Bool.not_false, true_implies, false_implies, implies_true, and_true, true_and, not_true_eq_false, not_false_eq_true, eC, tTrue, tgsCons, tgsNil, wipeE, reduceIte, reduceCtorEq, Option.some.injEq, eq_self, Int.cast_ofNat_Int, Int.reduceBEq, Int.reduceLT, Int.reduceLE, Int.reduceAdd, Int.reduceSub, beq_self_eq_true, decide_true, decide_false, Bool.or_false, Bool.or_true, Bool.false_or, Bool.true_or, Bool.and_true, Bool.true_and, Bool.and_false, Bool.false_and, Bool.not_not, decide_eq_true_eq, true_or, or_true, false_or, or_false, Nat.reduceLT, and_self]
    simp only [List.mem_cons, List.not_mem_nil, or_false] at hv
    rcases hv with rfl | rfl | rfl | rfl
    · exact k ["line", "cash"] S2 (.inl ⟨_, by simp, rfl⟩) (kp.trans kp2)
    · exact k ["line", "desk"] S2 (.inl ⟨_, by simp, rfl⟩) (kp.trans kp2)
    · exact k ["line", "a"] S2 (.inl ⟨_, by simp, rfl⟩) (kp.trans kp2)
    · exact k ["line", "x"] S2 (.inl ⟨_, by simp, rfl⟩) (kp.trans kp2)
  · refine one_of_w kp.box (by simpa using hn) (by simp; omega) (fun v S2 hv kp2 _ => ?_)
    try simp only [z2, w_ok, w_exc, w_stuck, w_bind, w_runB, w_var, got_some, w_e2, w_call, w_cons, w_nil, w_def, w_tup, w_lst, w_bool, w_notF, w_andF, w_orF, w_and, w_or, w_not, w_if, w_neg, w_star, w_aSeq, w_fld, w_frz, w_chain, w_m1, w_bm, w_iSeq, w_rg1, w_rg2, w_isi, w_wget, w_lc, w_cmet, w_met, w_mak, w_makL, w_jnil, w_jcons, w_fmt, w_sl, w_oNone, w_oSome, w_d0, w_dget, w_walk, v_nx, v_ret, v_exc, v_brk, v_cnt, v_stuck, v_seq', v_nx', v_exp, v_ret', v_retN, v_if, v_set, v_raise, v_asg, v_par, v_for, v_fld, v_dput, t_name, t_tup, t_ix, v_tryE, v_tryS, v_tryR, v_trySq, v_tryEq, v_hnil, v_hcons, w_isx, w_xf, w_enu, List.map_cons, List.map_nil, List.length_cons, List.length_nil, List.replicate_succ, List.replicate_zero, List.cons_append, List.nil_append, List.append_nil, List.getElem?_cons_zero, List.getElem?_cons_succ, List.set_cons_zero, List.set_cons_succ, Nat.reduceSub, Nat.reduceAdd, Nat.reduceLeDiff, Nat.reduceEqDiff, Nat.zero_add, Nat.sub_zero, if_true, if_false, ite_true, ite_false, Bool.false_eq_true, Bool.true_eq_false, Bool.not_true, Bool.not_false, true_implies, false_implies, implies_true, and_true, true_and, not_true_eq_false, not_false_eq_true, eC, tTrue, tgsCons, tgsNil, wipeE, reduceIte, reduceCtorEq, Option.some.injEq, eq_self, Int.cast_ofNat_Int, Int.reduceBEq, Int.reduceLT, Int.reduceLE, Int.reduceAdd, Int.reduceSub, beq_self_eq_true, decide_true, decide_false, Bool.or_false, Bool.or_true, Bool.false_or, Bool.true_or, Bool.and_true, Bool.true_and, Bool.and_false, Bool.false_and, Bool.not_not, decide_eq_true_eq, true_or, or_true, false_or, or_false, Nat.reduceLT, and_self]
    obtain ⟨n, hn, rfl⟩ := List.mem_map.mp hv
    exact k ["go", n] S2 (.inr (.inl ⟨n, hn, rfl⟩)) (kp.trans kp2)
  · refine one_of_w kp.box (by simpa using hn) (by simp; omega) (fun v S2 hv kp2 _ => ?_)
    try simp only [z2, w_ok, w_exc, w_stuck, w_bind, w_runB, w_var, got_some, w_e2, w_call, w_cons, w_nil, w_def, w_tup, w_lst, w_bool, w_notF, w_andF, w_orF, w_and, w_or, w_not, w_if, w_neg, w_star, w_aSeq, w_fld, w_frz, w_chain, w_m1, w_bm, w_iSeq, w_rg1, w_rg2, w_isi, w_wget, w_lc, w_cmet, w_met, w_mak, w_makL, w_jnil, w_jcons, w_fmt, w_sl, w_oNone, w_oSome, w_d0, w_dget, w_walk, v_nx, v_ret, v_exc, v_brk, v_cnt, v_stuck, v_seq', v_nx', v_exp, v_ret', v_retN, v_if, v_set, v_raise, v_asg, v_par, v_for, v_fld, v_dput, t_name, t_tup, t_ix, v_tryE, v_tryS, v_tryR, v_trySq, v_tryEq, v_hnil, v_hcons, w_isx, w_xf, w_enu, List.map_cons, List.map_nil, List.length_cons, List.length_nil, List.replicate_succ, List.replicate_zero, List.cons_append, List.nil_append, List.append_nil, List.getElem?_cons_zero, List.getElem?_cons_succ, List.set_cons_zero, List.set_cons_succ, Nat.reduceSub, Nat.reduceAdd, Nat.reduceLeDiff, Nat.reduceEqDiff, Nat.zero_add, Nat.sub_zero, if_true, if_false, ite_true, ite_false, Bool.false_eq_true, Bool.true_eq_false, Bool.not_true, Bool.not_false, true_implies, false_implies, implies_true, and_true, true_and, not_true_eq_false, not_false_eq_true, eC, tTrue, tgsCons, tgsNil, wipeE, reduceIte, reduceCtorEq, Option.some.injEq, eq_self, Int.cast_ofNat_Int, Int.reduceBEq, Int.reduceLT, Int.reduceLE, Int.reduceAdd, Int.reduceSub, beq_self_eq_true, decide_true, decide_false, Bool.or_false, Bool.or_true, Bool.false_or, Bool.true_or, Bool.and_true, Bool.true_and, Bool.and_false, Bool.false_and, Bool.not_not, decide_eq_true_eq, true_or, or_true, false_or, or_false, Nat.reduceLT, and_self]
    refine one_of_w kp2.box (by simpa using hn) (by simp; omega) (fun v2 S3 hv2 kp3 _ => ?_)
    try simp only [z3, w_ok, w_exc, w_stuck, w_bind, w_runB, w_var, got_some, w_e2, w_call, w_cons, w_nil, w_def, w_tup, w_lst, w_bool, w_notF, w_andF, w_orF, w_and, w_or, w_not, w_if, w_neg, w_star, w_aSeq, w_fld, w_frz, w_chain, w_m1, w_bm, w_iSeq, w_rg1, w_rg2, w_isi, w_wget, w_lc, w_cmet, w_met, w_mak, w_makL, w_jnil, w_jcons, w_fmt, w_sl, w_oNone, w_oSome, w_d0, w_dget, w_walk, v_nx, v_ret, v_exc, v_brk, v_cnt, v_stuck, v_seq', v_nx', v_exp, v_ret', v_retN, v_if, v_set, v_raise, v_asg, v_par, v_for, v_fld, v_dput, t_name, t_tup, t_ix, v_tryE, v_tryS, v_tryR, v_trySq, v_tryEq, v_hnil, v_hcons, w_isx, w_xf, w_enu, List.map_cons, List.map_nil, List.length_cons, List.length_nil, List.replicate_succ, List.replicate_zero, List.cons_append, List.nil_append, List.append_nil, List.getElem?_cons_zero, List.getElem?_cons_succ, List.set_cons_zero, List.set_cons_succ, Nat.reduceSub, Nat.reduceAdd, Nat.reduceLeDiff, Nat.reduceEqDiff, Nat.zero_add, Nat.sub_zero, if_true, if_false, ite_true, ite_false, Bool.false_eq_true, Bool.true_eq_false, Bool.not_true, Bool.not_false, true_implies, false_implies, implies_true, and_true, true_and, not_true_eq_false, not_false_eq_true, eC, tTrue, tgsCons, tgsNil, wipeE, reduceIte, reduceCtorEq, Option.some.injEq, eq_self, Int.cast_ofNat_Int, Int.reduceBEq, Int.reduceLT, Int.reduceLE, Int.reduceAdd, Int.reduceSub, beq_self_eq_true, decide_true, decide_false, Bool.or_false, Bool.or_true, Bool.false_or, Bool.true_or, Bool.and_true, Bool.true_and, Bool.and_false, Bool.false_and, Bool.not_not, decide_eq_true_eq, true_or, or_true, false_or, or_false, Nat.reduceLT, and_self]
    obtain ⟨n, hn, rfl⟩ := List.mem_map.mp hv
    obtain ⟨m, hm, rfl⟩ := List.mem_map.mp hv2
    exact k ["call", n, m] S3 (.inr (.inr (.inl ⟨n, hn, m, hm, rfl⟩))) ((kp.trans kp2).trans kp3)
  · have h1' : ¬ r < 7 := by simpa using h3
    have hr : r = 7 ∨ r = 8 ∨ r = 9 ∨ r = 10 := by omega
    rcases hr with rfl | rfl | rfl | rfl
    · simp only [sub_ii, ix_l (i := 0) (xs := [.tup [.str "back"], .tup [.str "back"], .tup [.str "again"], .tup [.str "main"]]) (v := .tup [.str "back"]) rfl, w_ok, w_exc, w_stuck, w_bind, w_runB, w_var, got_some, w_e2, w_call, w_cons, w_nil, w_def, w_tup, w_lst, w_bool, w_notF, w_andF, w_orF, w_and, w_or, w_not, w_if, w_neg, w_star, w_aSeq, w_fld, w_frz, w_chain, w_m1, w_bm, w_iSeq, w_rg1, w_rg2, w_isi, w_wget, w_lc, w_cmet, w_met, w_mak, w_makL, w_jnil, w_jcons, w_fmt, w_sl, w_oNone, w_oSome, w_d0, w_dget, w_walk, v_nx, v_ret, v_exc, v_brk, v_cnt, v_stuck, v_seq', v_nx', v_exp, v_ret', v_retN, v_if, v_set, v_raise, v_asg, v_par, v_for, v_fld, v_dput, t_name, t_tup, t_ix, v_tryE, v_tryS, v_tryR, v_trySq, v_tryEq, v_hnil, v_hcons, w_isx, w_xf, w_enu, List.map_cons, List.map_nil, List.length_cons, List.length_nil, List.replicate_succ, List.replicate_zero, List.cons_append, List.nil_append, List.append_nil, List.getElem?_cons_zero, List.getElem?_cons_succ, List.set_cons_zero, List.set_cons_succ, Nat.reduceSub, Nat.reduceAdd, Nat.reduceLeDiff, Nat.reduceEqDiff, Nat.zero_add, Nat.sub_zero, if_true, if_false, ite_true, ite_false, Bool.false_eq_true, Bool.true_eq_false, Bool.not_true, Bool.not_false, true_implies, false_implies, implies_true, and_true, true_and, not_true_eq_false, not_false_eq_true, eC, tTrue, tgsCons, tgsNil, wipeE, reduceIte, reduceCtorEq, Option.some.injEq, eq_self, Int.cast_ofNat_Int, Int.reduceBEq, Int.reduceLT, Int.reduceLE, Int.reduceAdd, Int.reduceSub, beq_self_eq_true, decide_true, decide_false, Bool.or_false, Bool.or_true, Bool.false_or, Bool.true_or, Bool.and_true, Bool.true_and, Bool.and_false, Bool.false_and, Bool.not_not, decide_eq_true_eq, true_or, or_true, false_or, or_false, Nat.reduceLT, and_self]
      exact k ["back"] S1 (.inr (.inr (.inr (.inl rfl)))) kp
    · simp only [sub_ii, ix_l (i := 1) (xs := [.tup [.str "back"], .tup [.str "back"], .tup [.str "again"], .tup [.str "main"]]) (v := .tup [.str "back"]) rfl, w_ok, w_exc, w_stuck, w_bind, w_runB, w_var, got_some, w_e2, w_call, w_cons, w_nil, w_def, w_tup, w_lst, w_bool, w_notF, w_andF, w_orF, w_and, w_or, w_not, w_if, w_neg, w_star, w_aSeq, w_fld, w_frz, w_chain, w_m1, w_bm, w_iSeq, w_rg1, w_rg2, w_isi, w_wget, w_lc, w_cmet, w_met, w_mak, w_makL, w_jnil, w_jcons, w_fmt, w_sl, w_oNone, w_oSome, w_d0, w_dget, w_walk, v_nx, v_ret, v_exc, v_brk, v_cnt, v_stuck, v_seq', v_nx', v_exp, v_ret', v_retN, v_if, v_set, v_raise, v_asg, v_par, v_for, v_fld, v_dput, t_name, t_tup, t_ix, v_tryE, v_tryS, v_tryR, v_trySq, v_tryEq, v_hnil, v_hcons, w_isx, w_xf, w_enu, List.map_cons, List.map_nil, List.length_cons, List.length_nil, List.replicate_succ, List.replicate_zero, List.cons_append, List.nil_append, List.append_nil, List.getElem?_cons_zero, List.getElem?_cons_succ, List.set_cons_zero, List.set_cons_succ, Nat.reduceSub, Nat.reduceAdd, Nat.reduceLeDiff, Nat.reduceEqDiff, Nat.zero_add, Nat.sub_zero, if_true, if_false, ite_true, ite_false, Bool.false_eq_true, Bool.true_eq_false, Bool.not_true, Bool.not_false, true_implies, false_implies, implies_true, and_true, true_and, not_true_eq_false, not_false_eq_true, eC, tTrue, tgsCons, tgsNil, wipeE, reduceIte, reduceCtorEq, Option.some.injEq, eq_self, Int.cast_ofNat_Int, Int.reduceBEq, Int.reduceLT, Int.reduceLE, Int.reduceAdd, Int.reduceSub, beq_self_eq_true, decide_true, decide_false, Bool.or_false, Bool.or_true, Bool.false_or, Bool.true_or, Bool.and_true, Bool.true_and, Bool.and_false, Bool.false_and, Bool.not_not, decide_eq_true_eq, true_or, or_true, false_or, or_false, Nat.reduceLT, and_self]
      exact k ["back"] S1 (.inr (.inr (.inr (.inl rfl)))) kp
    · simp only [sub_ii, ix_l (i := 2) (xs := [.tup [.str "back"], .tup [.str "back"], .tup [.str "again"], .tup [.str "main"]]) (v := .tup [.str "again"]) rfl, w_ok, w_exc, w_stuck, w_bind, w_runB, w_var, got_some, w_e2, w_call, w_cons, w_nil, w_def, w_tup, w_lst, w_bool, w_notF, w_andF, w_orF, w_and, w_or, w_not, w_if, w_neg, w_star, w_aSeq, w_fld, w_frz, w_chain, w_m1, w_bm, w_iSeq, w_rg1, w_rg2, w_isi, w_wget, w_lc, w_cmet, w_met, w_mak, w_makL, w_jnil, w_jcons, w_fmt, w_sl, w_oNone, w_oSome, w_d0, w_dget, w_walk, v_nx, v_ret, v_exc, v_brk, v_cnt, v_stuck, v_seq', v_nx', v_exp, v_ret', v_retN, v_if, v_set, v_raise, v_asg, v_par, v_for, v_fld, v_dput, t_name, t_tup, t_ix, v_tryE, v_tryS, v_tryR, v_trySq, v_tryEq, v_hnil, v_hcons, w_isx, w_xf, w_enu, List.map_cons, List.map_nil, List.length_cons, List.length_nil, List.replicate_succ, List.replicate_zero, List.cons_append, List.nil_append, List.append_nil, List.getElem?_cons_zero, List.getElem?_cons_succ, List.set_cons_zero, List.set_cons_succ, Nat.reduceSub, Nat.reduceAdd, Nat.reduceLeDiff, Nat.reduceEqDiff, Nat.zero_add, Nat.sub_zero, if_true, if_false, ite_true, ite_false, Bool.false_eq_true, Bool.true_eq_false, Bool.not_true, Bool.not_false, true_implies, false_implies, implies_true, and_true, true_and, not_true_eq_false, not_false_eq_true, eC, tTrue, tgsCons, tgsNil, wipeE, reduceIte, reduceCtorEq, Option.some.injEq, eq_self, Int.cast_ofNat_Int, Int.reduceBEq, Int.reduceLT, Int.reduceLE, Int.reduceAdd, Int.reduceSub, beq_self_eq_true, decide_true, decide_false, Bool.or_false, Bool.or_true, Bool.false_or, Bool.true_or, Bool.and_true, Bool.true_and, Bool.and_false, Bool.false_and, Bool.not_not, decide_eq_true_eq, true_or, or_true, false_or, or_false, Nat.reduceLT, and_self]
      exact k ["again"] S1 (.inr (.inr (.inr (.inr (.inl rfl))))) kp
    · simp only [sub_ii, ix_l (i := 3) (xs := [.tup [.str "back"], .tup [.str "back"], .tup [.str "again"], .tup [.str "main"]]) (v := .tup [.str "main"]) rfl, w_ok, w_exc, w_stuck, w_bind, w_runB, w_var, got_some, w_e2, w_call, w_cons, w_nil, w_def, w_tup, w_lst, w_bool, w_notF, w_andF, w_orF, w_and, w_or, w_not, w_if, w_neg, w_star, w_aSeq, w_fld, w_frz, w_chain, w_m1, w_bm, w_iSeq, w_rg1, w_rg2, w_isi, w_wget, w_lc, w_cmet, w_met, w_mak, w_makL, w_jnil, w_jcons, w_fmt, w_sl, w_oNone, w_oSome, w_d0, w_dget, w_walk, v_nx, v_ret, v_exc, v_brk, v_cnt, v_stuck, v_seq', v_nx', v_exp, v_ret', v_retN, v_if, v_set, v_raise, v_asg, v_par, v_for, v_fld, v_dput, t_name, t_tup, t_ix, v_tryE, v_tryS, v_tryR, v_trySq, v_tryEq, v_hnil, v_hcons, w_isx, w_xf, w_enu, List.map_cons, List.map_nil, List.length_cons, List.length_nil, List.replicate_succ, List.replicate_zero, List.cons_append, List.nil_append, List.append_nil, List.getElem?_cons_zero, List.getElem?_cons_succ, List.set_cons_zero, List.set_cons_succ, Nat.reduceSub, Nat.reduceAdd, Nat.reduceLeDiff, Nat.reduceEqDiff, Nat.zero_add, Nat.sub_zero, if_true, if_false, ite_true, ite_false, Bool.false_eq_true, Bool.true_eq_false, Bool.not_true, Bool.not_false, true_implies, false_implies, implies_true, and_true, true_and, not_true_eq_false, not_false_eq_true, eC, tTrue, tgsCons, tgsNil, wipeE, reduceIte, reduceCtorEq, Option.some.injEq, eq_self, Int.cast_ofNat_Int, Int.reduceBEq, Int.reduceLT, Int.reduceLE, Int.reduceAdd, Int.reduceSub, beq_self_eq_true, decide_true, decide_false, Bool.or_false, Bool.or_true, Bool.false_or, Bool.true_or, Bool.and_true, Bool.true_and, Bool.and_false, Bool.false_and, Bool.not_not, decide_eq_true_eq, true_or, or_true, false_or, or_false, Nat.reduceLT, and_self]
      exact k ["main"] S1 (.inr (.inr (.inr (.inr (.inr rfl))))) kp

theorem menu_w {S : Store} {i : Nat} {nm : Val} {names : List Str} {m : Int} {Q : Val → Store → Prop} {X : XP} (hb : Box S i) (hn : 0 < names.length) (hn2 : names.length < 1000) (hm : 0 ≤ m) (hm2 : m < 1000)
    (k : ∀ d rows tail t c S', Drawn1 names rows tail t → S.length ≤ d → S'[d]? = some (true, .dct (rowsD rows)) → Kp i S S' → Q (.lst [nm, .ref d, wordsV tail, .int t, .bl c]) S') : (f_l_menu [.ref i, nm, .lst (names.map Val.str), .int m] S).wp Q X := by
  have z5 : 5 ≤ sizeLine := small_size (by decide)
  have z1 : 1 ≤ sizeLine := small_size (by decide)
  unfold f_l_menu b_l_menu
  simp only [w_ok, w_exc, w_stuck, w_bind, w_runB, w_var, got_some, w_e2, w_call, w_cons, w_nil, w_def, w_tup, w_lst, w_bool, w_notF, w_andF, w_orF, w_and, w_or, w_not, w_if, w_neg, w_star, w_aSeq, w_fld, w_frz, w_chain, w_m1, w_bm, w_iSeq, w_rg1, w_rg2, w_isi, w_wget, w_lc, w_cmet, w_met, w_mak, w_makL, w_jnil, w_jcons, w_fmt, w_sl, w_oNone, w_oSome, w_d0, w_dget, w_walk, v_nx, v_ret, v_exc, v_brk, v_cnt, v_stuck, v_seq', v_nx', v_exp, v_ret', v_retN, v_if, v_set, v_raise, v_asg, v_par, v_for, v_fld, v_dput, t_name, t_tup, t_ix, v_tryE, v_tryS, v_tryR, v_trySq, v_tryEq, v_hnil, v_hcons, w_isx, w_xf, w_enu, List.map_cons, List.map_nil, List.length_cons, List.length_nil, List.replicate_succ, List.replicate_zero, List.cons_append, List.nil_append, List.append_nil, List.getElem?_cons_zero, List.getElem?_cons_succ, List.set_cons_zero, List.set_cons_succ, Nat.reduceSub, Nat.reduceAdd, Nat.reduceLeDiff, Nat.reduceEqDiff, Nat.zero_add, Nat.sub_zero, if_true, if_false, ite_true, ite_false, Bool.false_eq_true, Bool.true_eq_false, Bool.not_true, Bool.not_false, true_implies, false_implies, implies_true, and_true, true_and, not_true_eq_false, not_false_eq_true, eC, tTrue, tgsCons, tgsNil, wipeE, reduceIte, reduceCtorEq, Option.some.injEq, eq_self, Int.cast_ofNat_Int, Int.reduceBEq, Int.reduceLT, Int.reduceLE, Int.reduceAdd, Int.reduceSub, beq_self_eq_true, decide_true, decide_false, Bool.or_false, Bool.or_true, Bool.false_or, Bool.true_or, Bool.and_true, Bool.true_and, Bool.and_false, Bool.false_and, Bool.not_not, decide_eq_true_eq, true_or, or_true, false_or, or_false, Nat.reduceLT, and_self]
  refine mixed_w (xs := [.str "0", .str "1", .str "2", .str "3", .str "4", .str "5", .str "9"]) (Kp.app hb _).box (.inr ⟨_, rfl, rfl, by decide⟩) (fun ys S1 hp kp1 => ?_)
  simp only [add_ii, w_ok, w_exc, w_stuck, w_bind, w_runB, w_var, got_some, w_e2, w_call, w_cons, w_nil, w_def, w_tup, w_lst, w_bool, w_notF, w_andF, w_orF, w_and, w_or, w_not, w_if, w_neg, w_star, w_aSeq, w_fld, w_frz, w_chain, w_m1, w_bm, w_iSeq, w_rg1, w_rg2, w_isi, w_wget, w_lc, w_cmet, w_met, w_mak, w_makL, w_jnil, w_jcons, w_fmt, w_sl, w_oNone, w_oSome, w_d0, w_dget, w_walk, v_nx, v_ret, v_exc, v_brk, v_cnt, v_stuck, v_seq', v_nx', v_exp, v_ret', v_retN, v_if, v_set, v_raise, v_asg, v_par, v_for, v_fld, v_dput, t_name, t_tup, t_ix, v_tryE, v_tryS, v_tryR, v_trySq, v_tryEq, v_hnil, v_hcons, w_isx, w_xf, w_enu, List.map_cons, List.map_nil, List.length_cons, List.length_nil, List.replicate_succ, List.replicate_zero, List.cons_append, List.nil_append, List.append_nil, List.getElem?_cons_zero, List.getElem?_cons_succ, List.set_cons_zero, List.set_cons_succ, Nat.reduceSub, Nat.reduceAdd, Nat.reduceLeDiff, Nat.reduceEqDiff, Nat.zero_add, Nat.sub_zero, if_true, if_false, ite_true, ite_false, Bool.false_eq_true, Bool.true_eq_false, Bool.not_true, Bool.not_false, true_implies, false_implies, implies_true, and_true, true_and, not_true_eq_false, not_false_eq_true, eC, tTrue, tgsCons, tgsNil, wipeE, reduceIte, reduceCtorEq, Option.some.injEq, eq_self, Int.cast_ofNat_Int, Int.reduceBEq, Int.reduceLT, Int.reduceLE, Int.reduceAdd, Int.reduceSub, beq_self_eq_true, decide_true, decide_false, Bool.or_false, Bool.or_true, Bool.false_or, Bool.true_or, Bool.and_true, Bool.true_and, Bool.and_false, Bool.false_and, Bool.not_not, decide_eq_true_eq, true_or, or_true, false_or, or_false, Nat.reduceLT, and_self]
  refine choose_k kp1.box (by omega) (fun r S2 r0 r1 kp2 _ => ?_) (by omega)
  simp only [vSl, lstOf, lstX, mkL, itmF, w_ok, w_exc, w_stuck, w_bind, w_runB, w_var, got_some, w_e2, w_call, w_cons, w_nil, w_def, w_tup, w_lst, w_bool, w_notF, w_andF, w_orF, w_and, w_or, w_not, w_if, w_neg, w_star, w_aSeq, w_fld, w_frz, w_chain, w_m1, w_bm, w_iSeq, w_rg1, w_rg2, w_isi, w_wget, w_lc, w_cmet, w_met, w_mak, w_makL, w_jnil, w_jcons, w_fmt, w_sl, w_oNone, w_oSome, w_d0, w_dget, w_walk, v_nx, v_ret, v_exc, v_brk, v_cnt, v_stuck, v_seq', v_nx', v_exp, v_ret', v_retN, v_if, v_set, v_raise, v_asg, v_par, v_for, v_fld, v_dput, t_name, t_tup, t_ix, v_tryE, v_tryS, v_tryR, v_trySq, v_tryEq, v_hnil, v_hcons, w_isx, w_xf, w_enu, List.map_cons, List.map_nil, List.length_cons, List.length_nil, List.replicate_succ, List.replicate_zero, List.cons_append, List.nil_append, List.append_nil, List.getElem?_cons_zero, List.getElem?_cons_succ, List.set_cons_zero, List.set_cons_succ, Nat.reduceSub, Nat.reduceAdd, Nat.reduceLeDiff, Nat.reduceEqDiff, Nat.zero_add, Nat.sub_zero, if_true, if_false, ite_true, ite_false, Bool.false_eq_true, Bool.true_eq_false, Bool.not_true, Bool.not_false, true_implies, false_implies, implies_true, and_true, true_and, not_true_eq_false, not_false_eq_true, eC, tTrue, tgsCons, tgsNil, wipeE, reduceIte, reduceCtorEq, Option.some.injEq, eq_self, Int.cast_ofNat_Int, Int.reduceBEq, Int.reduceLT, Int.reduceLE, Int.reduceAdd, Int.reduceSub, beq_self_eq_true, decide_true, decide_false, Bool.or_false, Bool.or_true, Bool.false_or, Bool.true_or, Bool.and_true, Bool.true_and, Bool.and_false, Bool.false_and, Bool.not_not, decide_eq_true_eq, true_or, or_true, false_or, or_false, Nat.reduceLT, and_self]
  have hi := hb.lt
  have hd1 : (S ++ [(true, Cel.dct [])])[S.length]? = some (true, .dct []) := by simp
  have hlen : (S ++ [(true, Cel.dct [])]).length = S.length + 1 := by simp
  have kp0 := Kp.app hb [(true, Cel.dct [])]
  have ysn : ys.Nodup := hp.symm.nodup (nodup_str (l := ["0", "1", "2", "3", "4", "5", "9"]).mpr (by decide))
  have csub := cut_sub ys none (some r)
  refine v_forGo (I := fun rest env S' => ∃ x5 rows, env = [some (.ref i), some nm, some (.lst (names.map Val.str)), some (.int m), some (.ref S.length), x5, none] ∧ (rows.map fun p => Val.str p.1) ++ rest = cutL ys none (some r) ∧
    (∀ p ∈ rows, Deed names p.2) ∧ S'[S.length]? = some (true, .dct (rowsD rows)) ∧ Kp i S S') ?_ ?_ ?_
  · rintro x rest env S' ⟨x5, rows, rfl, hr, hde, hs, kp⟩
    have hx : x ∈ ys := csub.subset (by rw [← hr]; simp)
    have hx7 := hp.subset hx
    have hxs : ∃ z : Str, x = .str z := by
      simp only [List.mem_cons, List.not_mem_nil, or_false] at hx7
      rcases hx7 with rfl | rfl | rfl | rfl | rfl | rfl | rfl <;> exact ⟨_, rfl⟩
    obtain ⟨z, rfl⟩ := hxs
    simp only [w_ok, w_exc, w_stuck, w_bind, w_runB, w_var, got_some, w_e2, w_call, w_cons, w_nil, w_def, w_tup, w_lst, w_bool, w_notF, w_andF, w_orF, w_and, w_or, w_not, w_if, w_neg, w_star, w_aSeq, w_fld, w_frz, w_chain, w_m1, w_bm, w_iSeq, w_rg1, w_rg2, w_isi, w_wget, w_lc, w_cmet, w_met, w_mak, w_makL, w_jnil, w_jcons, w_fmt, w_sl, w_oNone, w_oSome, w_d0, w_dget, w_walk, v_nx, v_ret, v_exc, v_brk, v_cnt, v_stuck, v_seq', v_nx', v_exp, v_ret', v_retN, v_if, v_set, v_raise, v_asg, v_par, v_for, v_fld, v_dput, t_name, t_tup, t_ix, v_tryE, v_tryS, v_tryR, v_trySq, v_tryEq, v_hnil, v_hcons, w_isx, w_xf, w_enu, List.map_cons, List.map_nil, List.length_cons, List.length_nil, List.replicate_succ, List.replicate_zero, List.cons_append, List.nil_append, List.append_nil, List.getElem?_cons_zero, List.getElem?_cons_succ, List.set_cons_zero, List.set_cons_succ, Nat.reduceSub, Nat.reduceAdd, Nat.reduceLeDiff, Nat.reduceEqDiff, Nat.zero_add, Nat.sub_zero, if_true, if_false, ite_true, ite_false, Bool.false_eq_true, Bool.true_eq_false, Bool.not_true, Bool.not_false, true_implies, false_implies, implies_true, and_true, true_and, not_true_eq_false, not_false_eq_true, eC, tTrue, tgsCons, tgsNil, wipeE, reduceIte, reduceCtorEq, Option.some.injEq, eq_self, Int.cast_ofNat_Int, Int.reduceBEq, Int.reduceLT, Int.reduceLE, Int.reduceAdd, Int.reduceSub, beq_self_eq_true, decide_true, decide_false, Bool.or_false, Bool.or_true, Bool.false_or, Bool.true_or, Bool.and_true, Bool.true_and, Bool.and_false, Bool.false_and, Bool.not_not, decide_eq_true_eq, true_or, or_true, false_or, or_false, Nat.reduceLT, and_self]
    refine deed_w kp.box hn hn2 (fun ws S3 hw kp3 => ?_)
    have hlt : S.length < S'.length := (List.getElem?_eq_some_iff.mp hs).1
    have hs3 : S3[S.length]? = some (true, .dct (rowsD rows)) := by rw [kp3.at_ _ hlt (by omega)]; exact hs
    have hlt3 : S.length < S3.length := (List.getElem?_eq_some_iff.mp hs3).1
    have hnk : z ∉ rows.map (·.1) := fun hz => by
      have nd : ((rows.map fun p => Val.str p.1) ++ .str z :: rest).Nodup := by rw [hr]; exact csub.nodup ysn
      obtain ⟨p, hp1, rfl⟩ := List.mem_map.mp hz
      exact (List.nodup_append.mp nd).2.2 _ (List.mem_map.mpr ⟨p, hp1, rfl⟩) _ List.mem_cons_self rfl
    have hrl : rows.length < 1000 := by
      have h1 := csub.length_le
      rw [← hr] at h1
      have h2 := hp.length_eq
      simp at h1 h2
      omega
    simp only [hs3, w_ok, w_exc, w_stuck, w_bind, w_runB, w_var, got_some, w_e2, w_call, w_cons, w_nil, w_def, w_tup, w_lst, w_bool, w_notF, w_andF, w_orF, w_and, w_or, w_not, w_if, w_neg, w_star, w_aSeq, w_fld, w_frz, w_chain, w_m1, w_bm, w_iSeq, w_rg1, w_rg2, w_isi, w_wget, w_lc, w_cmet, w_met, w_mak, w_makL, w_jnil, w_jcons, w_fmt, w_sl, w_oNone, w_oSome, w_d0, w_dget, w_walk, v_nx, v_ret, v_exc, v_brk, v_cnt, v_stuck, v_seq', v_nx', v_exp, v_ret', v_retN, v_if, v_set, v_raise, v_asg, v_par, v_for, v_fld, v_dput, t_name, t_tup, t_ix, v_tryE, v_tryS, v_tryR, v_trySq, v_tryEq, v_hnil, v_hcons, w_isx, w_xf, w_enu, List.map_cons, List.map_nil, List.length_cons, List.length_nil, List.replicate_succ, List.replicate_zero, List.cons_append, List.nil_append, List.append_nil, List.getElem?_cons_zero, List.getElem?_cons_succ, List.set_cons_zero, List.set_cons_succ, Nat.reduceSub, Nat.reduceAdd, Nat.reduceLeDiff, Nat.reduceEqDiff, Nat.zero_add, Nat.sub_zero, if_true, if_false, ite_true, ite_false, Bool.false_eq_true, Bool.true_eq_false, Bool.not_true, Bool.not_false, true_implies, false_implies, implies_true, and_true, true_and, not_true_eq_false, not_false_eq_true, eC, tTrue, tgsCons, tgsNil, wipeE, reduceIte, reduceCtorEq, Option.some.injEq, eq_self, Int.cast_ofNat_Int, Int.reduceBEq, Int.reduceLT, Int.reduceLE, Int.reduceAdd, Int.reduceSub, beq_self_eq_true, decide_true, decide_false, Bool.or_false, Bool.or_true, Bool.false_or, Bool.true_or, Bool.and_true, Bool.true_and, Bool.and_false, Bool.false_and, Bool.not_not, decide_eq_true_eq, true_or, or_true, false_or, or_false, Nat.reduceLT, and_self]
    refine ⟨Nat.lt_of_lt_of_le (show (rowsD rows).length < 1001 by unfold rowsD; rw [List.length_map]; omega) (small_size (by decide)), some (.str z), rows ++ [(z, ws)], rfl, ?_, ?_, ?_, ?_⟩
    · rw [← hr]; simp
    · intro p hp'
      rcases List.mem_append.mp hp' with h | h
      · exact hde p h
      · simp at h; subst h; exact hw
    · rw [putD_new (by unfold rowsD; rw [List.map_map]; exact hnk)]
      simp [rowsD, hlt3]
    · have kk := kp.trans kp3
      refine ⟨by simpa using kk.len, fun j hj hi' => ?_, ?_⟩
      · rw [List.getElem?_set_ne (by omega)]; exact kk.at_ j hj hi'
      · obtain ⟨g, x, e⟩ := kk.box
        exact ⟨g, x, by rw [List.getElem?_set_ne (by omega)]; exact e⟩
  · rintro env S' ⟨x5, rows, rfl, hr, hde, hs, kp⟩
    rw [List.append_nil] at hr
    have hlt : S.length < S'.length := (List.getElem?_eq_some_iff.mp hs).1
    have hkey : (rows.map (·.1)).Nodup := by
      have nd : (rows.map fun p => Val.str p.1).Nodup := by rw [hr]; exact csub.nodup ysn
      rw [show (rows.map fun p => Val.str p.1) = (rows.map (·.1)).map Val.str from by rw [List.map_map]; rfl] at nd
      exact nodup_str.mp nd
    have hdig : ∀ p ∈ rows, p.1 ∈ (["0", "1", "2", "3", "4", "5", "9"] : List Str) := fun p hp' => by
      have h7 := hp.subset (csub.subset (by rw [← hr]; exact List.mem_map.mpr ⟨p, hp', rfl⟩))
      simpa using h7
    have hfew : rows.length ≤ 100 := by
      have h1 := csub.length_le
      rw [← hr] at h1
      have h2 := hp.length_eq
      simp at h1 h2
      omega
    have fin : ∀ (tail : List Str) (S3 : Store), (tail = (["out"] : List Str) ∨ Deed names tail) → Kp i S S3 → S3[S.length]? = some (true, .dct (rowsD rows)) → ∀ r2 : Int, 0 ≤ r2 → r2 < 3 → ∀ c, Q (.lst [nm, .ref S.length, wordsV tail, .int (1 + r2), .bl c]) S3 :=
      fun tail S3 ht kp3 hs3 r2 h0 h1 c => k _ rows tail (1 + r2) c S3 ⟨hkey, hdig, hde, ht, by omega, hfew⟩ (Nat.le_refl _) hs3 kp3
    simp only [w_ok, w_exc, w_stuck, w_bind, w_runB, w_var, got_some, w_e2, w_call, w_cons, w_nil, w_def, w_tup, w_lst, w_bool, w_notF, w_andF, w_orF, w_and, w_or, w_not, w_if, w_neg, w_star, w_aSeq, w_fld, w_frz, w_chain, w_m1, w_bm, w_iSeq, w_rg1, w_rg2, w_isi, w_wget, w_lc, w_cmet, w_met, w_mak, w_makL, w_jnil, w_jcons, w_fmt, w_sl, w_oNone, w_oSome, w_d0, w_dget, w_walk, v_nx, v_ret, v_exc, v_brk, v_cnt, v_stuck, v_seq', v_nx', v_exp, v_ret', v_retN, v_if, v_set, v_raise, v_asg, v_par, v_for, v_fld, v_dput, t_name, t_tup, t_ix, v_tryE, v_tryS, v_tryR, v_trySq, v_tryEq, v_hnil, v_hcons, w_isx, w_xf, w_enu, List.map_cons, List.map_nil, List.length_cons, List.length_nil, List.replicate_succ, List.replicate_zero, List.cons_append, List.nil_append, List.append_nil, List.getElem?_cons_zero, List.getElem?_cons_succ, List.set_cons_zero, List.set_cons_succ, Nat.reduceSub, Nat.reduceAdd, Nat.reduceLeDiff, Nat.reduceEqDiff, Nat.zero_add, Nat.sub_zero, if_true, if_false, ite_true, ite_false, Bool.false_eq_true, Bool.true_eq_false, Bool.not_true, Bool.not_false, true_implies, false_implies, implies_true, and_true, true_and, not_true_eq_false, not_false_eq_true, eC, tTrue, tgsCons, tgsNil, wipeE, reduceIte, reduceCtorEq, Option.some.injEq, eq_self, Int.cast_ofNat_Int, Int.reduceBEq, Int.reduceLT, Int.reduceLE, Int.reduceAdd, Int.reduceSub, beq_self_eq_true, decide_true, decide_false, Bool.or_false, Bool.or_true, Bool.false_or, Bool.true_or, Bool.and_true, Bool.true_and, Bool.and_false, Bool.false_and, Bool.not_not, decide_eq_true_eq, true_or, or_true, false_or, or_false, Nat.reduceLT, and_self]
    refine choose_k kp.box (by omega) (fun r1 S3 q0 q1 kp3 _ => ?_)
    simp only [eq_ii, w_ite, w_ok, w_exc, w_stuck, w_bind, w_runB, w_var, got_some, w_e2, w_call, w_cons, w_nil, w_def, w_tup, w_lst, w_bool, w_notF, w_andF, w_orF, w_and, w_or, w_not, w_if, w_neg, w_star, w_aSeq, w_fld, w_frz, w_chain, w_m1, w_bm, w_iSeq, w_rg1, w_rg2, w_isi, w_wget, w_lc, w_cmet, w_met, w_mak, w_makL, w_jnil, w_jcons, w_fmt, w_sl, w_oNone, w_oSome, w_d0, w_dget, w_walk, v_nx, v_ret, v_exc, v_brk, v_cnt, v_stuck, v_seq', v_nx', v_exp, v_ret', v_retN, v_if, v_set, v_raise, v_asg, v_par, v_for, v_fld, v_dput, t_name, t_tup, t_ix, v_tryE, v_tryS, v_tryR, v_trySq, v_tryEq, v_hnil, v_hcons, w_isx, w_xf, w_enu, List.map_cons, List.map_nil, List.length_cons, List.length_nil, List.replicate_succ, List.replicate_zero, List.cons_append, List.nil_append, List.append_nil, List.getElem?_cons_zero, List.getElem?_cons_succ, List.set_cons_zero, List.set_cons_succ, Nat.reduceSub, Nat.reduceAdd, Nat.reduceLeDiff, Nat.reduceEqDiff, Nat.zero_add, Nat.sub_zero, if_true, if_false, ite_true, ite_false, Bool.false_eq_true, Bool.true_eq_false, Bool.not_true, Bool.not_false, true_implies, false_implies, implies_true, and_true, true_and, not_true_eq_false, not_false_eq_true, eC, tTrue, tgsCons, tgsNil, wipeE, reduceIte, reduceCtorEq, Option.some.injEq, eq_self, Int.cast_ofNat_Int, Int.reduceBEq, Int.reduceLT, Int.reduceLE, Int.reduceAdd, Int.reduceSub, beq_self_eq_true, decide_true, decide_false, Bool.or_false, Bool.or_true, Bool.false_or, Bool.true_or, Bool.and_true, Bool.true_and, Bool.and_false, Bool.false_and, Bool.not_not, decide_eq_true_eq, true_or, or_true, false_or, or_false, Nat.reduceLT, and_self]
    have hs3 : S3[S.length]? = some (true, .dct (rowsD rows)) := by rw [kp3.at_ _ hlt (by omega)]; exact hs
    have hlt3 : S.length < S3.length := (List.getElem?_eq_some_iff.mp hs3).1
    have kp3 := kp.trans kp3
    refine ⟨fun _ => ?_, fun _ => ?_⟩
    · simp only [z1, w_ok, w_exc, w_stuck, w_bind, w_runB, w_var, got_some, w_e2, w_call, w_cons, w_nil, w_def, w_tup, w_lst, w_bool, w_notF, w_andF, w_orF, w_and, w_or, w_not, w_if, w_neg, w_star, w_aSeq, w_fld, w_frz, w_chain, w_m1, w_bm, w_iSeq, w_rg1, w_rg2, w_isi, w_wget, w_lc, w_cmet, w_met, w_mak, w_makL, w_jnil, w_jcons, w_fmt, w_sl, w_oNone, w_oSome, w_d0, w_dget, w_walk, v_nx, v_ret, v_exc, v_brk, v_cnt, v_stuck, v_seq', v_nx', v_exp, v_ret', v_retN, v_if, v_set, v_raise, v_asg, v_par, v_for, v_fld, v_dput, t_name, t_tup, t_ix, v_tryE, v_tryS, v_tryR, v_trySq, v_tryEq, v_hnil, v_hcons, w_isx, w_xf, w_enu, List.map_cons, List.map_nil, List.length_cons, List.length_nil, List.replicate_succ, List.replicate_zero, List.cons_append, List.nil_append, List.append_nil, List.getElem?_cons_zero, List.getElem?_cons_succ, List.set_cons_zero, List.set_cons_succ, Nat.reduceSub, Nat.reduceAdd, Nat.reduceLeDiff, Nat.reduceEqDiff, Nat.zero_add, Nat.sub_zero, if_true, if_false, ite_true, ite_false, Bool.false_eq_true, Bool.true_eq_false, Bool.not_true, Bool.not_false, true_implies, false_implies, implies_true, and_true, true_and, not_true_eq_false, not_false_eq_true, eC, tTrue, tgsCons, tgsNil, wipeE, reduceIte, reduceCtorEq, Option.some.injEq, eq_self, Int.cast_ofNat_Int, Int.reduceBEq, Int.reduceLT, Int.reduceLE, Int.reduceAdd, Int.reduceSub, beq_self_eq_true, decide_true, decide_false, Bool.or_false, Bool.or_true, Bool.false_or, Bool.true_or, Bool.and_true, Bool.true_and, Bool.and_false, Bool.false_and, Bool.not_not, decide_eq_true_eq, true_or, or_true, false_or, or_false, Nat.reduceLT, and_self]
      refine choose_k kp3.box (by omega) (fun r2 S4 p0 p1 kp4 _ => ?_)
      simp only [add_ii, w_ok, w_exc, w_stuck, w_bind, w_runB, w_var, got_some, w_e2, w_call, w_cons, w_nil, w_def, w_tup, w_lst, w_bool, w_notF, w_andF, w_orF, w_and, w_or, w_not, w_if, w_neg, w_star, w_aSeq, w_fld, w_frz, w_chain, w_m1, w_bm, w_iSeq, w_rg1, w_rg2, w_isi, w_wget, w_lc, w_cmet, w_met, w_mak, w_makL, w_jnil, w_jcons, w_fmt, w_sl, w_oNone, w_oSome, w_d0, w_dget, w_walk, v_nx, v_ret, v_exc, v_brk, v_cnt, v_stuck, v_seq', v_nx', v_exp, v_ret', v_retN, v_if, v_set, v_raise, v_asg, v_par, v_for, v_fld, v_dput, t_name, t_tup, t_ix, v_tryE, v_tryS, v_tryR, v_trySq, v_tryEq, v_hnil, v_hcons, w_isx, w_xf, w_enu, List.map_cons, List.map_nil, List.length_cons, List.length_nil, List.replicate_succ, List.replicate_zero, List.cons_append, List.nil_append, List.append_nil, List.getElem?_cons_zero, List.getElem?_cons_succ, List.set_cons_zero, List.set_cons_succ, Nat.reduceSub, Nat.reduceAdd, Nat.reduceLeDiff, Nat.reduceEqDiff, Nat.zero_add, Nat.sub_zero, if_true, if_false, ite_true, ite_false, Bool.false_eq_true, Bool.true_eq_false, Bool.not_true, Bool.not_false, true_implies, false_implies, implies_true, and_true, true_and, not_true_eq_false, not_false_eq_true, eC, tTrue, tgsCons, tgsNil, wipeE, reduceIte, reduceCtorEq, Option.some.injEq, eq_self, Int.cast_ofNat_Int, Int.reduceBEq, Int.reduceLT, Int.reduceLE, Int.reduceAdd, Int.reduceSub, beq_self_eq_true, decide_true, decide_false, Bool.or_false, Bool.or_true, Bool.false_or, Bool.true_or, Bool.and_true, Bool.true_and, Bool.and_false, Bool.false_and, Bool.not_not, decide_eq_true_eq, true_or, or_true, false_or, or_false, Nat.reduceLT, and_self]
      refine choose_k kp4.box (by omega) (fun r3 S5 _ _ kp5 _ => ?_)
      simp only [eq_ii, z5, mkL, w_ok, w_exc, w_stuck, w_bind, w_runB, w_var, got_some, w_e2, w_call, w_cons, w_nil, w_def, w_tup, w_lst, w_bool, w_notF, w_andF, w_orF, w_and, w_or, w_not, w_if, w_neg, w_star, w_aSeq, w_fld, w_frz, w_chain, w_m1, w_bm, w_iSeq, w_rg1, w_rg2, w_isi, w_wget, w_lc, w_cmet, w_met, w_mak, w_makL, w_jnil, w_jcons, w_fmt, w_sl, w_oNone, w_oSome, w_d0, w_dget, w_walk, v_nx, v_ret, v_exc, v_brk, v_cnt, v_stuck, v_seq', v_nx', v_exp, v_ret', v_retN, v_if, v_set, v_raise, v_asg, v_par, v_for, v_fld, v_dput, t_name, t_tup, t_ix, v_tryE, v_tryS, v_tryR, v_trySq, v_tryEq, v_hnil, v_hcons, w_isx, w_xf, w_enu, List.map_cons, List.map_nil, List.length_cons, List.length_nil, List.replicate_succ, List.replicate_zero, List.cons_append, List.nil_append, List.append_nil, List.getElem?_cons_zero, List.getElem?_cons_succ, List.set_cons_zero, List.set_cons_succ, Nat.reduceSub, Nat.reduceAdd, Nat.reduceLeDiff, Nat.reduceEqDiff, Nat.zero_add, Nat.sub_zero, if_true, if_false, ite_true, ite_false, Bool.false_eq_true, Bool.true_eq_false, Bool.not_true, Bool.not_false, true_implies, false_implies, implies_true, and_true, true_and, not_true_eq_false, not_false_eq_true, eC, tTrue, tgsCons, tgsNil, wipeE, reduceIte, reduceCtorEq, Option.some.injEq, eq_self, Int.cast_ofNat_Int, Int.reduceBEq, Int.reduceLT, Int.reduceLE, Int.reduceAdd, Int.reduceSub, beq_self_eq_true, decide_true, decide_false, Bool.or_false, Bool.or_true, Bool.false_or, Bool.true_or, Bool.and_true, Bool.true_and, Bool.and_false, Bool.false_and, Bool.not_not, decide_eq_true_eq, true_or, or_true, false_or, or_false, Nat.reduceLT, and_self]
      have kp5 := kp4.trans kp5
      exact fin ["out"] S5 (.inl rfl) (kp3.trans kp5) (by rw [kp5.at_ _ hlt3 (by omega)]; exact hs3) r2 p0 p1 _
    · refine deed_w kp3.box hn hn2 (fun ws S3 hw kp4 => ?_)
      try simp only [w_ok, w_exc, w_stuck, w_bind, w_runB, w_var, got_some, w_e2, w_call, w_cons, w_nil, w_def, w_tup, w_lst, w_bool, w_notF, w_andF, w_orF, w_and, w_or, w_not, w_if, w_neg, w_star, w_aSeq, w_fld, w_frz, w_chain, w_m1, w_bm, w_iSeq, w_rg1, w_rg2, w_isi, w_wget, w_lc, w_cmet, w_met, w_mak, w_makL, w_jnil, w_jcons, w_fmt, w_sl, w_oNone, w_oSome, w_d0, w_dget, w_walk, v_nx, v_ret, v_exc, v_brk, v_cnt, v_stuck, v_seq', v_nx', v_exp, v_ret', v_retN, v_if, v_set, v_raise, v_asg, v_par, v_for, v_fld, v_dput, t_name, t_tup, t_ix, v_tryE, v_tryS, v_tryR, v_trySq, v_tryEq, v_hnil, v_hcons, w_isx, w_xf, w_enu, List.map_cons, List.map_nil, List.length_cons, List.length_nil, List.replicate_succ, List.replicate_zero, List.cons_append, List.nil_append, List.append_nil, List.getElem?_cons_zero, List.getElem?_cons_succ, List.set_cons_zero, List.set_cons_succ, Nat.reduceSub, Nat.reduceAdd, Nat.reduceLeDiff, Nat.reduceEqDiff, Nat.zero_add, Nat.sub_zero, if_true, if_false, ite_true, ite_false, Bool.false_eq_true, Bool.true_eq_false, Bool.not_true, Bool.not_false, true_implies, false_implies, implies_true, and_true, true_and, not_true_eq_false, not_false_eq_true, eC, tTrue, tgsCons, tgsNil, wipeE, reduceIte, reduceCtorEq, Option.some.injEq, eq_self, Int.cast_ofNat_Int, Int.reduceBEq, Int.reduceLT, Int.reduceLE, Int.reduceAdd, Int.reduceSub, beq_self_eq_true, decide_true, decide_false, Bool.or_false, Bool.or_true, Bool.false_or, Bool.true_or, Bool.and_true, Bool.true_and, Bool.and_false, Bool.false_and, Bool.not_not, decide_eq_true_eq, true_or, or_true, false_or, or_false, Nat.reduceLT, and_self]
      have hs4 : S3[S.length]? = some (true, .dct (rowsD rows)) := by rw [kp4.at_ _ hlt3 (by omega)]; exact hs3
      have hlt4 : S.length < S3.length := (List.getElem?_eq_some_iff.mp hs4).1
      refine choose_k kp4.box (by omega) (fun r2 S4 p0 p1 kp5 _ => ?_)
      simp only [add_ii, w_ok, w_exc, w_stuck, w_bind, w_runB, w_var, got_some, w_e2, w_call, w_cons, w_nil, w_def, w_tup, w_lst, w_bool, w_notF, w_andF, w_orF, w_and, w_or, w_not, w_if, w_neg, w_star, w_aSeq, w_fld, w_frz, w_chain, w_m1, w_bm, w_iSeq, w_rg1, w_rg2, w_isi, w_wget, w_lc, w_cmet, w_met, w_mak, w_makL, w_jnil, w_jcons, w_fmt, w_sl, w_oNone, w_oSome, w_d0, w_dget, w_walk, v_nx, v_ret, v_exc, v_brk, v_cnt, v_stuck, v_seq', v_nx', v_exp, v_ret', v_retN, v_if, v_set, v_raise, v_asg, v_par, v_for, v_fld, v_dput, t_name, t_tup, t_ix, v_tryE, v_tryS, v_tryR, v_trySq, v_tryEq, v_hnil, v_hcons, w_isx, w_xf, w_enu, List.map_cons, List.map_nil, List.length_cons, List.length_nil, List.replicate_succ, List.replicate_zero, List.cons_append, List.nil_append, List.append_nil, List.getElem?_cons_zero, List.getElem?_cons_succ, List.set_cons_zero, List.set_cons_succ, Nat.reduceSub, Nat.reduceAdd, Nat.reduceLeDiff, Nat.reduceEqDiff, Nat.zero_add, Nat.sub_zero, if_true, if_false, ite_true, ite_false, Bool.false_eq_true, Bool.true_eq_false, Bool.not_true, Bool.not_false, true_implies, false_implies, implies_true, and_true, true_and, not_true_eq_false, not_false_eq_true, eC, tTrue, tgsCons, tgsNil, wipeE, reduceIte, reduceCtorEq, Option.some.injEq, eq_self, Int.cast_ofNat_Int, Int.reduceBEq, Int.reduceLT, Int.reduceLE, Int.reduceAdd, Int.reduceSub, beq_self_eq_true, decide_true, decide_false, Bool.or_false, Bool.or_true, Bool.false_or, Bool.true_or, Bool.and_true, Bool.true_and, Bool.and_false, Bool.false_and, Bool.not_not, decide_eq_true_eq, true_or, or_true, false_or, or_false, Nat.reduceLT, and_self]
      refine choose_k kp5.box (by omega) (fun r3 S5 _ _ kp6 _ => ?_)
      simp only [eq_ii, z5, mkL, w_ok, w_exc, w_stuck, w_bind, w_runB, w_var, got_some, w_e2, w_call, w_cons, w_nil, w_def, w_tup, w_lst, w_bool, w_notF, w_andF, w_orF, w_and, w_or, w_not, w_if, w_neg, w_star, w_aSeq, w_fld, w_frz, w_chain, w_m1, w_bm, w_iSeq, w_rg1, w_rg2, w_isi, w_wget, w_lc, w_cmet, w_met, w_mak, w_makL, w_jnil, w_jcons, w_fmt, w_sl, w_oNone, w_oSome, w_d0, w_dget, w_walk, v_nx, v_ret, v_exc, v_brk, v_cnt, v_stuck, v_seq', v_nx', v_exp, v_ret', v_retN, v_if, v_set, v_raise, v_asg, v_par, v_for, v_fld, v_dput, t_name, t_tup, t_ix, v_tryE, v_tryS, v_tryR, v_trySq, v_tryEq, v_hnil, v_hcons, w_isx, w_xf, w_enu, List.map_cons, List.map_nil, List.length_cons, List.length_nil, List.replicate_succ, List.replicate_zero, List.cons_append, List.nil_append, List.append_nil, List.getElem?_cons_zero, List.getElem?_cons_succ, List.set_cons_zero, List.set_cons_succ, Nat.reduceSub, Nat.reduceAdd, Nat.reduceLeDiff, Nat.reduceEqDiff, Nat.zero_add, Nat.sub_zero, if_true, if_false, ite_true, ite_false, Bool.false_eq_true, Bool.true_eq_false, Bool.not_true, Bool.not_false, true_implies, false_implies, implies_true, and_true, true_and, not_true_eq_false, not_false_eq_true, eC, tTrue, tgsCons, tgsNil, wipeE, reduceIte, reduceCtorEq, Option.some.injEq, eq_self, Int.cast_ofNat_Int, Int.reduceBEq, Int.reduceLT, Int.reduceLE, Int.reduceAdd, Int.reduceSub, beq_self_eq_true, decide_true, decide_false, Bool.or_false, Bool.or_true, Bool.false_or, Bool.true_or, Bool.and_true, Bool.true_and, Bool.and_false, Bool.false_and, Bool.not_not, decide_eq_true_eq, true_or, or_true, false_or, or_false, Nat.reduceLT, and_self]
      have kp7 := kp5.trans kp6
      exact fin ws S5 (.inr hw) ((kp3.trans kp4).trans kp7) (by rw [kp7.at_ _ hlt4 (by omega)]; exact hs4) r2 p0 p1 _
  · refine ⟨none, [], rfl, rfl, by simp, ?_, (kp0.trans kp1).trans kp2⟩
    have := kp1.len
    rw [kp2.at_ _ (by omega) (by omega), kp1.at_ _ (by omega) (by omega), hd1]
    rfl
end Fl
namespace Fl
open PySem PySem.Spec L2
open PyProof.Rows hiding St

theorem Res.wp_eq {r : Res Val} {v : Val} {S : Store} (h : r.wp (fun a S1 => a = v ∧ S1 = S) (fun _ _ _ => False)) : r = .ok v S := by
  cases r with
  | ok a S1 => obtain ⟨rfl, rfl⟩ := h.run; rfl
  | exc c fs S1 => exact h.run.elim
  | stuck => exact h.run.elim
theorem w_lenK {fk : KF} {env : Env} {S : Store} {Q : Val → Store → Prop} {X : XP} : (eLenK fk env S).wp Q X = (fk env S).wp (fun ks S1 => (if ks.length < scanBound then Res.ok (.int ks.length) S1 else .stuck).wp Q X) X := by unfold eLenK; rw [w_bind]
theorem w_sc {it : AF} {g : TF} {t : TFn} {f : EF} {vs : List Nat} {env : Env} {S : Store} {Q : List Key → Store → Prop} {X : XP} : (eSc it g t f vs env S).wp Q X = (it env S).wp (fun xs S1 => (scGo g t f (wipeE env vs) xs [] S1).wp Q X) X := by unfold eSc; rw [w_bind]
theorem sc_map {g : TF} {f : EF} {env0 : Env} {S : Store} {h : Val → Key} : ∀ {xs : List Val} {ks : List Key}, (∀ x ∈ xs, ∃ e1 y, g x env0 S = .ok e1 S ∧ f e1 S = .ok y S ∧ keyV y = some (h x)) → (ks ++ xs.map h).Nodup → ks.length + xs.length < 4096 → scGo g tTrue f env0 xs ks S = .ok (ks ++ xs.map h) S
  | [], ks, _, _, _ => by simp [scGo]
  | x :: xs, ks, hx, nd, hl => by
    obtain ⟨e1, y, h1, h2, h3⟩ := hx x List.mem_cons_self
    unfold scGo
    rw [h1]
    dsimp only [tTrue]
    rw [h2]
    dsimp only
    rw [h3]
    dsimp only
    rw [List.length_cons] at hl
    have hnm : h x ∉ ks := fun hm => (List.nodup_append.mp nd).2.2 _ hm _ List.mem_cons_self rfl
    have hi : insK ks (h x) = ks ++ [h x] := if_neg hnm
    rw [if_pos (show ks.length + 1 < scanBound from Nat.lt_of_le_of_lt (by omega) (show 4095 < scanBound by decide)), hi, sc_map (fun y hy => hx y (List.mem_cons_of_mem _ hy)) (by simpa using nd) (by rw [List.length_append]; simp; omega)]
    simp
theorem all_t {n : Nat} {S : Store} : bAll [.lst (List.replicate n (.bl true))] S = .ok (.bl true) S := by
  have e : bolsOf (List.replicate n (Val.bl true)) = some (List.replicate n true) := by
    rw [← bolsOf_map (ys := List.replicate n true), List.map_replicate]
  simp only [bAll, lstOf, lstX, e]
  simp
/-- a row -/
def rowV (p : Str × Str) : Val := .tup [.str p.1, .str p.2]
def RowOk (p : Str × Str) : Prop := ∀ S, f_is_row [rowV p] S = .ok (.bl true) S
theorem is_row_ok {d a : Str} (hd : ∀ S, f_is_digit [.str d] S = .ok (.bl true) S) (ha : ∀ S, f_is_action [.str a] S = .ok (.bl true) S) : RowOk (d, a) := by
  intro S
  apply Res.wp_eq
  unfold f_is_row b_is_row rowV
  simp only [tyK, isTup, len_t, eq_ii, ix_t (xs := [.str d, .str a]) (i := 0) (v := .str d) rfl, ix_t (xs := [.str d, .str a]) (i := 1) (v := .str a) rfl, hd, ha, w_ok, w_exc, w_stuck, w_bind, w_runB, w_var, got_some, w_e2, w_call, w_cons, w_nil, w_def, w_tup, w_lst, w_bool, w_notF, w_andF, w_orF, w_and, w_or, w_not, w_if, w_neg, w_star, w_aSeq, w_fld, w_frz, w_chain, w_m1, w_bm, w_iSeq, w_rg1, w_rg2, w_isi, w_wget, w_lc, w_cmet, w_met, w_mak, w_makL, w_jnil, w_jcons, w_fmt, w_sl, w_oNone, w_oSome, w_d0, w_dget, w_walk, v_nx, v_ret, v_exc, v_brk, v_cnt, v_stuck, v_seq', v_nx', v_exp, v_ret', v_retN, v_if, v_set, v_raise, v_asg, v_par, v_for, v_fld, v_dput, t_name, t_tup, t_ix, v_tryE, v_tryS, v_tryR, v_trySq, v_tryEq, v_hnil, v_hcons, w_isx, w_xf, w_enu, List.map_cons, List.map_nil, List.length_cons, List.length_nil, List.replicate_succ, List.replicate_zero, List.cons_append, List.nil_append, List.append_nil, List.getElem?_cons_zero, List.getElem?_cons_succ, List.set_cons_zero, List.set_cons_succ, Nat.reduceSub, Nat.reduceAdd, Nat.reduceLeDiff, Nat.reduceEqDiff, Nat.zero_add, Nat.sub_zero, if_true, if_false, ite_true, ite_false, Bool.false_eq_true, Bool.true_eq_false, Bool.not_true, Bool.not_false, true_implies, false_implies, implies_true, and_true, true_and, not_true_eq_false, not_false_eq_true, eC, tTrue, tgsCons, tgsNil, wipeE, reduceIte, reduceCtorEq, Option.some.injEq, eq_self, Int.cast_ofNat_Int, Int.reduceBEq, Int.reduceLT, Int.reduceLE, Int.reduceAdd, Int.reduceSub, beq_self_eq_true, decide_true, decide_false, Bool.or_false, Bool.or_true, Bool.false_or, Bool.true_or, Bool.and_true, Bool.true_and, Bool.and_false, Bool.false_and, Bool.not_not, decide_eq_true_eq, true_or, or_true, false_or, or_false, Nat.reduceLT, and_self]
def rowK : Val → Key
  | .tup (.str d :: _) => Sum.inr d
  | _ => Sum.inl 0
theorem are_rows_ok {ps : List (Str × Str)} {S : Store} (h : ∀ p ∈ ps, RowOk p) (nd : (ps.map (·.1)).Nodup) (hl : ps.length ≤ 1000) : f_are_rows [.lst (ps.map rowV)] S = .ok (.bl true) S := by
  apply Res.wp_eq
  unfold f_are_rows b_are_rows
  have e1 : lcGo (tgName 1) tTrue (eDef f_is_row 1 [] (aCons (eVar 1) aNil)) [some (.lst (ps.map rowV)), none] (ps.map rowV) [] S = .ok ([] ++ (ps.map rowV).map fun _ => .bl true) S := by
    refine lc_map (fun x hx => ?_) (by simp; exact small_size (by omega))
    obtain ⟨p, hp, rfl⟩ := List.mem_map.mp hx
    refine ⟨[some (.lst (ps.map rowV)), some (rowV p)], rfl, ?_⟩
    exact h p hp S
  have e2 : scGo (tgName 1) tTrue (e2 vIx (eVar 1) (eC (.int 0))) [some (.lst (ps.map rowV)), none] (ps.map rowV) [] S = .ok ([] ++ (ps.map rowV).map rowK) S := by
    refine sc_map (fun x hx => ?_) ?_ (by simp; omega)
    · obtain ⟨p, hp, rfl⟩ := List.mem_map.mp hx
      exact ⟨[some (.lst (ps.map rowV)), some (rowV p)], .str p.1, rfl, rfl, rfl⟩
    · rw [List.nil_append, List.map_map]
      have : (rowK ∘ rowV : Str × Str → Key) = fun p => Sum.inr p.1 := rfl
      rw [this]
      unfold List.Nodup at nd ⊢
      rw [List.pairwise_map] at nd ⊢
      exact nd.imp fun q e => q (Sum.inr.inj e)
  simp only [tyK, anyT, isLst, isTup, itmF, e1, mkL, List.map_const', all_t, w_lenK, w_sc, e2, len_l, w_ok, w_exc, w_stuck, w_bind, w_runB, w_var, got_some, w_e2, w_call, w_cons, w_nil, w_def, w_tup, w_lst, w_bool, w_notF, w_andF, w_orF, w_and, w_or, w_not, w_if, w_neg, w_star, w_aSeq, w_fld, w_frz, w_chain, w_m1, w_bm, w_iSeq, w_rg1, w_rg2, w_isi, w_wget, w_lc, w_cmet, w_met, w_mak, w_makL, w_jnil, w_jcons, w_fmt, w_sl, w_oNone, w_oSome, w_d0, w_dget, w_walk, v_nx, v_ret, v_exc, v_brk, v_cnt, v_stuck, v_seq', v_nx', v_exp, v_ret', v_retN, v_if, v_set, v_raise, v_asg, v_par, v_for, v_fld, v_dput, t_name, t_tup, t_ix, v_tryE, v_tryS, v_tryR, v_trySq, v_tryEq, v_hnil, v_hcons, w_isx, w_xf, w_enu, List.map_cons, List.map_nil, List.length_cons, List.length_nil, List.replicate_succ, List.replicate_zero, List.cons_append, List.nil_append, List.append_nil, List.getElem?_cons_zero, List.getElem?_cons_succ, List.set_cons_zero, List.set_cons_succ, Nat.reduceSub, Nat.reduceAdd, Nat.reduceLeDiff, Nat.reduceEqDiff, Nat.zero_add, Nat.sub_zero, if_true, if_false, ite_true, ite_false, Bool.false_eq_true, Bool.true_eq_false, Bool.not_true, Bool.not_false, true_implies, false_implies, implies_true, and_true, true_and, not_true_eq_false, not_false_eq_true, eC, tTrue, tgsCons, tgsNil, wipeE, reduceIte, reduceCtorEq, Option.some.injEq, eq_self, Int.cast_ofNat_Int, Int.reduceBEq, Int.reduceLT, Int.reduceLE, Int.reduceAdd, Int.reduceSub, beq_self_eq_true, decide_true, decide_false, Bool.or_false, Bool.or_true, Bool.false_or, Bool.true_or, Bool.and_true, Bool.true_and, Bool.and_false, Bool.false_and, Bool.not_not, decide_eq_true_eq, true_or, or_true, false_or, or_false, Nat.reduceLT, and_self]
  have hs : (ps.map rowV).length < scanBound := Nat.lt_of_le_of_lt (by simpa using hl) (show 1000 < scanBound by decide)
  have hs' : ps.length < scanBound := by simpa using hs
  simp only [List.length_map, hs', eq_ii, w_ok, w_exc, w_stuck, w_bind, w_runB, w_var, got_some, w_e2, w_call, w_cons, w_nil, w_def, w_tup, w_lst, w_bool, w_notF, w_andF, w_orF, w_and, w_or, w_not, w_if, w_neg, w_star, w_aSeq, w_fld, w_frz, w_chain, w_m1, w_bm, w_iSeq, w_rg1, w_rg2, w_isi, w_wget, w_lc, w_cmet, w_met, w_mak, w_makL, w_jnil, w_jcons, w_fmt, w_sl, w_oNone, w_oSome, w_d0, w_dget, w_walk, v_nx, v_ret, v_exc, v_brk, v_cnt, v_stuck, v_seq', v_nx', v_exp, v_ret', v_retN, v_if, v_set, v_raise, v_asg, v_par, v_for, v_fld, v_dput, t_name, t_tup, t_ix, v_tryE, v_tryS, v_tryR, v_trySq, v_tryEq, v_hnil, v_hcons, w_isx, w_xf, w_enu, List.map_cons, List.map_nil, List.length_cons, List.length_nil, List.replicate_succ, List.replicate_zero, List.cons_append, List.nil_append, List.append_nil, List.getElem?_cons_zero, List.getElem?_cons_succ, List.set_cons_zero, List.set_cons_succ, Nat.reduceSub, Nat.reduceAdd, Nat.reduceLeDiff, Nat.reduceEqDiff, Nat.zero_add, Nat.sub_zero, if_true, if_false, ite_true, ite_false, Bool.false_eq_true, Bool.true_eq_false, Bool.not_true, Bool.not_false, true_implies, false_implies, implies_true, and_true, true_and, not_true_eq_false, not_false_eq_true, eC, tTrue, tgsCons, tgsNil, wipeE, reduceIte, reduceCtorEq, Option.some.injEq, eq_self, Int.cast_ofNat_Int, Int.reduceBEq, Int.reduceLT, Int.reduceLE, Int.reduceAdd, Int.reduceSub, beq_self_eq_true, decide_true, decide_false, Bool.or_false, Bool.or_true, Bool.false_or, Bool.true_or, Bool.and_true, Bool.true_and, Bool.and_false, Bool.false_and, Bool.not_not, decide_eq_true_eq, true_or, or_true, false_or, or_false, Nat.reduceLT, and_self]
theorem rangeV_cons {a b : Int} (h : a < b) : rangeV a b = .int a :: rangeV (a + 1) b := by
  unfold rangeV
  have e : (b - a).toNat = (b - (a + 1)).toNat + 1 := by omega
  rw [e, List.range_succ_eq_map, List.map_cons, List.map_map]
  congr 1
  · simp
  · apply List.map_congr_left
    intro i _
    simp only [Function.comp]
    congr 1
    omega
end Fl
namespace Fl
open PySem PySem.Spec L2
open PyProof.Rows hiding St

/-- a line that is a row -/
structure LineOk (l : Str) (p : Str × Str) : Prop where
  part : ∀ S, mPart (.str l) [.str " "] S = .ok (.tup [.str p.1, .str " ", .str p.2]) S
  row : RowOk p
  ne : ∀ S, vEq (.str p.1) (.str "else") S = .ok (.bl false) S
theorem read_part_ok {L : List Str} {start : Nat} {h nm tl a : Str} {t : Int} {c : Bool} {ps : List (Str × Str)} {S : Store} (hL : L.length ≤ 100000)
    (hh : L[start]? = some h) (H : ∀ S, f_read_head [.str h] S = .ok (.tup [.str nm, .int t, .bl c]) S)
    (hr : ∀ j p, ps[j]? = some p → ∃ l, L[start + 1 + j]? = some l ∧ LineOk l p) (nd : (ps.map (·.1)).Nodup) (hp : ps.length ≤ 1000)
    (ht : L[start + 1 + ps.length]? = some tl) (T : ∀ S, mPart (.str tl) [.str " "] S = .ok (.tup [.str "else", .str " ", .str a]) S) (A : ∀ S, f_is_action [.str a] S = .ok (.bl true) S) :
    f_read_part [.lst (L.map Val.str), .int start] S = .ok (.tup [.tup [.str nm, .lst (ps.map rowV), .str a, .int t, .bl c], .int ((start + ps.length + 2 : Nat) : Int)]) S := by
  apply Res.wp_eq
  unfold f_read_part b_read_part
  have z5 : 5 ≤ sizeLine := small_size (by decide)
  have z2 : 2 ≤ sizeLine := small_size (by decide)
  have hlt : start + 1 + ps.length < L.length := (List.getElem?_eq_some_iff.mp ht).1
  have ix : ∀ {j : Nat} {l : Str} {S : Store}, L[j]? = some l → vIx (.lst (L.map Val.str)) (.int j) S = .ok (.str l) S := fun {j l S} e => by
    refine ix_l ?_
    have hj : j < (L.map Val.str).length := by rw [List.length_map]; exact (List.getElem?_eq_some_iff.mp e).1
    rw [atI_nat hj]
    have := (List.getElem?_eq_some_iff.mp e).2
    simp [this]
  have r2 : ∀ S, rg2F [.int (start + 1 : Int), .int ((L.map Val.str).length : Int)] S = .ok (rangeV (start + 1 : Int) ((L.map Val.str).length : Int)) S := fun S => rg2_i (by omega) (by omega) (by omega) (by rw [List.length_map]; omega)
  simp only [ix hh, H, vIsN, isNonV, seqOf, add_ii, len_l, r2, mkL, Nat.zero_le, w_ok, w_exc, w_stuck, w_bind, w_runB, w_var, got_some, w_e2, w_call, w_cons, w_nil, w_def, w_tup, w_lst, w_bool, w_notF, w_andF, w_orF, w_and, w_or, w_not, w_if, w_neg, w_star, w_aSeq, w_fld, w_frz, w_chain, w_m1, w_bm, w_iSeq, w_rg1, w_rg2, w_isi, w_wget, w_lc, w_cmet, w_met, w_mak, w_makL, w_jnil, w_jcons, w_fmt, w_sl, w_oNone, w_oSome, w_d0, w_dget, w_walk, v_nx, v_ret, v_exc, v_brk, v_cnt, v_stuck, v_seq', v_nx', v_exp, v_ret', v_retN, v_if, v_set, v_raise, v_asg, v_par, v_for, v_fld, v_dput, t_name, t_tup, t_ix, v_tryE, v_tryS, v_tryR, v_trySq, v_tryEq, v_hnil, v_hcons, w_isx, w_xf, w_enu, List.map_cons, List.map_nil, List.length_cons, List.length_nil, List.replicate_succ, List.replicate_zero, List.cons_append, List.nil_append, List.append_nil, List.getElem?_cons_zero, List.getElem?_cons_succ, List.set_cons_zero, List.set_cons_succ, Nat.reduceSub, Nat.reduceAdd, Nat.reduceLeDiff, Nat.reduceEqDiff, Nat.zero_add, Nat.sub_zero, if_true, if_false, ite_true, ite_false, Bool.false_eq_true, Bool.true_eq_false, Bool.not_true, Bool.not_false, true_implies, false_implies, implies_true, and_true, true_and, not_true_eq_false, not_false_eq_true, eC, tTrue, tgsCons, tgsNil, wipeE, reduceIte, reduceCtorEq, Option.some.injEq, eq_self, Int.cast_ofNat_Int, Int.reduceBEq, Int.reduceLT, Int.reduceLE, Int.reduceAdd, Int.reduceSub, beq_self_eq_true, decide_true, decide_false, Bool.or_false, Bool.or_true, Bool.false_or, Bool.true_or, Bool.and_true, Bool.true_and, Bool.and_false, Bool.false_and, Bool.not_not, decide_eq_true_eq, true_or, or_true, false_or, or_false, Nat.reduceLT, and_self]
  refine v_forGo (I := fun rest env S' => S' = S ∧ ∃ k x7 x8 x9 x10, k ≤ ps.length ∧ env = [some (.lst (L.map Val.str)), some (.int start), some (.tup [.str nm, .int t, .bl c]), some (.str nm), some (.int t), some (.bl c), some (.lst ((ps.take k).map rowV)), x7, x8, x9, x10] ∧
    rest = rangeV (start + 1 + (k : Int)) ((L.map Val.str).length : Int)) ?_ ?_ ?_
  · rintro x rest env S' ⟨rfl, k, x7, x8, x9, x10, hk, rfl, hrest⟩
    have hkl : (start + 1 + (k : Int)) < ((L.map Val.str).length : Int) := by rw [List.length_map]; omega
    rw [rangeV_cons hkl] at hrest
    obtain ⟨rfl, hre⟩ := List.cons.inj hrest
    clear hrest
    have ec : (start : Int) + 1 + (k : Int) = ((start + 1 + k : Nat) : Int) := by omega
    rw [ec] at hre ⊢
    by_cases hkp : k < ps.length
    · obtain ⟨l, hl, lo⟩ := hr k ps[k] (by rw [List.getElem?_eq_getElem hkp])
      have et : (ps.take k).map rowV ++ [Val.tup [.str ps[k].1, .str ps[k].2]] = (ps.take (k + 1)).map rowV := by
        rw [List.take_succ_eq_append_getElem hkp, List.map_append]; rfl
      have hsz : ((ps.take (k + 1)).map rowV).length ≤ sizeLine := small_size (by simp; omega)
      have hsz2 : ((ps.take k).map rowV).length + 1 ≤ sizeLine := small_size (by simp; omega)
      have ha : f_are_rows [.lst ((ps.take (k + 1)).map rowV)] S' = .ok (.bl true) S' := are_rows_ok (fun p hp' => by
        obtain ⟨j, hj⟩ := List.mem_iff_getElem?.mp (List.mem_of_mem_take hp')
        exact (hr j p hj).choose_spec.2.row) (by
        rw [List.map_take]
        exact (List.take_sublist _ _).nodup nd) (by simp; omega)
      simp only [ix hl, lo.part, seqOf, lo.ne, lstOf, lstX, et, List.length_append, hsz2, z2, mkL, ha, w_ok, w_exc, w_stuck, w_bind, w_runB, w_var, got_some, w_e2, w_call, w_cons, w_nil, w_def, w_tup, w_lst, w_bool, w_notF, w_andF, w_orF, w_and, w_or, w_not, w_if, w_neg, w_star, w_aSeq, w_fld, w_frz, w_chain, w_m1, w_bm, w_iSeq, w_rg1, w_rg2, w_isi, w_wget, w_lc, w_cmet, w_met, w_mak, w_makL, w_jnil, w_jcons, w_fmt, w_sl, w_oNone, w_oSome, w_d0, w_dget, w_walk, v_nx, v_ret, v_exc, v_brk, v_cnt, v_stuck, v_seq', v_nx', v_exp, v_ret', v_retN, v_if, v_set, v_raise, v_asg, v_par, v_for, v_fld, v_dput, t_name, t_tup, t_ix, v_tryE, v_tryS, v_tryR, v_trySq, v_tryEq, v_hnil, v_hcons, w_isx, w_xf, w_enu, List.map_cons, List.map_nil, List.length_cons, List.length_nil, List.replicate_succ, List.replicate_zero, List.cons_append, List.nil_append, List.append_nil, List.getElem?_cons_zero, List.getElem?_cons_succ, List.set_cons_zero, List.set_cons_succ, Nat.reduceSub, Nat.reduceAdd, Nat.reduceLeDiff, Nat.reduceEqDiff, Nat.zero_add, Nat.sub_zero, if_true, if_false, ite_true, ite_false, Bool.false_eq_true, Bool.true_eq_false, Bool.not_true, Bool.not_false, true_implies, false_implies, implies_true, and_true, true_and, not_true_eq_false, not_false_eq_true, eC, tTrue, tgsCons, tgsNil, wipeE, reduceIte, reduceCtorEq, Option.some.injEq, eq_self, Int.cast_ofNat_Int, Int.reduceBEq, Int.reduceLT, Int.reduceLE, Int.reduceAdd, Int.reduceSub, beq_self_eq_true, decide_true, decide_false, Bool.or_false, Bool.or_true, Bool.false_or, Bool.true_or, Bool.and_true, Bool.true_and, Bool.and_false, Bool.false_and, Bool.not_not, decide_eq_true_eq, true_or, or_true, false_or, or_false, Nat.reduceLT, and_self]
      exact ⟨k + 1, _, _, _, _, by omega, rfl, by rw [hre]; congr 1⟩
    · have hke : k = ps.length := by omega
      subst hke
      have he : ∀ S, vEq (.str "else") (.str "else") S = .ok (.bl true) S := fun S => by kernel_rfl
      simp only [ix ht, T, seqOf, he, A, z2, z5, add_ii, List.take_length, w_ok, w_exc, w_stuck, w_bind, w_runB, w_var, got_some, w_e2, w_call, w_cons, w_nil, w_def, w_tup, w_lst, w_bool, w_notF, w_andF, w_orF, w_and, w_or, w_not, w_if, w_neg, w_star, w_aSeq, w_fld, w_frz, w_chain, w_m1, w_bm, w_iSeq, w_rg1, w_rg2, w_isi, w_wget, w_lc, w_cmet, w_met, w_mak, w_makL, w_jnil, w_jcons, w_fmt, w_sl, w_oNone, w_oSome, w_d0, w_dget, w_walk, v_nx, v_ret, v_exc, v_brk, v_cnt, v_stuck, v_seq', v_nx', v_exp, v_ret', v_retN, v_if, v_set, v_raise, v_asg, v_par, v_for, v_fld, v_dput, t_name, t_tup, t_ix, v_tryE, v_tryS, v_tryR, v_trySq, v_tryEq, v_hnil, v_hcons, w_isx, w_xf, w_enu, List.map_cons, List.map_nil, List.length_cons, List.length_nil, List.replicate_succ, List.replicate_zero, List.cons_append, List.nil_append, List.append_nil, List.getElem?_cons_zero, List.getElem?_cons_succ, List.set_cons_zero, List.set_cons_succ, Nat.reduceSub, Nat.reduceAdd, Nat.reduceLeDiff, Nat.reduceEqDiff, Nat.zero_add, Nat.sub_zero, if_true, if_false, ite_true, ite_false, Bool.false_eq_true, Bool.true_eq_false, Bool.not_true, Bool.not_false, true_implies, false_implies, implies_true, and_true, true_and, not_true_eq_false, not_false_eq_true, eC, tTrue, tgsCons, tgsNil, wipeE, reduceIte, reduceCtorEq, Option.some.injEq, eq_self, Int.cast_ofNat_Int, Int.reduceBEq, Int.reduceLT, Int.reduceLE, Int.reduceAdd, Int.reduceSub, beq_self_eq_true, decide_true, decide_false, Bool.or_false, Bool.or_true, Bool.false_or, Bool.true_or, Bool.and_true, Bool.true_and, Bool.and_false, Bool.false_and, Bool.not_not, decide_eq_true_eq, true_or, or_true, false_or, or_false, Nat.reduceLT, and_self]
      rw [show ((start + 1 + ps.length : Nat) : Int) + 1 = ((start + ps.length + 2 : Nat) : Int) from by omega]
  · rintro env S' ⟨rfl, k, x7, x8, x9, x10, hk, rfl, hrest⟩
    exfalso
    have := congrArg List.length hrest
    simp [rangeV] at this
    omega
  · exact ⟨rfl, 0, none, none, none, none, Nat.zero_le _, rfl, by simp⟩
end Fl
namespace Fl
open PySem PySem.Spec L2
open PyProof.Rows hiding St

theorem get_last {S : Store} {a : Bool × Cel} : (S ++ [a])[S.length]? = some a := by simp
theorem set_last {S : Store} {a b : Bool × Cel} : (S ++ [a]).set S.length b = S ++ [b] := by simp
/-- a menu's fields -/
def menuF (nm : Str) (ps : List (Str × Str)) (a : Str) (t : Int) (c : Bool) : List (Str × Val) := [("name", .str nm), ("rows", .tup (sortV (ps.map rowV))), ("tail", .str a), ("tries", .int t), ("clears", .bl c)]
theorem toDs_rows : ∀ ps : List (Str × Str), toDs (ps.map rowV) = some (ps.map fun p => PyData.tuple [.str p.1, .str p.2])
  | [] => rfl
  | p :: ps => by
    rw [List.map_cons, toDs, toDs_rows ps]
    rfl
theorem sorted_rows {ps : List (Str × Str)} {S : Store} (hl : ps.length ≤ 1000) : bSorted false [.lst (ps.map rowV)] S = .ok (.lst (sortV (ps.map rowV))) S := by
  have h1 : alikeB (ps.map fun p => PyData.tuple [.str p.1, .str p.2]) = true := by
    simp [alikeB, PySem.W.alike, PySem.W.alikeAll]
  have h2 : sortableB (ps.map fun p => PyData.tuple [.str p.1, .str p.2]) = true := by
    simp [sortableB]
  have h3 : decide ((ps.map fun p => PyData.tuple [.str p.1, .str p.2]).length ≤ sizeLine) = true := decide_eq_true (small_size (by simp; omega))
  have h4 : (ps.map fun p => PyData.tuple [.str p.1, .str p.2]).all (fun d => decide (d.depth ≤ 60)) = true := by
    simp [PyData.depth, PyData.depthAll]
  simp only [bSorted, seqOf, lstOf, lstX, toDs_rows, h1, h2, h3, h4, Bool.and_self, if_true]
  rfl
theorem sortV_len (xs : List Val) : (sortV xs).length = xs.length := by rw [sortV_eq, List.length_mergeSort]
/-- names and actions that are such -/
def NameOk (x : Str) : Prop := ∀ S, f_is_name [.str x] S = .ok (.bl true) S
def ActOk (x : Str) : Prop := ∀ S, f_is_action [.str x] S = .ok (.bl true) S
theorem are_tries_ok {t : Int} (ht : 1 ≤ t) {S : Store} : f_are_tries [.int t] S = .ok (.bl true) S := by
  apply Res.wp_eq
  unfold f_are_tries b_are_tries
  simp only [tyK, isInt, isBl, ge_ii, ht, w_ok, w_exc, w_stuck, w_bind, w_runB, w_var, got_some, w_e2, w_call, w_cons, w_nil, w_def, w_tup, w_lst, w_bool, w_notF, w_andF, w_orF, w_and, w_or, w_not, w_if, w_neg, w_star, w_aSeq, w_fld, w_frz, w_chain, w_m1, w_bm, w_iSeq, w_rg1, w_rg2, w_isi, w_wget, w_lc, w_cmet, w_met, w_mak, w_makL, w_jnil, w_jcons, w_fmt, w_sl, w_oNone, w_oSome, w_d0, w_dget, w_walk, v_nx, v_ret, v_exc, v_brk, v_cnt, v_stuck, v_seq', v_nx', v_exp, v_ret', v_retN, v_if, v_set, v_raise, v_asg, v_par, v_for, v_fld, v_dput, t_name, t_tup, t_ix, v_tryE, v_tryS, v_tryR, v_trySq, v_tryEq, v_hnil, v_hcons, w_isx, w_xf, w_enu, List.map_cons, List.map_nil, List.length_cons, List.length_nil, List.replicate_succ, List.replicate_zero, List.cons_append, List.nil_append, List.append_nil, List.getElem?_cons_zero, List.getElem?_cons_succ, List.set_cons_zero, List.set_cons_succ, Nat.reduceSub, Nat.reduceAdd, Nat.reduceLeDiff, Nat.reduceEqDiff, Nat.zero_add, Nat.sub_zero, if_true, if_false, ite_true, ite_false, Bool.false_eq_true, Bool.true_eq_false, Bool.not_true, Bool.not_false, true_implies, false_implies, implies_true, and_true, true_and, not_true_eq_false, not_false_eq_true, eC, tTrue, tgsCons, tgsNil, wipeE, reduceIte, reduceCtorEq, Option.some.injEq, eq_self, Int.cast_ofNat_Int, Int.reduceBEq, Int.reduceLT, Int.reduceLE, Int.reduceAdd, Int.reduceSub, beq_self_eq_true, decide_true, decide_false, Bool.or_false, Bool.or_true, Bool.false_or, Bool.true_or, Bool.and_true, Bool.true_and, Bool.and_false, Bool.false_and, Bool.not_not, decide_eq_true_eq, true_or, or_true, false_or, or_false, Nat.reduceLT, and_self]
theorem wrong_none {nm a : Str} {ps : List (Str × Str)} {t : Int} {c : Bool} {S : Store} (hn : NameOk nm) (hr : ∀ S, f_are_rows [.lst (ps.map rowV)] S = .ok (.bl true) S) (ha : ActOk a) (ht : 1 ≤ t) :
    f_wrong_argument [.str nm, .lst (ps.map rowV), .str a, .int t, .bl c] S = .ok .non S := by
  apply Res.wp_eq
  unfold f_wrong_argument b_wrong_argument
  have z5 : 5 ≤ sizeLine := small_size (by decide)
  have z2 : 2 ≤ sizeLine := small_size (by decide)
  simp only [hn _, hr, ha _, are_tries_ok ht, tyK, isBl, z5, z2, itmF, w_ok, w_exc, w_stuck, w_bind, w_runB, w_var, got_some, w_e2, w_call, w_cons, w_nil, w_def, w_tup, w_lst, w_bool, w_notF, w_andF, w_orF, w_and, w_or, w_not, w_if, w_neg, w_star, w_aSeq, w_fld, w_frz, w_chain, w_m1, w_bm, w_iSeq, w_rg1, w_rg2, w_isi, w_wget, w_lc, w_cmet, w_met, w_mak, w_makL, w_jnil, w_jcons, w_fmt, w_sl, w_oNone, w_oSome, w_d0, w_dget, w_walk, v_nx, v_ret, v_exc, v_brk, v_cnt, v_stuck, v_seq', v_nx', v_exp, v_ret', v_retN, v_if, v_set, v_raise, v_asg, v_par, v_for, v_fld, v_dput, t_name, t_tup, t_ix, v_tryE, v_tryS, v_tryR, v_trySq, v_tryEq, v_hnil, v_hcons, w_isx, w_xf, w_enu, List.map_cons, List.map_nil, List.length_cons, List.length_nil, List.replicate_succ, List.replicate_zero, List.cons_append, List.nil_append, List.append_nil, List.getElem?_cons_zero, List.getElem?_cons_succ, List.set_cons_zero, List.set_cons_succ, Nat.reduceSub, Nat.reduceAdd, Nat.reduceLeDiff, Nat.reduceEqDiff, Nat.zero_add, Nat.sub_zero, if_true, if_false, ite_true, ite_false, Bool.false_eq_true, Bool.true_eq_false, Bool.not_true, Bool.not_false, true_implies, false_implies, implies_true, and_true, true_and, not_true_eq_false, not_false_eq_true, eC, tTrue, tgsCons, tgsNil, wipeE, reduceIte, reduceCtorEq, Option.some.injEq, eq_self, Int.cast_ofNat_Int, Int.reduceBEq, Int.reduceLT, Int.reduceLE, Int.reduceAdd, Int.reduceSub, beq_self_eq_true, decide_true, decide_false, Bool.or_false, Bool.or_true, Bool.false_or, Bool.true_or, Bool.and_true, Bool.true_and, Bool.and_false, Bool.false_and, Bool.not_not, decide_eq_true_eq, true_or, or_true, false_or, or_false, Nat.reduceLT, and_self]
  refine v_forGo (I := fun rest env S' => S' = S ∧ (∃ v x6 x7, env = [some (.str nm), some (.lst (ps.map rowV)), some (.str a), some (.int t), some (.bl c), v, x6, x7]) ∧ ∀ x ∈ rest, ∃ s, x = .tup [.str s, .bl true]) ?_ ?_ ⟨rfl, ⟨_, _, _, rfl⟩, by simp⟩
  · rintro x rest env S' ⟨rfl, ⟨v, x6, x7, rfl⟩, h⟩
    obtain ⟨s, rfl⟩ := h x List.mem_cons_self
    simp only [seqOf, w_ok, w_exc, w_stuck, w_bind, w_runB, w_var, got_some, w_e2, w_call, w_cons, w_nil, w_def, w_tup, w_lst, w_bool, w_notF, w_andF, w_orF, w_and, w_or, w_not, w_if, w_neg, w_star, w_aSeq, w_fld, w_frz, w_chain, w_m1, w_bm, w_iSeq, w_rg1, w_rg2, w_isi, w_wget, w_lc, w_cmet, w_met, w_mak, w_makL, w_jnil, w_jcons, w_fmt, w_sl, w_oNone, w_oSome, w_d0, w_dget, w_walk, v_nx, v_ret, v_exc, v_brk, v_cnt, v_stuck, v_seq', v_nx', v_exp, v_ret', v_retN, v_if, v_set, v_raise, v_asg, v_par, v_for, v_fld, v_dput, t_name, t_tup, t_ix, v_tryE, v_tryS, v_tryR, v_trySq, v_tryEq, v_hnil, v_hcons, w_isx, w_xf, w_enu, List.map_cons, List.map_nil, List.length_cons, List.length_nil, List.replicate_succ, List.replicate_zero, List.cons_append, List.nil_append, List.append_nil, List.getElem?_cons_zero, List.getElem?_cons_succ, List.set_cons_zero, List.set_cons_succ, Nat.reduceSub, Nat.reduceAdd, Nat.reduceLeDiff, Nat.reduceEqDiff, Nat.zero_add, Nat.sub_zero, if_true, if_false, ite_true, ite_false, Bool.false_eq_true, Bool.true_eq_false, Bool.not_true, Bool.not_false, true_implies, false_implies, implies_true, and_true, true_and, not_true_eq_false, not_false_eq_true, eC, tTrue, tgsCons, tgsNil, wipeE, reduceIte, reduceCtorEq, Option.some.injEq, eq_self, Int.cast_ofNat_Int, Int.reduceBEq, Int.reduceLT, Int.reduceLE, Int.reduceAdd, Int.reduceSub, beq_self_eq_true, decide_true, decide_false, Bool.or_false, Bool.or_true, Bool.false_or, Bool.true_or, Bool.and_true, Bool.true_and, Bool.and_false, Bool.false_and, Bool.not_not, decide_eq_true_eq, true_or, or_true, false_or, or_false, Nat.reduceLT, and_self]
    exact ⟨⟨_, _, _, rfl⟩, fun y hy => h y (List.mem_cons_of_mem _ hy)⟩
  · rintro env S' ⟨rfl, _, h⟩
    simp only [w_ok, w_exc, w_stuck, w_bind, w_runB, w_var, got_some, w_e2, w_call, w_cons, w_nil, w_def, w_tup, w_lst, w_bool, w_notF, w_andF, w_orF, w_and, w_or, w_not, w_if, w_neg, w_star, w_aSeq, w_fld, w_frz, w_chain, w_m1, w_bm, w_iSeq, w_rg1, w_rg2, w_isi, w_wget, w_lc, w_cmet, w_met, w_mak, w_makL, w_jnil, w_jcons, w_fmt, w_sl, w_oNone, w_oSome, w_d0, w_dget, w_walk, v_nx, v_ret, v_exc, v_brk, v_cnt, v_stuck, v_seq', v_nx', v_exp, v_ret', v_retN, v_if, v_set, v_raise, v_asg, v_par, v_for, v_fld, v_dput, t_name, t_tup, t_ix, v_tryE, v_tryS, v_tryR, v_trySq, v_tryEq, v_hnil, v_hcons, w_isx, w_xf, w_enu, List.map_cons, List.map_nil, List.length_cons, List.length_nil, List.replicate_succ, List.replicate_zero, List.cons_append, List.nil_append, List.append_nil, List.getElem?_cons_zero, List.getElem?_cons_succ, List.set_cons_zero, List.set_cons_succ, Nat.reduceSub, Nat.reduceAdd, Nat.reduceLeDiff, Nat.reduceEqDiff, Nat.zero_add, Nat.sub_zero, if_true, if_false, ite_true, ite_false, Bool.false_eq_true, Bool.true_eq_false, Bool.not_true, Bool.not_false, true_implies, false_implies, implies_true, and_true, true_and, not_true_eq_false, not_false_eq_true, eC, tTrue, tgsCons, tgsNil, wipeE, reduceIte, reduceCtorEq, Option.some.injEq, eq_self, Int.cast_ofNat_Int, Int.reduceBEq, Int.reduceLT, Int.reduceLE, Int.reduceAdd, Int.reduceSub, beq_self_eq_true, decide_true, decide_false, Bool.or_false, Bool.or_true, Bool.false_or, Bool.true_or, Bool.and_true, Bool.true_and, Bool.and_false, Bool.false_and, Bool.not_not, decide_eq_true_eq, true_or, or_true, false_or, or_false, Nat.reduceLT, and_self]
theorem menu_init_ok {nm a : Str} {ps : List (Str × Str)} {t : Int} {c : Bool} {S : Store} (hn : NameOk nm) (hr : ∀ S, f_are_rows [.lst (ps.map rowV)] S = .ok (.bl true) S) (hl : ps.length ≤ 1000) (ha : ActOk a) (ht : 1 ≤ t) :
    f_Menu_init [.ref S.length, .str nm, .lst (ps.map rowV), .str a, .int t, .bl c] (S ++ [(true, .ins "Menu" [])]) = .ok .non (S ++ [(true, .ins "Menu" (menuF nm ps a t c))]) := by
  apply Res.wp_eq
  unfold f_Menu_init b_Menu_init
  simp only [wrong_none hn hr ha ht, vNotN, isNonV, w_ok, w_exc, w_stuck, w_bind, w_runB, w_var, got_some, w_e2, w_call, w_cons, w_nil, w_def, w_tup, w_lst, w_bool, w_notF, w_andF, w_orF, w_and, w_or, w_not, w_if, w_neg, w_star, w_aSeq, w_fld, w_frz, w_chain, w_m1, w_bm, w_iSeq, w_rg1, w_rg2, w_isi, w_wget, w_lc, w_cmet, w_met, w_mak, w_makL, w_jnil, w_jcons, w_fmt, w_sl, w_oNone, w_oSome, w_d0, w_dget, w_walk, v_nx, v_ret, v_exc, v_brk, v_cnt, v_stuck, v_seq', v_nx', v_exp, v_ret', v_retN, v_if, v_set, v_raise, v_asg, v_par, v_for, v_fld, v_dput, t_name, t_tup, t_ix, v_tryE, v_tryS, v_tryR, v_trySq, v_tryEq, v_hnil, v_hcons, w_isx, w_xf, w_enu, List.map_cons, List.map_nil, List.length_cons, List.length_nil, List.replicate_succ, List.replicate_zero, List.cons_append, List.nil_append, List.append_nil, List.getElem?_cons_zero, List.getElem?_cons_succ, List.set_cons_zero, List.set_cons_succ, Nat.reduceSub, Nat.reduceAdd, Nat.reduceLeDiff, Nat.reduceEqDiff, Nat.zero_add, Nat.sub_zero, if_true, if_false, ite_true, ite_false, Bool.false_eq_true, Bool.true_eq_false, Bool.not_true, Bool.not_false, true_implies, false_implies, implies_true, and_true, true_and, not_true_eq_false, not_false_eq_true, eC, tTrue, tgsCons, tgsNil, wipeE, reduceIte, reduceCtorEq, Option.some.injEq, eq_self, Int.cast_ofNat_Int, Int.reduceBEq, Int.reduceLT, Int.reduceLE, Int.reduceAdd, Int.reduceSub, beq_self_eq_true, decide_true, decide_false, Bool.or_false, Bool.or_true, Bool.false_or, Bool.true_or, Bool.and_true, Bool.true_and, Bool.and_false, Bool.false_and, Bool.not_not, decide_eq_true_eq, true_or, or_true, false_or, or_false, Nat.reduceLT, and_self]
  have p0 : ∀ f y env, putAt f none (.ref S.length) y env (S ++ [(true, .ins "Menu" [])]) = .nx env (S ++ [(true, .ins "Menu" (putV f y []))]) := fun f y env => by rw [put_r get_last (by decide), set_last]
  have p1 : ∀ f y env fs, fs.length < 1000 → putAt f none (.ref S.length) y env (S ++ [(true, .ins "Menu" fs)]) = .nx env (S ++ [(true, .ins "Menu" (putV f y fs))]) := fun f y env fs h => by rw [put_r get_last h, set_last]
  have f1 : putV "name" (.str nm) [] = ([("name", .str nm)] : List (Str × Val)) := by kernel_rfl
  have f2 : ∀ v, putV "rows" v ([("name", .str nm)] : List (Str × Val)) = ([("name", .str nm), ("rows", v)] : List (Str × Val)) := fun v => by kernel_rfl
  have f3 : ∀ v, putV "tail" (.str a) ([("name", .str nm), ("rows", v)] : List (Str × Val)) = ([("name", .str nm), ("rows", v), ("tail", .str a)] : List (Str × Val)) := fun v => by kernel_rfl
  have f4 : ∀ v, putV "tries" (.int t) ([("name", .str nm), ("rows", v), ("tail", .str a)] : List (Str × Val)) = ([("name", .str nm), ("rows", v), ("tail", .str a), ("tries", .int t)] : List (Str × Val)) := fun v => by kernel_rfl
  have f5 : ∀ v, putV "clears" (.bl c) ([("name", .str nm), ("rows", v), ("tail", .str a), ("tries", .int t)] : List (Str × Val)) = ([("name", .str nm), ("rows", v), ("tail", .str a), ("tries", .int t), ("clears", .bl c)] : List (Str × Val)) := fun v => by kernel_rfl
  have bt : ∀ xs S, bTup [.lst xs] S = .ok (.tup xs) S := fun xs S => by simp only [bTup, seqOf, lstOf, lstX]
  simp only [p1, f1, f2, f3, f4, f5, sorted_rows hl, bt, menuF, w_ok, w_exc, w_stuck, w_bind, w_runB, w_var, got_some, w_e2, w_call, w_cons, w_nil, w_def, w_tup, w_lst, w_bool, w_notF, w_andF, w_orF, w_and, w_or, w_not, w_if, w_neg, w_star, w_aSeq, w_fld, w_frz, w_chain, w_m1, w_bm, w_iSeq, w_rg1, w_rg2, w_isi, w_wget, w_lc, w_cmet, w_met, w_mak, w_makL, w_jnil, w_jcons, w_fmt, w_sl, w_oNone, w_oSome, w_d0, w_dget, w_walk, v_nx, v_ret, v_exc, v_brk, v_cnt, v_stuck, v_seq', v_nx', v_exp, v_ret', v_retN, v_if, v_set, v_raise, v_asg, v_par, v_for, v_fld, v_dput, t_name, t_tup, t_ix, v_tryE, v_tryS, v_tryR, v_trySq, v_tryEq, v_hnil, v_hcons, w_isx, w_xf, w_enu, List.map_cons, List.map_nil, List.length_cons, List.length_nil, List.replicate_succ, List.replicate_zero, List.cons_append, List.nil_append, List.append_nil, List.getElem?_cons_zero, List.getElem?_cons_succ, List.set_cons_zero, List.set_cons_succ, Nat.reduceSub, Nat.reduceAdd, Nat.reduceLeDiff, Nat.reduceEqDiff, Nat.zero_add, Nat.sub_zero, if_true, if_false, ite_true, ite_false, Bool.false_eq_true, Bool.true_eq_false, Bool.not_true, Bool.not_false, true_implies, false_implies, implies_true, and_true, true_and, not_true_eq_false, not_false_eq_true, eC, tTrue, tgsCons, tgsNil, wipeE, reduceIte, reduceCtorEq, Option.some.injEq, eq_self, Int.cast_ofNat_Int, Int.reduceBEq, Int.reduceLT, Int.reduceLE, Int.reduceAdd, Int.reduceSub, beq_self_eq_true, decide_true, decide_false, Bool.or_false, Bool.or_true, Bool.false_or, Bool.true_or, Bool.and_true, Bool.true_and, Bool.and_false, Bool.false_and, Bool.not_not, decide_eq_true_eq, true_or, or_true, false_or, or_false, Nat.reduceLT, and_self]
theorem menu_mak {nm a : Str} {ps : List (Str × Str)} {t : Int} {c : Bool} {S : Store} {Q : Val → Store → Prop} {X : XP} (hn : NameOk nm) (hr : ∀ S, f_are_rows [.lst (ps.map rowV)] S = .ok (.bl true) S) (hl : ps.length ≤ 1000) (ha : ActOk a) (ht : 1 ≤ t)
    (k : Q (.obj "Menu" (menuF nm ps a t c)) (S ++ [(false, .ins "Menu" (menuF nm ps a t c))])) : (mak1 "Menu" false f_Menu_init 6 [] [.str nm, .lst (ps.map rowV), .str a, .int t, .bl c] S).wp Q X := by
  refine w_mak1 rfl ?_
  simp only [menu_init_ok hn hr hl ha ht, frzV, get_last, set_last, w_ok, w_exc, w_stuck, w_bind, w_runB, w_var, got_some, w_e2, w_call, w_cons, w_nil, w_def, w_tup, w_lst, w_bool, w_notF, w_andF, w_orF, w_and, w_or, w_not, w_if, w_neg, w_star, w_aSeq, w_fld, w_frz, w_chain, w_m1, w_bm, w_iSeq, w_rg1, w_rg2, w_isi, w_wget, w_lc, w_cmet, w_met, w_mak, w_makL, w_jnil, w_jcons, w_fmt, w_sl, w_oNone, w_oSome, w_d0, w_dget, w_walk, v_nx, v_ret, v_exc, v_brk, v_cnt, v_stuck, v_seq', v_nx', v_exp, v_ret', v_retN, v_if, v_set, v_raise, v_asg, v_par, v_for, v_fld, v_dput, t_name, t_tup, t_ix, v_tryE, v_tryS, v_tryR, v_trySq, v_tryEq, v_hnil, v_hcons, w_isx, w_xf, w_enu, List.map_cons, List.map_nil, List.length_cons, List.length_nil, List.replicate_succ, List.replicate_zero, List.cons_append, List.nil_append, List.append_nil, List.getElem?_cons_zero, List.getElem?_cons_succ, List.set_cons_zero, List.set_cons_succ, Nat.reduceSub, Nat.reduceAdd, Nat.reduceLeDiff, Nat.reduceEqDiff, Nat.zero_add, Nat.sub_zero, if_true, if_false, ite_true, ite_false, Bool.false_eq_true, Bool.true_eq_false, Bool.not_true, Bool.not_false, true_implies, false_implies, implies_true, and_true, true_and, not_true_eq_false, not_false_eq_true, eC, tTrue, tgsCons, tgsNil, wipeE, reduceIte, reduceCtorEq, Option.some.injEq, eq_self, Int.cast_ofNat_Int, Int.reduceBEq, Int.reduceLT, Int.reduceLE, Int.reduceAdd, Int.reduceSub, beq_self_eq_true, decide_true, decide_false, Bool.or_false, Bool.or_true, Bool.false_or, Bool.true_or, Bool.and_true, Bool.true_and, Bool.and_false, Bool.false_and, Bool.not_not, decide_eq_true_eq, true_or, or_true, false_or, or_false, Nat.reduceLT, and_self]
  exact k
end Fl
namespace Fl
open PySem PySem.Spec L2
open PyProof.Rows hiding St

/-! sorted rows -/
def leP (p q : Str × Str) : Bool := leV (rowV p) (rowV q)
def sortP (ps : List (Str × Str)) : List (Str × Str) := isort leP ps
theorem sortV_rows (ps : List (Str × Str)) : sortV (ps.map rowV) = (sortP ps).map rowV := isort_map ps
theorem toks_row (p : Str × Str) : PySem.W.keyToks (datV (rowV p)) = [.inl 1, .inr p.1.cps.toList, .inl 1, .inr p.2.cps.toList, .inl 0] := rfl
theorem leP_anti {p q : Str × Str} (h1 : leP p q = true) (h2 : leP q p = true) : p = q := by
  unfold leP at h1 h2
  rw [leV_eq, Bool.not_eq_true'] at h1 h2
  have e := lex_total _ _ h2 h1
  rw [toks_row, toks_row] at e
  simp only [List.cons.injEq, Sum.inr.injEq, true_and, and_true] at e
  exact Prod.ext (str_ext e.1) (str_ext e.2)
theorem leP_key {p q : Str × Str} (h : p.1 ≠ q.1) : leP p q = leS p.1 q.1 := by
  unfold leP leS
  rw [leV_eq, leV_eq, toks_row, toks_row, toks_str, toks_str]
  have ne : (Sum.inr q.1.cps.toList : Int ⊕ List Nat) ≠ Sum.inr p.1.cps.toList := fun e => h (str_ext (Sum.inr.inj e)).symm
  congr 1
  have s : ∀ (x : itemOrd.α) (r t : List itemOrd.α), lexLt itemOrd (x :: r) (x :: t) = lexLt itemOrd r t := fun x r t => by
    rw [lex_cons, itemOrd.irrefl]; rfl
  rw [s, lex_diff (O := itemOrd) ne, lex_diff (O := itemOrd) ne]
theorem sortP_perm {ps qs : List (Str × Str)} (h : ps.Perm qs) : sortP ps = sortP qs :=
  sorted_one (fun a _ b _ => leP_anti) ((isort_perm ps).trans (h.trans (isort_perm qs).symm)) (isort_sorted total_of ps) (isort_sorted total_of qs)
end Fl
namespace Fl
open PySem PySem.Spec L2
open PyProof.Rows hiding St

theorem sortP_fst {ps : List (Str × Str)} (nd : (ps.map (·.1)).Nodup) : (sortP ps).map (·.1) = sortS (ps.map (·.1)) := by
  have pm := isort_perm (le := leP) ps
  have nd2 : ((sortP ps).map (·.1)).Nodup := (pm.map (·.1)).nodup_iff.mpr nd
  refine sorted_one (fun a _ b _ => leS_anti) ((pm.map _).trans (isort_perm _).symm) ?_ (isort_sorted total_of _)
  rw [List.pairwise_map]
  unfold List.Nodup at nd2
  rw [List.pairwise_map] at nd2
  have hs := isort_sorted (le := leP) total_of ps
  exact (List.pairwise_and_iff.mpr ⟨nd2, hs⟩).imp fun {a b} h => by rw [← leP_key h.1]; exact h.2
theorem join_t {ws : List Str} {sep : Str} {S : Store} (h : (ws.map (·.length)).sum + ws.length * sep.length ≤ 16777216) : mJoin (.str sep) [.tup (ws.map Val.str)] S = .ok (.str (Txt.join sep ws)) S := by
  simp only [mJoin, seqOf, strsOf_map, h, if_true]
theorem join_l {ws : List Str} {sep : Str} {S : Store} (h : (ws.map (·.length)).sum + ws.length * sep.length ≤ 16777216) : mJoin (.str sep) [.lst (ws.map Val.str)] S = .ok (.str (Txt.join sep ws)) S := by
  simp only [mJoin, seqOf, lstOf, lstX, strsOf_map, h, if_true]
theorem sum_small {b : Nat} : ∀ {ws : List Str}, (∀ w ∈ ws, w.length ≤ b) → (ws.map (·.length)).sum ≤ ws.length * b
  | [], _ => by simp
  | w :: ws, h => by
    have := sum_small (b := b) (ws := ws) fun x hx => h x (List.mem_cons_of_mem _ hx)
    have hw := h w List.mem_cons_self
    simp only [List.map_cons, List.sum_cons, List.length_cons, Nat.succ_mul]
    omega
theorem join_len (sep : Str) (ws : List Str) : (Txt.join sep ws).length ≤ (ws.map (·.length)).sum + ws.length * sep.length := by
  show (Builtin.Str.glued sep ws).length ≤ _
  rw [StrLaws.glued_eq_join]
  exact StrLaws.join_length_le sep ws
/-- few short words -/
structure Words (ws : List Str) : Prop where
  few : ws.length ≤ 10
  short : ∀ w ∈ ws, w.length ≤ 100
theorem Words.sum {ws : List Str} (h : Words ws) : (ws.map (·.length)).sum ≤ 1000 := by
  have := sum_small h.short
  have := h.few
  omega
theorem Words.joins {ws : List Str} (h : Words ws) : (ws.map (·.length)).sum + ws.length * (" " : Str).length ≤ 16777216 := by
  have := h.sum
  have := h.few
  show _ + ws.length * 1 ≤ _
  omega
theorem Words.len {ws : List Str} (h : Words ws) : (Txt.join " " ws).length ≤ 1010 := by
  have := join_len " " ws
  have e : ws.length * (" " : Str).length = ws.length := Nat.mul_one _
  have := h.sum
  have := h.few
  omega
theorem join_w {ws : List Str} (h : Words ws) {S : Store} : mJoin (.str " ") [wordsV ws] S = .ok (.str (Txt.join " " ws)) S := join_t h.joins
theorem valD_of {rows : List (Str × List Str)} (nd : (rows.map (·.1)).Nodup) : ∀ {p : Str × List Str}, p ∈ rows → valD p.1 (rowsD rows) = some (wordsV p.2) := by
  induction rows with
  | nil => intro p hp; cases hp
  | cons q rows ih =>
    intro p hp
    show (if q.1 = p.1 then _ else _) = _
    rw [List.map_cons] at nd
    obtain ⟨n1, n2⟩ := List.nodup_cons.mp nd
    rcases List.mem_cons.mp hp with rfl | hp
    · rw [if_pos rfl]
    · rw [if_neg fun e => n1 (by rw [e]; exact List.mem_map.mpr ⟨p, hp, rfl⟩)]
      exact ih n2 hp
def pairOf (p : Str × List Str) : Str × Str := (p.1, Txt.join " " p.2)
def rowT (p : Str × Str) : Str := p.1 ++ " " ++ p.2
def headT (nm : Str) (t : Int) (c : Bool) : Str := Txt.join " " ((["menu", nm, "tries", (toString t : String)] : List Str) ++ if c then (["clear"] : List Str) else [])
def tailT (ws : List Str) : Str := "else " ++ Txt.join " " ws
/-- the lines of a menu's text -/
def linesT (nm : Str) (ps : List (Str × Str)) (tail : List Str) (t : Int) (c : Bool) : List Str := headT nm t c :: (ps.map rowT ++ [tailT tail])
theorem sortP_pm (ps : List (Str × Str)) : (sortP ps).Perm ps := isort_perm ps
theorem sortP_len (ps : List (Str × Str)) : (sortP ps).length = ps.length := (sortP_pm ps).length_eq
theorem headT_words {nm : Str} {t : Int} {c : Bool} (hn : nm.length ≤ 100) (hts : ((toString t : String) : Str).length ≤ 100) : Words ((["menu", nm, "tries", (toString t : String)] : List Str) ++ if c then (["clear"] : List Str) else []) := ⟨by cases c <;> simp, fun w hw => by
  have h1 : (Str.ofString "menu").length ≤ 100 := by decide
  have h2 : (Str.ofString "tries").length ≤ 100 := by decide
  have h3 : (Str.ofString "clear").length ≤ 100 := by decide
  cases c <;> simp at hw <;> rcases hw with rfl | rfl | rfl | h <;> first | assumption | (subst h; assumption) | (rcases h with rfl | rfl <;> assumption)⟩
/-- rows as they are in a text: short -/
structure Shorts (ps : List (Str × Str)) : Prop where
  few : ps.length ≤ 100
  short : ∀ p ∈ ps, p.1.length ≤ 100 ∧ p.2.length ≤ 1010
theorem lines_short {nm : Str} {ps : List (Str × Str)} {tail : List Str} {t : Int} {c : Bool} (hn : nm.length ≤ 100) (hts : ((toString t : String) : Str).length ≤ 100) (hs : Shorts ps) (ht : Words tail) : ∀ l ∈ linesT nm ps tail t c, l.length ≤ 2000 := by
  intro l hl
  unfold linesT at hl
  rcases List.mem_cons.mp hl with rfl | hl
  · have : (headT nm t c).length ≤ 1010 := (headT_words hn hts).len
    omega
  · rcases List.mem_append.mp hl with hl | hl
    · obtain ⟨p, hp, rfl⟩ := List.mem_map.mp hl
      have := hs.short p hp
      unfold rowT
      rw [Str.length_append, Str.length_append]
      show _ + 1 + _ ≤ _
      omega
    · rw [List.mem_singleton.mp hl]
      have := ht.len
      unfold tailT
      rw [Str.length_append]
      show 5 + _ ≤ _
      omega
theorem lines_sum {nm : Str} {ps : List (Str × Str)} {tail : List Str} {t : Int} {c : Bool} (hn : nm.length ≤ 100) (hts : ((toString t : String) : Str).length ≤ 100) (hs : Shorts ps) (ht : Words tail) : ((linesT nm ps tail t c).map (·.length)).sum + (linesT nm ps tail t c).length * 1 ≤ 300000 := by
  have h1 := sum_small (lines_short (c := c) hn hts hs ht)
  have h2 : (linesT nm ps tail t c).length = ps.length + 2 := by simp [linesT]
  have := hs.few
  omega
theorem w_lk {fo f : EF} {env : Env} {S S0 : Store} {d : Nat} {kvs : List (Str × Val)} {Q : Val → Store → Prop} {X : XP} (h1 : fo env S = .ok (.ref d) S0) (h2 : S[d]? = some (true, .dct kvs))
    (h : (f env (S.set d (false, .lck kvs))).wp (fun v S' => ∃ kvs', S'[d]? = some (false, .lck kvs') ∧ Q v (S'.set d (true, .dct kvs'))) (fun _ _ _ => False)) : (eLk fo f env S).wp Q X := by
  unfold eLk
  rw [h1]
  dsimp only
  rw [h2]
  dsimp only
  unfold lockF
  generalize f env (S.set d (false, .lck kvs)) = r at h ⊢
  cases r with
  | ok v S' => obtain ⟨kvs', e, q⟩ := h.run; dsimp only; rw [e]; exact ⟨q⟩
  | exc c fs S' => exact h.run.elim
  | stuck => exact h.run.elim
theorem v_lk {fo : EF} {b : SF} {env : Env} {S S0 : Store} {d : Nat} {kvs : List (Str × Val)} {N : Env → Store → Prop} {R : Val → Store → Prop} {X : XP} {B C : Env → Store → Prop} (h1 : fo env S = .ok (.ref d) S0) (h2 : S[d]? = some (true, .dct kvs))
    (h : (b env (S.set d (false, .lck kvs))).wp (fun e S' => ∃ kvs', S'[d]? = some (false, .lck kvs') ∧ N e (S'.set d (true, .dct kvs'))) (fun v S' => ∃ kvs', S'[d]? = some (false, .lck kvs') ∧ R v (S'.set d (true, .dct kvs'))) (fun _ _ _ => False) (fun _ _ => False) (fun _ _ => False)) : (sLk fo b env S).wp N R X B C := by
  unfold sLk
  rw [h1]
  dsimp only
  rw [h2]
  dsimp only
  unfold lockS
  generalize b env (S.set d (false, .lck kvs)) = r at h ⊢
  cases r with
  | nx e S' => obtain ⟨kvs', e, q⟩ := h.run; dsimp only; rw [e]; exact ⟨q⟩
  | ret v S' => obtain ⟨kvs', e, q⟩ := h.run; dsimp only; rw [e]; exact ⟨q⟩
  | exc c fs e S' => exact h.run.elim
  | brk e S' => exact h.run.elim
  | cnt e S' => exact h.run.elim
  | stuck => exact h.run.elim
theorem set_back {S : Store} {d : Nat} {x y : Bool × Cel} (h : S[d]? = some y) : (S.set d x).set d y = S := by
  rw [List.set_set]
  apply List.ext_getElem?
  intro i
  by_cases e : d = i
  · subst e
    rw [List.getElem?_set_self (List.getElem?_eq_some_iff.mp h).1, h]
  · rw [List.getElem?_set_ne e]
end Fl
namespace Fl
open PySem PySem.Spec L2
open PyProof.Rows hiding St

/-- a text that can stand in the program -/
def TxOk (x : Str) : Prop := SeqAt.shaped (.str x) = true
theorem TxOk.iff {x : Str} : TxOk x ↔ ∀ n ∈ x.cps.toList, n < 0x110000 := by
  unfold TxOk
  show (PyData.strOk x && decide (0 ≤ 64)) = true ↔ _
  unfold PyData.strOk
  rw [← Array.all_toList, Bool.and_eq_true, List.all_eq_true]
  constructor
  · intro h n hn; exact of_decide_eq_true (h.1 n hn)
  · intro h; exact ⟨fun n hn => decide_eq_true (h n hn), rfl⟩
theorem TxOk.app {x y : Str} (h : TxOk x) (h' : TxOk y) : TxOk (x ++ y) := by
  rw [TxOk.iff] at *
  intro n hn
  rw [Str.cps_append, Array.toList_append] at hn
  rcases List.mem_append.mp hn with q | q
  · exact h n q
  · exact h' n q
theorem TxOk.join {sep : Str} (hs : TxOk sep) : ∀ {ws : List Str}, (∀ w ∈ ws, TxOk w) → TxOk (Txt.join sep ws) := by
  have key : ∀ {ws : List Str}, (∀ w ∈ ws, TxOk w) → TxOk (Str.join sep ws) := fun {ws} h => by
    induction ws with
    | nil => exact TxOk.iff.mpr (by intro n hn; cases hn)
    | cons w ws ih =>
      cases ws with
      | nil => exact h w List.mem_cons_self
      | cons v ws => exact ((h w List.mem_cons_self).app hs).app (ih fun x hx => h x (List.mem_cons_of_mem _ hx))
  intro ws h
  show TxOk (Builtin.Str.glued sep ws)
  rw [StrLaws.glued_eq_join]
  exact key h
theorem eq_same {v : Val} {d : PyData} {S : Store} (h : toDS S v = some d) (hs : SeqAt.shaped d = true) : vEq v v S = .ok (.bl true) S := by
  simp only [vEq, h, hs, Bool.and_self, if_true, SeqAt.eqv_refl d (SeqAt.canLay_of_shaped hs)]
theorem rows_data {ps : List (Str × Str)} {S : Store} : toDS S (.tup (ps.map rowV)) = some (.tuple (ps.map fun p => PyData.tuple [.str p.1, .str p.2])) := by
  show (toDs (ps.map rowV)).map PyData.tuple = _
  rw [toDs_rows]; rfl
theorem rows_shaped {ps : List (Str × Str)} (h : ∀ p ∈ ps, TxOk p.1 ∧ TxOk p.2) : SeqAt.shaped (.tuple (ps.map fun p => PyData.tuple [.str p.1, .str p.2])) = true := by
  have h1 : ∀ {x : Str}, TxOk x → PyData.canLay0 (.str x) = true := fun h => SeqAt.canLay_of_shaped h
  have key : ∀ {ps : List (Str × Str)}, (∀ p ∈ ps, TxOk p.1 ∧ TxOk p.2) → PyData.canLayAll0 (ps.map fun p => PyData.tuple [.str p.1, .str p.2]) = true ∧ PyData.depthAll (ps.map fun p => PyData.tuple [.str p.1, .str p.2]) ≤ 1 := fun {ps} h => by
    induction ps with
    | nil => exact ⟨rfl, Nat.zero_le _⟩
    | cons p ps ih =>
      obtain ⟨i1, i2⟩ := ih fun q hq => h q (List.mem_cons_of_mem _ hq)
      obtain ⟨a, b⟩ := h p List.mem_cons_self
      rw [List.map_cons]
      constructor
      · unfold PyData.canLayAll0
        rw [i1, PyData.canLay0, PyData.canLayAll0, PyData.canLayAll0, PyData.canLayAll0, h1 a, h1 b]; rfl
      · unfold PyData.depthAll
        rw [PyData.depth, PyData.depthAll, PyData.depthAll, PyData.depthAll, PyData.depth, PyData.depth]
        exact Nat.max_le.mpr ⟨by decide, i2⟩
  obtain ⟨k1, k2⟩ := key h
  unfold SeqAt.shaped
  rw [PyData.canLay0, k1, PyData.depth]
  exact decide_eq_true (by omega)
end Fl
namespace Fl
open PySem PySem.Spec L2
open PyProof.Rows hiding St

theorem cut_head {h tl : Val} {mid : List Val} : cutL (h :: (mid ++ [tl])) none (some 1) = [h] := by
  unfold cutL HT.sIx
  simp
theorem cut_mid {h tl : Val} {mid : List Val} : cutL (h :: (mid ++ [tl])) (some 1) (some (-1)) = mid := by
  unfold cutL
  have e1 : HT.sIx (h :: (mid ++ [tl])).length 0 (some 1) = 1 := by
    simp only [HT.sIx]
    rw [if_neg (by decide)]; simp
  have e2 : HT.sIx (h :: (mid ++ [tl])).length (h :: (mid ++ [tl])).length (some (-1)) = mid.length + 1 := by
    simp only [HT.sIx]
    rw [if_pos (by decide)]; simp; omega
  rw [e1, e2]
  simp
theorem cut_tail {h tl : Val} {mid : List Val} : cutL (h :: (mid ++ [tl])) (some (-1)) none = [tl] := by
  unfold cutL
  have e1 : HT.sIx (h :: (mid ++ [tl])).length 0 (some (-1)) = mid.length + 1 := by
    simp only [HT.sIx]
    rw [if_pos (by decide)]; simp; omega
  have e2 : HT.sIx (h :: (mid ++ [tl])).length (h :: (mid ++ [tl])).length none = mid.length + 2 := by
    show (h :: (mid ++ [tl])).length = _
    simp
  rw [e1, e2]
  simp
theorem perm_map {α β : Type} {f : α → β} {ys zs : List β} (h : ys.Perm zs) : ∀ {l : List α}, zs = l.map f → ∃ l' : List α, l'.Perm l ∧ ys = l'.map f := by
  induction h with
  | nil =>
    intro l e
    cases l with
    | nil => exact ⟨[], List.Perm.nil, rfl⟩
    | cons a l => cases e
  | cons x p ih =>
    intro l e
    cases l with
    | nil => cases e
    | cons a l =>
      obtain ⟨e1, e2⟩ := List.cons.inj e
      obtain ⟨l', h1, h2⟩ := ih e2
      exact ⟨a :: l', h1.cons a, by rw [List.map_cons, e1, h2]⟩
  | swap x y r =>
    intro l e
    cases l with
    | nil => cases e
    | cons a l =>
      cases l with
      | nil => cases e
      | cons b l =>
        obtain ⟨e1, e2⟩ := List.cons.inj e
        obtain ⟨e3, e4⟩ := List.cons.inj e2
        exact ⟨b :: a :: l, List.Perm.swap a b l, by rw [List.map_cons, List.map_cons, e1, e3, e4]⟩
  | trans p q ih1 ih2 =>
    intro l e
    obtain ⟨l1, h1, h2⟩ := ih2 e
    obtain ⟨l2, h3, h4⟩ := ih1 h2
    exact ⟨l2, h3.trans h1, h4⟩
theorem plain_ok0 : TxOk "\n" := TxOk.iff.mpr fun n hn => by
  have e : ("\n" : Str).cps.toList = [10] := by kernel_rfl
  rw [e] at hn
  rw [List.mem_singleton.mp hn]
  decide
theorem ne_objs {c : Str} {f : BF} {F1 F2 : List (Str × Val)} {S : Store} (h : f [.obj c F1, .obj c F2] S = .ok (.bl true) S) : vNeO c f (.obj c F1) (.obj c F2) S = .ok (.bl false) S := by
  simp [vNeO, isOf, insOf, vOwnEq, h]
theorem str_obj {c : Str} {f o : BF} {F1 : List (Str × Val)} {x : Str} {S : Store} (h : f [.obj c F1] S = .ok (.str x) S) : bStrO c f o [.obj c F1] S = .ok (.str x) S := by
  simp [bStrO, isOf, insOf, h]
theorem ne_same {v : Val} {d : PyData} {S : Store} (h : toDS S v = some d) (hs : SeqAt.shaped d = true) : vNe v v S = .ok (.bl false) S := by
  simp only [vNe, h, hs, Bool.and_self, if_true, SeqAt.eqv_refl d (SeqAt.canLay_of_shaped hs), Bool.not_true]
end Fl
namespace Fl
open PySem PySem.Spec L2
open PyProof.Rows hiding St

theorem made_w {S : Store} {d : Nat} {nm : Str} {rows : List (Str × List Str)} {tail : List Str} {t : Int} {c : Bool} {Q : Val → Store → Prop} {X : XP} (hd : S[d]? = some (true, .dct (rowsD rows))) (nd : (rows.map (·.1)).Nodup) (hl : rows.length ≤ 100)
    (hw : ∀ p ∈ rows, Words p.2) (ht : Words tail) (hn : NameOk nm) (hr : ∀ p ∈ rows, RowOk (pairOf p)) (ha : ActOk (Txt.join " " tail)) (ht1 : 1 ≤ t)
    (k : Q (.obj "Menu" (menuF nm (rows.map pairOf) (Txt.join " " tail) t c)) (S ++ [(false, .ins "Menu" (menuF nm (rows.map pairOf) (Txt.join " " tail) t c))])) : (f_l_made [.lst [.str nm, .ref d, wordsV tail, .int t, .bl c]] S).wp Q X := by
  unfold f_l_made b_l_made
  have z2 : 2 ≤ sizeLine := small_size (by decide)
  have i0 : ∀ S, vIx (.lst [.str nm, .ref d, wordsV tail, .int t, .bl c]) (.int 0) S = .ok (.str nm) S := fun S => ix_l rfl
  have i1 : ∀ S, vIx (.lst [.str nm, .ref d, wordsV tail, .int t, .bl c]) (.int 1) S = .ok (.ref d) S := fun S => ix_l rfl
  have i2 : ∀ S, vIx (.lst [.str nm, .ref d, wordsV tail, .int t, .bl c]) (.int 2) S = .ok (wordsV tail) S := fun S => ix_l rfl
  have i3 : ∀ S, vIx (.lst [.str nm, .ref d, wordsV tail, .int t, .bl c]) (.int 3) S = .ok (.int t) S := fun S => ix_l rfl
  have i4 : ∀ S, vIx (.lst [.str nm, .ref d, wordsV tail, .int t, .bl c]) (.int 4) S = .ok (.bl c) S := fun S => ix_l rfl
  have hfo : Fl.e2 vIx (eVar 0) (eC (.int 1)) [some (.lst [.str nm, .ref d, wordsV tail, .int t, .bl c]), none, none] S = .ok (.ref d) S := i1 S
  have hlt : d < S.length := (List.getElem?_eq_some_iff.mp hd).1
  have hk1 : ∀ kvs, (S.set d (false, .lck kvs))[d]? = some (false, .lck kvs) := fun kvs => by simp [hlt]
  have l1 : lcGo (tgName 2) tTrue (eTup (aCons (eVar 2) (aCons (eM1 mJoin (eC (.str " ")) (eDGet (Fl.e2 vIx (eVar 0) (eC (.int 1))) (eVar 2))) aNil))) [some (.lst [.str nm, .ref d, wordsV tail, .int t, .bl c]), none, none] ((rowsD rows).map fun p => .str p.1) [] (S.set d (false, .lck (rowsD rows))) =
      .ok ([] ++ rows.map fun r => rowV (pairOf r)) (S.set d (false, .lck (rowsD rows))) := by
    rw [show ((rowsD rows).map fun p => Val.str p.1) = rows.map fun r => Val.str r.1 from by simp [rowsD]]
    refine lc_map2 (fun r hr => ?_) (by simp; exact small_size (by omega))
    refine ⟨_, rfl, ?_⟩
    apply Res.wp_eq
    simp only [i1, dctOf, hk1, valD_of nd hr, join_w (hw r hr), z2, pairOf, rowV, w_ok, w_exc, w_stuck, w_bind, w_runB, w_var, got_some, w_e2, w_call, w_cons, w_nil, w_def, w_tup, w_lst, w_bool, w_notF, w_andF, w_orF, w_and, w_or, w_not, w_if, w_neg, w_star, w_aSeq, w_fld, w_frz, w_chain, w_m1, w_bm, w_iSeq, w_rg1, w_rg2, w_isi, w_wget, w_lc, w_cmet, w_met, w_mak, w_makL, w_jnil, w_jcons, w_fmt, w_sl, w_oNone, w_oSome, w_d0, w_dget, w_walk, v_nx, v_ret, v_exc, v_brk, v_cnt, v_stuck, v_seq', v_nx', v_exp, v_ret', v_retN, v_if, v_set, v_raise, v_asg, v_par, v_for, v_fld, v_dput, t_name, t_tup, t_ix, v_tryE, v_tryS, v_tryR, v_trySq, v_tryEq, v_hnil, v_hcons, w_isx, w_xf, w_enu, List.map_cons, List.map_nil, List.length_cons, List.length_nil, List.replicate_succ, List.replicate_zero, List.cons_append, List.nil_append, List.append_nil, List.getElem?_cons_zero, List.getElem?_cons_succ, List.set_cons_zero, List.set_cons_succ, Nat.reduceSub, Nat.reduceAdd, Nat.reduceLeDiff, Nat.reduceEqDiff, Nat.zero_add, Nat.sub_zero, if_true, if_false, ite_true, ite_false, Bool.false_eq_true, Bool.true_eq_false, Bool.not_true, Bool.not_false, true_implies, false_implies, implies_true, and_true, true_and, not_true_eq_false, not_false_eq_true, eC, tTrue, tgsCons, tgsNil, wipeE, reduceIte, reduceCtorEq, Option.some.injEq, eq_self, Int.cast_ofNat_Int, Int.reduceBEq, Int.reduceLT, Int.reduceLE, Int.reduceAdd, Int.reduceSub, beq_self_eq_true, decide_true, decide_false, Bool.or_false, Bool.or_true, Bool.false_or, Bool.true_or, Bool.and_true, Bool.true_and, Bool.and_false, Bool.false_and, Bool.not_not, decide_eq_true_eq, true_or, or_true, false_or, or_false, Nat.reduceLT, and_self]
  simp only [w_ok, w_exc, w_stuck, w_bind, w_runB, w_var, got_some, w_e2, w_call, w_cons, w_nil, w_def, w_tup, w_lst, w_bool, w_notF, w_andF, w_orF, w_and, w_or, w_not, w_if, w_neg, w_star, w_aSeq, w_fld, w_frz, w_chain, w_m1, w_bm, w_iSeq, w_rg1, w_rg2, w_isi, w_wget, w_lc, w_cmet, w_met, w_mak, w_makL, w_jnil, w_jcons, w_fmt, w_sl, w_oNone, w_oSome, w_d0, w_dget, w_walk, v_nx, v_ret, v_exc, v_brk, v_cnt, v_stuck, v_seq', v_nx', v_exp, v_ret', v_retN, v_if, v_set, v_raise, v_asg, v_par, v_for, v_fld, v_dput, t_name, t_tup, t_ix, v_tryE, v_tryS, v_tryR, v_trySq, v_tryEq, v_hnil, v_hcons, w_isx, w_xf, w_enu, List.map_cons, List.map_nil, List.length_cons, List.length_nil, List.replicate_succ, List.replicate_zero, List.cons_append, List.nil_append, List.append_nil, List.getElem?_cons_zero, List.getElem?_cons_succ, List.set_cons_zero, List.set_cons_succ, Nat.reduceSub, Nat.reduceAdd, Nat.reduceLeDiff, Nat.reduceEqDiff, Nat.zero_add, Nat.sub_zero, if_true, if_false, ite_true, ite_false, Bool.false_eq_true, Bool.true_eq_false, Bool.not_true, Bool.not_false, true_implies, false_implies, implies_true, and_true, true_and, not_true_eq_false, not_false_eq_true, eC, tTrue, tgsCons, tgsNil, wipeE, reduceIte, reduceCtorEq, Option.some.injEq, eq_self, Int.cast_ofNat_Int, Int.reduceBEq, Int.reduceLT, Int.reduceLE, Int.reduceAdd, Int.reduceSub, beq_self_eq_true, decide_true, decide_false, Bool.or_false, Bool.or_true, Bool.false_or, Bool.true_or, Bool.and_true, Bool.true_and, Bool.and_false, Bool.false_and, Bool.not_not, decide_eq_true_eq, true_or, or_true, false_or, or_false, Nat.reduceLT, and_self]
  refine v_lk hfo hd ?_
  simp only [i1, keysF, hk1, l1, mkL, w_ok, w_exc, w_stuck, w_bind, w_runB, w_var, got_some, w_e2, w_call, w_cons, w_nil, w_def, w_tup, w_lst, w_bool, w_notF, w_andF, w_orF, w_and, w_or, w_not, w_if, w_neg, w_star, w_aSeq, w_fld, w_frz, w_chain, w_m1, w_bm, w_iSeq, w_rg1, w_rg2, w_isi, w_wget, w_lc, w_cmet, w_met, w_mak, w_makL, w_jnil, w_jcons, w_fmt, w_sl, w_oNone, w_oSome, w_d0, w_dget, w_walk, v_nx, v_ret, v_exc, v_brk, v_cnt, v_stuck, v_seq', v_nx', v_exp, v_ret', v_retN, v_if, v_set, v_raise, v_asg, v_par, v_for, v_fld, v_dput, t_name, t_tup, t_ix, v_tryE, v_tryS, v_tryR, v_trySq, v_tryEq, v_hnil, v_hcons, w_isx, w_xf, w_enu, List.map_cons, List.map_nil, List.length_cons, List.length_nil, List.replicate_succ, List.replicate_zero, List.cons_append, List.nil_append, List.append_nil, List.getElem?_cons_zero, List.getElem?_cons_succ, List.set_cons_zero, List.set_cons_succ, Nat.reduceSub, Nat.reduceAdd, Nat.reduceLeDiff, Nat.reduceEqDiff, Nat.zero_add, Nat.sub_zero, if_true, if_false, ite_true, ite_false, Bool.false_eq_true, Bool.true_eq_false, Bool.not_true, Bool.not_false, true_implies, false_implies, implies_true, and_true, true_and, not_true_eq_false, not_false_eq_true, eC, tTrue, tgsCons, tgsNil, wipeE, reduceIte, reduceCtorEq, Option.some.injEq, eq_self, Int.cast_ofNat_Int, Int.reduceBEq, Int.reduceLT, Int.reduceLE, Int.reduceAdd, Int.reduceSub, beq_self_eq_true, decide_true, decide_false, Bool.or_false, Bool.or_true, Bool.false_or, Bool.true_or, Bool.and_true, Bool.true_and, Bool.and_false, Bool.false_and, Bool.not_not, decide_eq_true_eq, true_or, or_true, false_or, or_false, Nat.reduceLT, and_self]
  refine ⟨_, rfl, ?_⟩
  rw [set_back hd, show (rows.map fun r => rowV (pairOf r)) = (rows.map pairOf).map rowV from by rw [List.map_map]; rfl]
  simp only [i0, i2, join_w ht, i3, i4, w_ok, w_exc, w_stuck, w_bind, w_runB, w_var, got_some, w_e2, w_call, w_cons, w_nil, w_def, w_tup, w_lst, w_bool, w_notF, w_andF, w_orF, w_and, w_or, w_not, w_if, w_neg, w_star, w_aSeq, w_fld, w_frz, w_chain, w_m1, w_bm, w_iSeq, w_rg1, w_rg2, w_isi, w_wget, w_lc, w_cmet, w_met, w_mak, w_makL, w_jnil, w_jcons, w_fmt, w_sl, w_oNone, w_oSome, w_d0, w_dget, w_walk, v_nx, v_ret, v_exc, v_brk, v_cnt, v_stuck, v_seq', v_nx', v_exp, v_ret', v_retN, v_if, v_set, v_raise, v_asg, v_par, v_for, v_fld, v_dput, t_name, t_tup, t_ix, v_tryE, v_tryS, v_tryR, v_trySq, v_tryEq, v_hnil, v_hcons, w_isx, w_xf, w_enu, List.map_cons, List.map_nil, List.length_cons, List.length_nil, List.replicate_succ, List.replicate_zero, List.cons_append, List.nil_append, List.append_nil, List.getElem?_cons_zero, List.getElem?_cons_succ, List.set_cons_zero, List.set_cons_succ, Nat.reduceSub, Nat.reduceAdd, Nat.reduceLeDiff, Nat.reduceEqDiff, Nat.zero_add, Nat.sub_zero, if_true, if_false, ite_true, ite_false, Bool.false_eq_true, Bool.true_eq_false, Bool.not_true, Bool.not_false, true_implies, false_implies, implies_true, and_true, true_and, not_true_eq_false, not_false_eq_true, eC, tTrue, tgsCons, tgsNil, wipeE, reduceIte, reduceCtorEq, Option.some.injEq, eq_self, Int.cast_ofNat_Int, Int.reduceBEq, Int.reduceLT, Int.reduceLE, Int.reduceAdd, Int.reduceSub, beq_self_eq_true, decide_true, decide_false, Bool.or_false, Bool.or_true, Bool.false_or, Bool.true_or, Bool.and_true, Bool.true_and, Bool.and_false, Bool.false_and, Bool.not_not, decide_eq_true_eq, true_or, or_true, false_or, or_false, Nat.reduceLT, and_self]
  refine menu_mak hn (fun S => are_rows_ok (fun p hp => ?_) (by rw [List.map_map]; exact nd) (by simp; omega)) (by simp; omega) ha ht1 k
  obtain ⟨r, hr', rfl⟩ := List.mem_map.mp hp
  exact hr r hr'
end Fl
namespace Fl
open PySem PySem.Spec L2
open PyProof.Rows hiding St

theorem menu_eq_ok {nm a : Str} {t : Int} {c : Bool} {ps qs : List (Str × Str)} {S : Store} (hn : TxOk nm) (ha : TxOk a) (hp : ∀ p ∈ ps, TxOk p.1 ∧ TxOk p.2) (he : sortP ps = sortP qs) :
    f_Menu_eq [.obj "Menu" (menuF nm ps a t c), .obj "Menu" (menuF nm qs a t c)] S = .ok (.bl true) S := by
  apply Res.wp_eq
  unfold f_Menu_eq b_Menu_eq
  have e : menuF nm qs a t c = menuF nm ps a t c := by unfold menuF; rw [sortV_rows, sortV_rows, he]
  rw [e]
  have g1 : List.lookup ("name" : Str) (menuF nm ps a t c) = some (.str nm) := by kernel_rfl
  have g2 : List.lookup ("rows" : Str) (menuF nm ps a t c) = some (.tup (sortV (ps.map rowV))) := by kernel_rfl
  have g3 : List.lookup ("tail" : Str) (menuF nm ps a t c) = some (.str a) := by kernel_rfl
  have g4 : List.lookup ("tries" : Str) (menuF nm ps a t c) = some (.int t) := by kernel_rfl
  have g5 : List.lookup ("clears" : Str) (menuF nm ps a t c) = some (.bl c) := by kernel_rfl
  have h2 : ∀ S, vEq (.tup (sortV (ps.map rowV))) (.tup (sortV (ps.map rowV))) S = .ok (.bl true) S := fun S => by
    rw [sortV_rows]
    exact eq_same rows_data (rows_shaped fun p hp' => hp p ((sortP_pm ps).subset hp'))
  have io : isOwn "Menu" (.own "Menu") = true := by kernel_rfl
  simp only [tyK, io, insOf, g1, g2, g3, g4, g5, h2, eq_same (v := .str nm) rfl hn, eq_same (v := .str a) rfl ha, eq_same (v := .int t) rfl rfl, eq_same (v := .bl c) rfl rfl, w_ok, w_exc, w_stuck, w_bind, w_runB, w_var, got_some, w_e2, w_call, w_cons, w_nil, w_def, w_tup, w_lst, w_bool, w_notF, w_andF, w_orF, w_and, w_or, w_not, w_if, w_neg, w_star, w_aSeq, w_fld, w_frz, w_chain, w_m1, w_bm, w_iSeq, w_rg1, w_rg2, w_isi, w_wget, w_lc, w_cmet, w_met, w_mak, w_makL, w_jnil, w_jcons, w_fmt, w_sl, w_oNone, w_oSome, w_d0, w_dget, w_walk, v_nx, v_ret, v_exc, v_brk, v_cnt, v_stuck, v_seq', v_nx', v_exp, v_ret', v_retN, v_if, v_set, v_raise, v_asg, v_par, v_for, v_fld, v_dput, t_name, t_tup, t_ix, v_tryE, v_tryS, v_tryR, v_trySq, v_tryEq, v_hnil, v_hcons, w_isx, w_xf, w_enu, List.map_cons, List.map_nil, List.length_cons, List.length_nil, List.replicate_succ, List.replicate_zero, List.cons_append, List.nil_append, List.append_nil, List.getElem?_cons_zero, List.getElem?_cons_succ, List.set_cons_zero, List.set_cons_succ, Nat.reduceSub, Nat.reduceAdd, Nat.reduceLeDiff, Nat.reduceEqDiff, Nat.zero_add, Nat.sub_zero, if_true, if_false, ite_true, ite_false, Bool.false_eq_true, Bool.true_eq_false, Bool.not_true, Bool.not_false, true_implies, false_implies, implies_true, and_true, true_and, not_true_eq_false, not_false_eq_true, eC, tTrue, tgsCons, tgsNil, wipeE, reduceIte, reduceCtorEq, Option.some.injEq, eq_self, Int.cast_ofNat_Int, Int.reduceBEq, Int.reduceLT, Int.reduceLE, Int.reduceAdd, Int.reduceSub, beq_self_eq_true, decide_true, decide_false, Bool.or_false, Bool.or_true, Bool.false_or, Bool.true_or, Bool.and_true, Bool.true_and, Bool.and_false, Bool.false_and, Bool.not_not, decide_eq_true_eq, true_or, or_true, false_or, or_false, Nat.reduceLT, and_self]
end Fl
namespace Fl
open PySem PySem.Spec L2
open PyProof.Rows hiding St

/-- a text of a menu is read -/
theorem menu_read_w {L : List Str} {h nm tl a : Str} {t : Int} {c : Bool} {ps : List (Str × Str)} {S : Store} {Q : Val → Store → Prop} {X : XP} (hL : L = h :: (ps.map rowT ++ [tl])) (hps : ps.length ≤ 100) (hlen : (Txt.join "\n" L).length ≤ 1000000) (hnl : ∀ l ∈ L, 10 ∉ l.cps.toList)
    (H : ∀ S, f_read_head [.str h] S = .ok (.tup [.str nm, .int t, .bl c]) S)
    (hr : ∀ p ∈ ps, LineOk (rowT p) p) (nd : (ps.map (·.1)).Nodup) (T : ∀ S, mPart (.str tl) [.str " "] S = .ok (.tup [.str "else", .str " ", .str a]) S) (A : ActOk a) (hn : NameOk nm) (ht1 : 1 ≤ t)
    (k : Q (.obj "Menu" (menuF nm ps a t c)) (S ++ [(false, .ins "Menu" (menuF nm ps a t c))])) : (f_Menu_read [.cls "Menu", .str (Txt.join "\n" L)] S).wp Q X := by
  unfold f_Menu_read b_Menu_read
  have hL2 : L.length = ps.length + 2 := by rw [hL]; simp
  have en : ("\n" : Str) = ⟨#[10]⟩ := by kernel_rfl
  have hs : ∀ S, mSplit false (.str (Txt.join "\n" L)) [.str "\n"] S = .ok (.lst (L.map Val.str)) S := fun S => by
    simp only [mSplit]
    rw [if_pos ⟨by decide, by rw [sizeLine_eq]; omega⟩, en, split_join (by rw [hL]; exact List.cons_ne_nil _ _) hnl]
    rfl
  have rp : ∀ S, f_read_part [.lst (L.map Val.str), .int 0] S = .ok (.tup [.tup [.str nm, .lst (ps.map rowV), .str a, .int t, .bl c], .int ((0 + ps.length + 2 : Nat) : Int)]) S := fun S =>
    read_part_ok (start := 0) (by omega) (by rw [hL]; rfl) H (fun j p hj => ⟨rowT p, by
      rw [hL, show 0 + 1 + j = j + 1 from by omega, List.getElem?_cons_succ, List.getElem?_append_left (by simpa using (List.getElem?_eq_some_iff.mp hj).1), List.getElem?_map, hj]
      rfl, hr p (List.mem_iff_getElem?.mpr ⟨j, hj⟩)⟩) nd (by omega) (by
      rw [hL, show 0 + 1 + ps.length = ps.length + 1 from by omega, List.getElem?_cons_succ, List.getElem?_append_right (by simp)]
      simp) T A
  have e2 : (((ps.length + 2 : Nat) : Int) < ((L.map Val.str).length : Int)) = False := eq_false (by rw [List.length_map, hL2]; omega)
  simp only [hs, rp, seqOf, lt_ii, len_l, e2, w_ok, w_exc, w_stuck, w_bind, w_runB, w_var, got_some, w_e2, w_call, w_cons, w_nil, w_def, w_tup, w_lst, w_bool, w_notF, w_andF, w_orF, w_and, w_or, w_not, w_if, w_neg, w_star, w_aSeq, w_fld, w_frz, w_chain, w_m1, w_bm, w_iSeq, w_rg1, w_rg2, w_isi, w_wget, w_lc, w_cmet, w_met, w_mak, w_makL, w_jnil, w_jcons, w_fmt, w_sl, w_oNone, w_oSome, w_d0, w_dget, w_walk, v_nx, v_ret, v_exc, v_brk, v_cnt, v_stuck, v_seq', v_nx', v_exp, v_ret', v_retN, v_if, v_set, v_raise, v_asg, v_par, v_for, v_fld, v_dput, t_name, t_tup, t_ix, v_tryE, v_tryS, v_tryR, v_trySq, v_tryEq, v_hnil, v_hcons, w_isx, w_xf, w_enu, List.map_cons, List.map_nil, List.length_cons, List.length_nil, List.replicate_succ, List.replicate_zero, List.cons_append, List.nil_append, List.append_nil, List.getElem?_cons_zero, List.getElem?_cons_succ, List.set_cons_zero, List.set_cons_succ, Nat.reduceSub, Nat.reduceAdd, Nat.reduceLeDiff, Nat.reduceEqDiff, Nat.zero_add, Nat.sub_zero, if_true, if_false, ite_true, ite_false, Bool.false_eq_true, Bool.true_eq_false, Bool.not_true, Bool.not_false, true_implies, false_implies, implies_true, and_true, true_and, not_true_eq_false, not_false_eq_true, eC, tTrue, tgsCons, tgsNil, wipeE, reduceIte, reduceCtorEq, Option.some.injEq, eq_self, Int.cast_ofNat_Int, Int.reduceBEq, Int.reduceLT, Int.reduceLE, Int.reduceAdd, Int.reduceSub, beq_self_eq_true, decide_true, decide_false, Bool.or_false, Bool.or_true, Bool.false_or, Bool.true_or, Bool.and_true, Bool.true_and, Bool.and_false, Bool.false_and, Bool.not_not, decide_eq_true_eq, true_or, or_true, false_or, or_false, Nat.reduceLT, and_self]
  refine menu_mak hn (fun S => are_rows_ok (fun p hp => (hr p hp).row) nd (by omega)) (by omega) A ht1 k
end Fl
namespace Fl
open PySem PySem.Spec L2
open PyProof.Rows hiding St

theorem fmt_s {x : Str} {S : Store} (h : x.length ≤ 16777216) : fmtV (.str x) S = .ok (.str x) S := by simp only [fmtV]; rw [if_pos (by rw [sizeLine_eq]; exact h)]
theorem fmt_i {i : Int} {S : Store} (h : i.natAbs.log2 < 1920) : fmtV (.int i) S = .ok (.str (toString i : String)) S := by simp only [fmtV, h, if_true]
/-- the first line of a menu's text, as the program prints it -/
theorem head_as {nm : Str} {t : Int} {c : Bool} : (Str.empty ++ "menu " ++ nm ++ " tries " ++ ((toString t : String) : Str) ++ (if c then (" clear" : Str) else "")) = headT nm t c := by
  have e1 : ("menu " : Str) = "menu" ++ " " := by kernel_rfl
  have e2 : (" tries " : Str) = " " ++ ("tries" ++ " ") := by kernel_rfl
  have e3 : (" clear" : Str) = " " ++ "clear" := by kernel_rfl
  have e4 : ("" : Str) = Str.empty := by kernel_rfl
  unfold headT
  show _ = Builtin.Str.glued _ _
  rw [StrLaws.glued_eq_join]
  cases c
  · simp only [Bool.false_eq_true, if_false, List.append_nil, e4, Str.append_empty, Str.empty_append]
    show _ = "menu" ++ " " ++ (nm ++ " " ++ ("tries" ++ " " ++ _))
    rw [e1, e2]
    have j1 : ∀ sep x : Str, Str.join sep [x] = x := fun _ _ => rfl
    simp only [Str.append_assoc, j1]
  · simp only [if_true, Str.empty_append]
    show _ = "menu" ++ " " ++ (nm ++ " " ++ ("tries" ++ " " ++ (_ ++ " " ++ "clear")))
    rw [e1, e2, e3]
    have j1 : ∀ sep x : Str, Str.join sep [x] = x := fun _ _ => rfl
    simp only [Str.append_assoc, j1]
theorem menu_str_ok {nm a : Str} {t : Int} {c : Bool} {ps : List (Str × Str)} {S : Store} (hn : nm.length ≤ 100) (ha : a.length ≤ 1010) (hs : Shorts ps) (htr : t.natAbs.log2 < 1920) (hts : ((toString t : String) : Str).length ≤ 100) :
    f_Menu_str [.obj "Menu" (menuF nm ps a t c)] S = .ok (.str (Txt.join "\n" (headT nm t c :: ((sortP ps).map rowT ++ ["else " ++ a])))) S := by
  apply Res.wp_eq
  unfold f_Menu_str b_Menu_str
  have g1 : List.lookup ("name" : Str) (menuF nm ps a t c) = some (.str nm) := by kernel_rfl
  have g2 : List.lookup ("rows" : Str) (menuF nm ps a t c) = some (.tup (sortV (ps.map rowV))) := by kernel_rfl
  have g3 : List.lookup ("tail" : Str) (menuF nm ps a t c) = some (.str a) := by kernel_rfl
  have g4 : List.lookup ("tries" : Str) (menuF nm ps a t c) = some (.int t) := by kernel_rfl
  have g5 : List.lookup ("clears" : Str) (menuF nm ps a t c) = some (.bl c) := by kernel_rfl
  have hfew := hs.few
  have hd : ∀ S, f_head_line [.obj "Menu" (menuF nm ps a t c)] S = .ok (.str (headT nm t c)) S := fun S => by
    apply Res.wp_eq
    unfold f_head_line b_head_line
    rw [← head_as]
    have l1 : (Str.empty ++ "menu ").length ≤ sizeLine := small_size (by decide)
    have l2 : (Str.empty ++ "menu " ++ nm).length ≤ sizeLine := small_size (by rw [Str.length_append]; show 5 + _ ≤ _; omega)
    have l3 : (Str.empty ++ "menu " ++ nm ++ " tries ").length ≤ sizeLine := small_size (by rw [Str.length_append, Str.length_append]; show 5 + _ + 7 ≤ _; omega)
    have l4 : (Str.empty ++ "menu " ++ nm ++ " tries " ++ ((toString t : String) : Str)).length ≤ sizeLine := small_size (by rw [Str.length_append, Str.length_append, Str.length_append]; show 5 + _ + 7 + _ ≤ _; omega)
    have l5 : ∀ x : Str, x.length ≤ 10 → (Str.empty ++ "menu " ++ nm ++ " tries " ++ ((toString t : String) : Str) ++ x).length ≤ sizeLine := fun x hx => small_size (by rw [Str.length_append, Str.length_append, Str.length_append, Str.length_append]; show 5 + _ + 7 + _ + _ ≤ _; omega)
    have c1 : (Str.ofString " clear").length ≤ 10 := by decide
    have c2 : (Str.ofString "").length ≤ 10 := by decide
    cases c
    · simp only [insOf, g5, g1, g4, fmt_s (x := nm) (by omega), fmt_i htr, fmt_s (x := "") (by decide), l1, l2, l3, l4, l5 _ c2, w_ok, w_exc, w_stuck, w_bind, w_runB, w_var, got_some, w_e2, w_call, w_cons, w_nil, w_def, w_tup, w_lst, w_bool, w_notF, w_andF, w_orF, w_and, w_or, w_not, w_if, w_neg, w_star, w_aSeq, w_fld, w_frz, w_chain, w_m1, w_bm, w_iSeq, w_rg1, w_rg2, w_isi, w_wget, w_lc, w_cmet, w_met, w_mak, w_makL, w_jnil, w_jcons, w_fmt, w_sl, w_oNone, w_oSome, w_d0, w_dget, w_walk, v_nx, v_ret, v_exc, v_brk, v_cnt, v_stuck, v_seq', v_nx', v_exp, v_ret', v_retN, v_if, v_set, v_raise, v_asg, v_par, v_for, v_fld, v_dput, t_name, t_tup, t_ix, v_tryE, v_tryS, v_tryR, v_trySq, v_tryEq, v_hnil, v_hcons, w_isx, w_xf, w_enu, List.map_cons, List.map_nil, List.length_cons, List.length_nil, List.replicate_succ, List.replicate_zero, List.cons_append, List.nil_append, List.append_nil, List.getElem?_cons_zero, List.getElem?_cons_succ, List.set_cons_zero, List.set_cons_succ, Nat.reduceSub, Nat.reduceAdd, Nat.reduceLeDiff, Nat.reduceEqDiff, Nat.zero_add, Nat.sub_zero, if_true, if_false, ite_true, ite_false, Bool.false_eq_true, Bool.true_eq_false, Bool.not_true, Bool.not_false, true_implies, false_implies, implies_true, and_true, true_and, not_true_eq_false, not_false_eq_true, eC, tTrue, tgsCons, tgsNil, wipeE, reduceIte, reduceCtorEq, Option.some.injEq, eq_self, Int.cast_ofNat_Int, Int.reduceBEq, Int.reduceLT, Int.reduceLE, Int.reduceAdd, Int.reduceSub, beq_self_eq_true, decide_true, decide_false, Bool.or_false, Bool.or_true, Bool.false_or, Bool.true_or, Bool.and_true, Bool.true_and, Bool.and_false, Bool.false_and, Bool.not_not, decide_eq_true_eq, true_or, or_true, false_or, or_false, Nat.reduceLT, and_self]
    · simp only [insOf, g5, g1, g4, fmt_s (x := nm) (by omega), fmt_i htr, fmt_s (x := " clear") (by decide), l1, l2, l3, l4, l5 _ c1, w_ok, w_exc, w_stuck, w_bind, w_runB, w_var, got_some, w_e2, w_call, w_cons, w_nil, w_def, w_tup, w_lst, w_bool, w_notF, w_andF, w_orF, w_and, w_or, w_not, w_if, w_neg, w_star, w_aSeq, w_fld, w_frz, w_chain, w_m1, w_bm, w_iSeq, w_rg1, w_rg2, w_isi, w_wget, w_lc, w_cmet, w_met, w_mak, w_makL, w_jnil, w_jcons, w_fmt, w_sl, w_oNone, w_oSome, w_d0, w_dget, w_walk, v_nx, v_ret, v_exc, v_brk, v_cnt, v_stuck, v_seq', v_nx', v_exp, v_ret', v_retN, v_if, v_set, v_raise, v_asg, v_par, v_for, v_fld, v_dput, t_name, t_tup, t_ix, v_tryE, v_tryS, v_tryR, v_trySq, v_tryEq, v_hnil, v_hcons, w_isx, w_xf, w_enu, List.map_cons, List.map_nil, List.length_cons, List.length_nil, List.replicate_succ, List.replicate_zero, List.cons_append, List.nil_append, List.append_nil, List.getElem?_cons_zero, List.getElem?_cons_succ, List.set_cons_zero, List.set_cons_succ, Nat.reduceSub, Nat.reduceAdd, Nat.reduceLeDiff, Nat.reduceEqDiff, Nat.zero_add, Nat.sub_zero, if_true, if_false, ite_true, ite_false, Bool.false_eq_true, Bool.true_eq_false, Bool.not_true, Bool.not_false, true_implies, false_implies, implies_true, and_true, true_and, not_true_eq_false, not_false_eq_true, eC, tTrue, tgsCons, tgsNil, wipeE, reduceIte, reduceCtorEq, Option.some.injEq, eq_self, Int.cast_ofNat_Int, Int.reduceBEq, Int.reduceLT, Int.reduceLE, Int.reduceAdd, Int.reduceSub, beq_self_eq_true, decide_true, decide_false, Bool.or_false, Bool.or_true, Bool.false_or, Bool.true_or, Bool.and_true, Bool.true_and, Bool.and_false, Bool.false_and, Bool.not_not, decide_eq_true_eq, true_or, or_true, false_or, or_false, Nat.reduceLT, and_self]
  have l1 : lcGo (tgTup 2 (tgsCons 2 (tgsCons 3 tgsNil))) tTrue (jGo [(eFmt (eVar 2)), (eC (.str " ")), (eFmt (eVar 3))] Str.empty) [some (.obj "Menu" (menuF nm ps a t c)), none, none, none] ((sortP ps).map rowV) [] S = .ok ([] ++ (sortP ps).map fun p => .str (rowT p)) S := by
    refine lc_map2 (fun p hp => ?_) (by rw [sortP_len]; exact small_size (by simp; omega))
    obtain ⟨b1, b2⟩ := hs.short p ((sortP_pm ps).subset hp)
    refine ⟨_, rfl, ?_⟩
    apply Res.wp_eq
    have q1 : (Str.empty ++ p.1).length ≤ sizeLine := small_size (by rw [Str.length_append]; show 0 + _ ≤ _; omega)
    have q2 : (Str.empty ++ p.1 ++ " ").length ≤ sizeLine := small_size (by rw [Str.length_append, Str.length_append]; show 0 + _ + 1 ≤ _; omega)
    have q3 : (Str.empty ++ p.1 ++ " " ++ p.2).length ≤ sizeLine := small_size (by rw [Str.length_append, Str.length_append, Str.length_append]; show 0 + _ + 1 + _ ≤ _; omega)
    simp only [Str.empty_append] at q1 q2 q3
    simp only [fmt_s (x := p.1) (by omega), fmt_s (x := p.2) (by omega), q1, q2, q3, Str.empty_append, rowT, w_ok, w_exc, w_stuck, w_bind, w_runB, w_var, got_some, w_e2, w_call, w_cons, w_nil, w_def, w_tup, w_lst, w_bool, w_notF, w_andF, w_orF, w_and, w_or, w_not, w_if, w_neg, w_star, w_aSeq, w_fld, w_frz, w_chain, w_m1, w_bm, w_iSeq, w_rg1, w_rg2, w_isi, w_wget, w_lc, w_cmet, w_met, w_mak, w_makL, w_jnil, w_jcons, w_fmt, w_sl, w_oNone, w_oSome, w_d0, w_dget, w_walk, v_nx, v_ret, v_exc, v_brk, v_cnt, v_stuck, v_seq', v_nx', v_exp, v_ret', v_retN, v_if, v_set, v_raise, v_asg, v_par, v_for, v_fld, v_dput, t_name, t_tup, t_ix, v_tryE, v_tryS, v_tryR, v_trySq, v_tryEq, v_hnil, v_hcons, w_isx, w_xf, w_enu, List.map_cons, List.map_nil, List.length_cons, List.length_nil, List.replicate_succ, List.replicate_zero, List.cons_append, List.nil_append, List.append_nil, List.getElem?_cons_zero, List.getElem?_cons_succ, List.set_cons_zero, List.set_cons_succ, Nat.reduceSub, Nat.reduceAdd, Nat.reduceLeDiff, Nat.reduceEqDiff, Nat.zero_add, Nat.sub_zero, if_true, if_false, ite_true, ite_false, Bool.false_eq_true, Bool.true_eq_false, Bool.not_true, Bool.not_false, true_implies, false_implies, implies_true, and_true, true_and, not_true_eq_false, not_false_eq_true, eC, tTrue, tgsCons, tgsNil, wipeE, reduceIte, reduceCtorEq, Option.some.injEq, eq_self, Int.cast_ofNat_Int, Int.reduceBEq, Int.reduceLT, Int.reduceLE, Int.reduceAdd, Int.reduceSub, beq_self_eq_true, decide_true, decide_false, Bool.or_false, Bool.or_true, Bool.false_or, Bool.true_or, Bool.and_true, Bool.true_and, Bool.and_false, Bool.false_and, Bool.not_not, decide_eq_true_eq, true_or, or_true, false_or, or_false, Nat.reduceLT, and_self]
  have ht : ((Str.empty ++ "else ") ++ a).length ≤ sizeLine := small_size (by rw [Str.length_append]; show 5 + _ ≤ _; omega)
  have ht0 : (Str.empty ++ "else ").length ≤ sizeLine := small_size (by decide)
  simp only [Str.empty_append] at ht ht0
  have hz : ((.str (headT nm t c)) :: (((sortP ps).map fun p => Val.str (rowT p)) ++ [Val.str ("else " ++ a)])).length ≤ sizeLine := small_size (by simp [sortP_len]; omega)
  have hj : ∀ S, mJoin (.str "\n") [.lst ((.str (headT nm t c)) :: (((sortP ps).map fun p => Val.str (rowT p)) ++ [Val.str ("else " ++ a)]))] S = .ok (.str (Txt.join "\n" (headT nm t c :: ((sortP ps).map rowT ++ ["else " ++ a])))) S := fun S => by
    have e : ((.str (headT nm t c)) :: (((sortP ps).map fun p => Val.str (rowT p)) ++ [Val.str ("else " ++ a)])) = (headT nm t c :: ((sortP ps).map rowT ++ ["else " ++ a])).map Val.str := by simp
    rw [e]
    refine join_l ?_
    have hb : ∀ l ∈ (headT nm t c :: ((sortP ps).map rowT ++ ["else " ++ a])), l.length ≤ 2000 := by
      intro l hl
      rcases List.mem_cons.mp hl with rfl | hl
      · have : (headT nm t c).length ≤ 1010 := (headT_words hn hts).len
        omega
      · rcases List.mem_append.mp hl with hl | hl
        · obtain ⟨p, hp, rfl⟩ := List.mem_map.mp hl
          have := hs.short p ((sortP_pm ps).subset hp)
          unfold rowT
          rw [Str.length_append, Str.length_append]
          show _ + 1 + _ ≤ _
          omega
        · rw [List.mem_singleton.mp hl, Str.length_append]
          show 5 + _ ≤ _
          omega
    have h1 := sum_small hb
    have h2 : (headT nm t c :: ((sortP ps).map rowT ++ ["else " ++ a])).length = ps.length + 2 := by simp [sortP_len]
    show _ + _ * 1 ≤ _
    omega
  rw [List.length_cons] at hz
  simp only [insOf, g2, itmF, sortV_rows, l1, mkL, hd, seqOf, lstOf, lstX, g3, fmt_s (x := a) (by omega), ht, ht0, Str.empty_append, hz, hj, w_ok, w_exc, w_stuck, w_bind, w_runB, w_var, got_some, w_e2, w_call, w_cons, w_nil, w_def, w_tup, w_lst, w_bool, w_notF, w_andF, w_orF, w_and, w_or, w_not, w_if, w_neg, w_star, w_aSeq, w_fld, w_frz, w_chain, w_m1, w_bm, w_iSeq, w_rg1, w_rg2, w_isi, w_wget, w_lc, w_cmet, w_met, w_mak, w_makL, w_jnil, w_jcons, w_fmt, w_sl, w_oNone, w_oSome, w_d0, w_dget, w_walk, v_nx, v_ret, v_exc, v_brk, v_cnt, v_stuck, v_seq', v_nx', v_exp, v_ret', v_retN, v_if, v_set, v_raise, v_asg, v_par, v_for, v_fld, v_dput, t_name, t_tup, t_ix, v_tryE, v_tryS, v_tryR, v_trySq, v_tryEq, v_hnil, v_hcons, w_isx, w_xf, w_enu, List.map_cons, List.map_nil, List.length_cons, List.length_nil, List.replicate_succ, List.replicate_zero, List.cons_append, List.nil_append, List.append_nil, List.getElem?_cons_zero, List.getElem?_cons_succ, List.set_cons_zero, List.set_cons_succ, Nat.reduceSub, Nat.reduceAdd, Nat.reduceLeDiff, Nat.reduceEqDiff, Nat.zero_add, Nat.sub_zero, if_true, if_false, ite_true, ite_false, Bool.false_eq_true, Bool.true_eq_false, Bool.not_true, Bool.not_false, true_implies, false_implies, implies_true, and_true, true_and, not_true_eq_false, not_false_eq_true, eC, tTrue, tgsCons, tgsNil, wipeE, reduceIte, reduceCtorEq, Option.some.injEq, eq_self, Int.cast_ofNat_Int, Int.reduceBEq, Int.reduceLT, Int.reduceLE, Int.reduceAdd, Int.reduceSub, beq_self_eq_true, decide_true, decide_false, Bool.or_false, Bool.or_true, Bool.false_or, Bool.true_or, Bool.and_true, Bool.true_and, Bool.and_false, Bool.false_and, Bool.not_not, decide_eq_true_eq, true_or, or_true, false_or, or_false, Nat.reduceLT, and_self]
end Fl
namespace Fl
open PySem PySem.Spec L2
open PyProof.Rows hiding St

/-! the drawn menus of this law: facts of finitely many texts -/
def NA : List Str := ["top", "pay", "ask", "bye", "m", "mm", "zzzz", "tell"]
def D7 : List Str := ["0", "1", "2", "3", "4", "5", "9"]
def DL : List (List Str) := ([["line", "cash"], ["line", "desk"], ["line", "a"], ["line", "x"], ["back"], ["again"], ["main"], ["out"]] : List (List Str)) ++ NA.map (fun n => (["go", n] : List Str)) ++ NA.flatMap fun n => NA.map fun m => (["call", n, m] : List Str)
theorem deed_in {names ws : List Str} (hN : ∀ n ∈ names, n ∈ NA) (h : Deed names ws) : ws ∈ DL := by
  unfold DL
  simp only [List.mem_append]
  rcases h with ⟨l, hl, rfl⟩ | ⟨n, hn, rfl⟩ | ⟨n, hn, m, hm, rfl⟩ | rfl | rfl | rfl
  · simp only [List.mem_cons, List.not_mem_nil, or_false] at hl
    rcases hl with rfl | rfl | rfl | rfl <;> exact .inl (.inl (by decide))
  · exact .inl (.inr (List.mem_map.mpr ⟨n, hN n hn, rfl⟩))
  · exact .inr (List.mem_flatMap.mpr ⟨n, hN n hn, List.mem_map.mpr ⟨m, hN m hm, rfl⟩⟩)
  · exact .inl (.inl (by decide))
  · exact .inl (.inl (by decide))
  · exact .inl (.inl (by decide))
theorem all_in {α β : Type} {l : List α} {f g : α → β} (h : l.map f = l.map g) : ∀ a ∈ l, f a = g a := List.map_inj_left.mp h
theorem dl_act : ∀ ws ∈ DL, ActOk (Txt.join " " ws) := fun ws hw S => all_in (f := fun ws => f_is_action [.str (Txt.join " " ws)] S) (g := fun _ => .ok (.bl true) S) (by kernel_rfl) ws hw
theorem d7_dig : ∀ d ∈ D7, ∀ S, f_is_digit [.str d] S = .ok (.bl true) S := fun d hd S => all_in (f := fun d => f_is_digit [.str d] S) (g := fun _ => .ok (.bl true) S) (by kernel_rfl) d hd
def pairsL : List (Str × List Str) := D7.flatMap fun d => DL.map fun ws => (d, ws)
theorem pair_in {d : Str} {ws : List Str} (hd : d ∈ D7) (hw : ws ∈ DL) : (d, ws) ∈ pairsL := List.mem_flatMap.mpr ⟨d, hd, List.mem_map.mpr ⟨ws, hw, rfl⟩⟩
def headsL : List (Str × Int × Bool) := NA.flatMap fun n => ([1, 2, 3] : List Int).flatMap fun t => [(n, t, true), (n, t, false)]
theorem head_in {n : Str} {t : Int} {c : Bool} (hn : n ∈ NA) (ht : t = 1 ∨ t = 2 ∨ t = 3) : (n, t, c) ∈ headsL := by
  refine List.mem_flatMap.mpr ⟨n, hn, ?_⟩
  rcases ht with rfl | rfl | rfl <;> cases c <;> simp
theorem nm_ok : ∀ n ∈ NA, NameOk n := fun n hn S => all_in (f := fun n => f_is_name [.str n] S) (g := fun _ => .ok (.bl true) S) (by kernel_rfl) n hn
def plain (x : Str) : Bool := x.cps.toList.all fun c => c != 10 && decide (c < 0x110000)
theorem plain_nl {x : Str} (h : plain x = true) : 10 ∉ x.cps.toList := fun hm => by
  have := List.all_eq_true.mp h 10 hm
  exact absurd this (by decide)
theorem plain_ok {x : Str} (h : plain x = true) : TxOk x := TxOk.iff.mpr fun n hn => by
  have := List.all_eq_true.mp h n hn
  simp only [Bool.and_eq_true] at this
  exact of_decide_eq_true this.2
theorem row_plain : ∀ r ∈ pairsL, plain (rowT (pairOf r)) = true ∧ plain r.1 = true := by
  have h : pairsL.all (fun r => plain (rowT (pairOf r)) && plain r.1) = true := by decide +kernel
  intro r hr
  exact Bool.and_eq_true_iff.mp (List.all_eq_true.mp h r hr)
theorem tail_plain : ∀ ws ∈ DL, plain (tailT ws) = true ∧ plain (Txt.join " " ws) = true := by
  have h : DL.all (fun ws => plain (tailT ws) && plain (Txt.join " " ws)) = true := by decide +kernel
  intro r hr
  exact Bool.and_eq_true_iff.mp (List.all_eq_true.mp h r hr)
theorem head_plain : ∀ q ∈ headsL, plain (headT q.1 q.2.1 q.2.2) = true ∧ plain q.1 = true := by
  have h : headsL.all (fun q => plain (headT q.1 q.2.1 q.2.2) && plain q.1) = true := by decide +kernel
  intro r hr
  exact Bool.and_eq_true_iff.mp (List.all_eq_true.mp h r hr)
theorem dl_words : ∀ ws ∈ DL, Words ws := by
  have h : DL.all (fun ws => decide (ws.length ≤ 10) && ws.all fun w => decide (w.length ≤ 100)) = true := by decide +kernel
  intro ws hw
  obtain ⟨a, b⟩ := Bool.and_eq_true_iff.mp (List.all_eq_true.mp h ws hw)
  exact ⟨of_decide_eq_true a, fun w hw => of_decide_eq_true (List.all_eq_true.mp b w hw)⟩
theorem d7_len : ∀ d ∈ D7, d.length ≤ 100 := by
  have h : D7.all (fun d => decide (d.length ≤ 100)) = true := by decide +kernel
  exact fun d hd => of_decide_eq_true (List.all_eq_true.mp h d hd)
theorem row_ok {r : Str × List Str} (hd : r.1 ∈ D7) (hw : r.2 ∈ DL) : RowOk (pairOf r) := is_row_ok (d7_dig _ hd) (dl_act _ hw)
/-- rows as a dict, walked -/
theorem rows_lc {env0 : Env} {j d : Nat} {fo : EF} {rows : List (Str × List Str)} {S : Store} (hj : j < env0.length) (hfo : ∀ x, fo (env0.set j (some x)) S = .ok (.ref d) S) (hk : S[d]? = some (false, .lck (rowsD rows))) (nd : (rows.map (·.1)).Nodup) (hl : rows.length ≤ 100) (hw : ∀ p ∈ rows, Words p.2) :
    lcGo (tgName j) tTrue (eTup (aCons (eVar j) (aCons (eM1 mJoin (eC (.str " ")) (eDGet fo (eVar j))) aNil))) env0 ((rowsD rows).map fun p => .str p.1) [] S = .ok ((rows.map pairOf).map rowV) S := by
  have z2 : 2 ≤ sizeLine := small_size (by decide)
  rw [show ((rowsD rows).map fun p => Val.str p.1) = rows.map fun r => Val.str r.1 from by simp [rowsD], List.map_map]
  refine lc_map2 (fun r hr => ?_) (by simp; exact small_size (by omega))
  refine ⟨env0.set j (some (.str r.1)), rfl, ?_⟩
  have gv : (env0.set j (some (.str r.1)))[j]? = some (some (.str r.1)) := List.getElem?_set_self hj
  apply Res.wp_eq
  simp only [hfo, dctOf, hk, valD_of nd hr, join_w (hw r hr), z2, pairOf, rowV, gv, Function.comp, w_ok, w_exc, w_stuck, w_bind, w_runB, w_var, got_some, w_e2, w_call, w_cons, w_nil, w_def, w_tup, w_lst, w_bool, w_notF, w_andF, w_orF, w_and, w_or, w_not, w_if, w_neg, w_star, w_aSeq, w_fld, w_frz, w_chain, w_m1, w_bm, w_iSeq, w_rg1, w_rg2, w_isi, w_wget, w_lc, w_cmet, w_met, w_mak, w_makL, w_jnil, w_jcons, w_fmt, w_sl, w_oNone, w_oSome, w_d0, w_dget, w_walk, v_nx, v_ret, v_exc, v_brk, v_cnt, v_stuck, v_seq', v_nx', v_exp, v_ret', v_retN, v_if, v_set, v_raise, v_asg, v_par, v_for, v_fld, v_dput, t_name, t_tup, t_ix, v_tryE, v_tryS, v_tryR, v_trySq, v_tryEq, v_hnil, v_hcons, w_isx, w_xf, w_enu, List.map_cons, List.map_nil, List.length_cons, List.length_nil, List.replicate_succ, List.replicate_zero, List.cons_append, List.nil_append, List.append_nil, List.getElem?_cons_zero, List.getElem?_cons_succ, List.set_cons_zero, List.set_cons_succ, Nat.reduceSub, Nat.reduceAdd, Nat.reduceLeDiff, Nat.reduceEqDiff, Nat.zero_add, Nat.sub_zero, if_true, if_false, ite_true, ite_false, Bool.false_eq_true, Bool.true_eq_false, Bool.not_true, Bool.not_false, true_implies, false_implies, implies_true, and_true, true_and, not_true_eq_false, not_false_eq_true, eC, tTrue, tgsCons, tgsNil, wipeE, reduceIte, reduceCtorEq, Option.some.injEq, eq_self, Int.cast_ofNat_Int, Int.reduceBEq, Int.reduceLT, Int.reduceLE, Int.reduceAdd, Int.reduceSub, beq_self_eq_true, decide_true, decide_false, Bool.or_false, Bool.or_true, Bool.false_or, Bool.true_or, Bool.and_true, Bool.true_and, Bool.and_false, Bool.false_and, Bool.not_not, decide_eq_true_eq, true_or, or_true, false_or, or_false, Nat.reduceLT, and_self]
end Fl
namespace Fl
open PySem PySem.Spec L2
open PyProof.Rows hiding St

theorem row_part : ∀ r ∈ pairsL, ∀ S, mPart (.str (rowT (pairOf r))) [.str " "] S = .ok (.tup [.str (pairOf r).1, .str " ", .str (pairOf r).2]) S := fun r hr S =>
  all_in (f := fun r => mPart (.str (rowT (pairOf r))) [.str " "] S) (g := fun r => .ok (.tup [.str (pairOf r).1, .str " ", .str (pairOf r).2]) S) (by kernel_rfl) r hr
theorem d7_ne : ∀ d ∈ D7, ∀ S, vEq (.str d) (.str "else") S = .ok (.bl false) S := fun d hd S => all_in (f := fun d => vEq (.str d) (.str "else") S) (g := fun _ => .ok (.bl false) S) (by kernel_rfl) d hd
theorem row_line {r : Str × List Str} (hd : r.1 ∈ D7) (hw : r.2 ∈ DL) : LineOk (rowT (pairOf r)) (pairOf r) := ⟨row_part r (pair_in hd hw), is_row_ok (d7_dig _ hd) (dl_act _ hw), d7_ne _ hd⟩
theorem tail_part : ∀ ws ∈ DL, ∀ S, mPart (.str (tailT ws)) [.str " "] S = .ok (.tup [.str "else", .str " ", .str (Txt.join " " ws)]) S := fun ws hw S =>
  all_in (f := fun ws => mPart (.str (tailT ws)) [.str " "] S) (g := fun ws => .ok (.tup [.str "else", .str " ", .str (Txt.join " " ws)]) S) (by kernel_rfl) ws hw
theorem head_read : ∀ q ∈ headsL, ∀ S, f_read_head [.str (headT q.1 q.2.1 q.2.2)] S = .ok (.tup [.str q.1, .int q.2.1, .bl q.2.2]) S := by
  intro q hq S
  have h : headsL.map (fun q => f_read_head [.str (headT q.1 q.2.1 q.2.2)] S) = headsL.map (fun q => .ok (.tup [.str q.1, .int q.2.1, .bl q.2.2]) S) := by kernel_rfl
  exact List.map_inj_left.mp h q hq
end Fl
namespace Fl
open PySem PySem.Spec L2
open PyProof.Rows hiding St

/-! menus with wrong arguments -/
def wrongV (b0 b1 b2 b3 b4 : Bool) : Val := if b0 then (if b1 then (if b2 then (if b3 then (if b4 then .non else .str "clears") else .str "tries") else .str "tail") else .str "rows") else .str "name"
theorem wrong_any {v0 v1 v2 v3 v4 : Val} {b0 b1 b2 b3 b4 : Bool} {k4 : TK} {S : Store} (h0 : f_is_name [v0] S = .ok (.bl b0) S) (h1 : f_are_rows [v1] S = .ok (.bl b1) S) (h2 : f_is_action [v2] S = .ok (.bl b2) S)
    (h3 : f_are_tries [v3] S = .ok (.bl b3) S) (h4 : tyK S v4 = some k4) (h5 : isBl k4 = b4) : f_wrong_argument [v0, v1, v2, v3, v4] S = .ok (wrongV b0 b1 b2 b3 b4) S := by
  apply Res.wp_eq
  unfold f_wrong_argument b_wrong_argument
  have z5 : 5 ≤ sizeLine := small_size (by decide)
  have z2 : 2 ≤ sizeLine := small_size (by decide)
  simp only [h0, h1, h2, h3, h4, h5, z5, z2, itmF, v_forC, v_forN, seqOf, w_ok, w_exc, w_stuck, w_bind, w_runB, w_var, got_some, w_e2, w_call, w_cons, w_nil, w_def, w_tup, w_lst, w_bool, w_notF, w_andF, w_orF, w_and, w_or, w_not, w_if, w_neg, w_star, w_aSeq, w_fld, w_frz, w_chain, w_m1, w_bm, w_iSeq, w_rg1, w_rg2, w_isi, w_wget, w_lc, w_cmet, w_met, w_mak, w_makL, w_jnil, w_jcons, w_fmt, w_sl, w_oNone, w_oSome, w_d0, w_dget, w_walk, v_nx, v_ret, v_exc, v_brk, v_cnt, v_stuck, v_seq', v_nx', v_exp, v_ret', v_retN, v_if, v_set, v_raise, v_asg, v_par, v_for, v_fld, v_dput, t_name, t_tup, t_ix, v_tryE, v_tryS, v_tryR, v_trySq, v_tryEq, v_hnil, v_hcons, w_isx, w_xf, w_enu, List.map_cons, List.map_nil, List.length_cons, List.length_nil, List.replicate_succ, List.replicate_zero, List.cons_append, List.nil_append, List.append_nil, List.getElem?_cons_zero, List.getElem?_cons_succ, List.set_cons_zero, List.set_cons_succ, Nat.reduceSub, Nat.reduceAdd, Nat.reduceLeDiff, Nat.reduceEqDiff, Nat.zero_add, Nat.sub_zero, if_true, if_false, ite_true, ite_false, Bool.false_eq_true, Bool.true_eq_false, Bool.not_true, Bool.not_false, true_implies, false_implies, implies_true, and_true, true_and, not_true_eq_false, not_false_eq_true, eC, tTrue, tgsCons, tgsNil, wipeE, reduceIte, reduceCtorEq, Option.some.injEq, eq_self, Int.cast_ofNat_Int, Int.reduceBEq, Int.reduceLT, Int.reduceLE, Int.reduceAdd, Int.reduceSub, beq_self_eq_true, decide_true, decide_false, Bool.or_false, Bool.or_true, Bool.false_or, Bool.true_or, Bool.and_true, Bool.true_and, Bool.and_false, Bool.false_and, Bool.not_not, decide_eq_true_eq, true_or, or_true, false_or, or_false, Nat.reduceLT, and_self]
  cases b0 <;> cases b1 <;> cases b2 <;> cases b3 <;> cases b4 <;> simp [wrongV]
  all_goals simp only [w_ok, w_exc, w_stuck, w_bind, w_runB, w_var, got_some, w_e2, w_call, w_cons, w_nil, w_def, w_tup, w_lst, w_bool, w_notF, w_andF, w_orF, w_and, w_or, w_not, w_if, w_neg, w_star, w_aSeq, w_fld, w_frz, w_chain, w_m1, w_bm, w_iSeq, w_rg1, w_rg2, w_isi, w_wget, w_lc, w_cmet, w_met, w_mak, w_makL, w_jnil, w_jcons, w_fmt, w_sl, w_oNone, w_oSome, w_d0, w_dget, w_walk, v_nx, v_ret, v_exc, v_brk, v_cnt, v_stuck, v_seq', v_nx', v_exp, v_ret', v_retN, v_if, v_set, v_raise, v_asg, v_par, v_for, v_fld, v_dput, t_name, t_tup, t_ix, v_tryE, v_tryS, v_tryR, v_trySq, v_tryEq, v_hnil, v_hcons, w_isx, w_xf, w_enu, List.map_cons, List.map_nil, List.length_cons, List.length_nil, List.replicate_succ, List.replicate_zero, List.cons_append, List.nil_append, List.append_nil, List.getElem?_cons_zero, List.getElem?_cons_succ, List.set_cons_zero, List.set_cons_succ, Nat.reduceSub, Nat.reduceAdd, Nat.reduceLeDiff, Nat.reduceEqDiff, Nat.zero_add, Nat.sub_zero, if_true, if_false, ite_true, ite_false, Bool.false_eq_true, Bool.true_eq_false, Bool.not_true, Bool.not_false, true_implies, false_implies, implies_true, and_true, true_and, not_true_eq_false, not_false_eq_true, eC, tTrue, tgsCons, tgsNil, wipeE, reduceIte, reduceCtorEq, Option.some.injEq, eq_self, Int.cast_ofNat_Int, Int.reduceBEq, Int.reduceLT, Int.reduceLE, Int.reduceAdd, Int.reduceSub, beq_self_eq_true, decide_true, decide_false, Bool.or_false, Bool.or_true, Bool.false_or, Bool.true_or, Bool.and_true, Bool.true_and, Bool.and_false, Bool.false_and, Bool.not_not, decide_eq_true_eq, true_or, or_true, false_or, or_false, Nat.reduceLT, and_self]
end Fl
namespace Fl
open PySem PySem.Spec L2
open PyProof.Rows hiding St

/-! any values -/
theorem Res.wp_ok {α : Type} {r : Res α} {Q : α → Store → Prop} (h : r.wp Q (fun _ _ _ => False)) : ∃ a S, r = .ok a S ∧ Q a S := by
  cases r with
  | ok a S => exact ⟨a, S, rfl, h.run⟩
  | exc c fs S => exact h.run.elim
  | stuck => exact h.run.elim
def anyL : List Val := [.non, .bl true, .bl false, .int 0, .int 1, .int (-3), .int 100000000000000000000, .str "", .str "out", .str "line", .str "5x", .str "Pay", .str "a b", .str "abcde", .tup [], .lst []]
inductive AnyV : Nat → Val → Prop
  | leaf {n : Nat} {v : Val} : v ∈ anyL → AnyV n v
  | lst {n : Nat} {ys : List Val} : (∀ y ∈ ys, AnyV n y) → ys.length ≤ 2 → AnyV (n + 1) (.lst ys)
  | tup {n : Nat} {ys : List Val} : (∀ y ∈ ys, AnyV n y) → ys.length ≤ 2 → AnyV (n + 1) (.tup ys)
def isOut : Val → Bool
  | .str z => z == "out"
  | _ => false
/-- what is data of so many levels at most -/
structure DatN (n : Nat) (v : Val) (d : PyData) : Prop where
  to : toD v = some d
  ok : d.canLay0 = true
  dep : d.depth ≤ n
theorem datNs {n : Nat} : ∀ {ys : List Val}, (∀ y ∈ ys, ∃ d, DatN n y d) → ∃ ds, toDs ys = some ds ∧ PyData.canLayAll0 ds = true ∧ PyData.depthAll ds ≤ n
  | [], _ => ⟨[], rfl, rfl, Nat.zero_le _⟩
  | y :: ys, h => by
    obtain ⟨d, h1, h2, h3⟩ := h y List.mem_cons_self
    obtain ⟨ds, g1, g2, g3⟩ := datNs (fun z hz => h z (List.mem_cons_of_mem _ hz))
    refine ⟨d :: ds, by simp only [toDs, h1, g1], by simp only [PyData.canLayAll0, h2, g2, Bool.and_self], ?_⟩
    show max (PyData.depth d) (PyData.depthAll ds) ≤ n
    omega
theorem any_dat {n : Nat} {v : Val} (h : AnyV n v) : ∃ d, DatN (n + 1) v d := by
  induction h with
  | @leaf n v h =>
    have e : ∀ v ∈ anyL, (match toD v with | some d => d.canLay0 && decide (d.depth ≤ 1) | none => false) = true := by
      have := List.map_inj_left.mp (show anyL.map (fun v => match toD v with | some d => d.canLay0 && decide (d.depth ≤ 1) | none => false) = anyL.map (fun _ => true) by kernel_rfl)
      exact this
    have := e v h
    split at this
    · rename_i d hd
      obtain ⟨a, b⟩ := Bool.and_eq_true_iff.mp this
      exact ⟨d, hd, a, Nat.le_trans (of_decide_eq_true b) (by omega)⟩
    · cases this
  | lst h hl ih =>
    obtain ⟨ds, g1, g2, g3⟩ := datNs ih
    exact ⟨.list ds, by simp only [toD, g1, Option.map_some], g2, Nat.succ_le_succ g3⟩
  | tup h hl ih =>
    obtain ⟨ds, g1, g2, g3⟩ := datNs ih
    exact ⟨.tuple ds, by simp only [toD, g1, Option.map_some], g2, Nat.succ_le_succ g3⟩
theorem any_in {n : Nat} {v : Val} (h : AnyV n v) (hn : n ≤ 60) {S : Store} : vInA false v (.tup [.str "out"]) S = .ok (.bl (isOut v)) S := by
  obtain ⟨d, h1, h2, h3⟩ := any_dat h
  have sd : SeqAt.shaped d = true := Bool.and_eq_true_iff.mpr ⟨h2, decide_eq_true (by omega)⟩
  have so : SeqAt.shaped (.tuple [.str "out"]) = true := by kernel_rfl
  cases h with
  | leaf h => exact List.map_inj_left.mp (show anyL.map (fun v => vInA false v (.tup [.str "out"]) S) = anyL.map (fun v => .ok (.bl (isOut v)) S) by kernel_rfl) v h
  | @lst n ys h _ =>
    have e1 : vIn false (.lst ys) (.tup [.str "out"]) S = .stuck := by kernel_rfl
    have e2 : toDS S (.lst ys) = some d := h1
    have e3 : toDS S (.tup [.str "out"]) = some (.tuple [.str "out"]) := rfl
    have e4 : inD false d [.str "out"] = false := by
      simp only [toD] at h1
      cases e : toDs ys with
      | none => rw [e] at h1; cases h1
      | some ds => rw [e] at h1; cases h1; rfl
    simp only [vInA, e1, e2, e3, sd, so, Bool.and_self, if_true, e4]
    rfl
  | @tup n ys h _ =>
    have e1 : vIn false (.tup ys) (.tup [.str "out"]) S = .stuck := by kernel_rfl
    have e2 : toDS S (.tup ys) = some d := h1
    have e3 : toDS S (.tup [.str "out"]) = some (.tuple [.str "out"]) := rfl
    have e4 : inD false d [.str "out"] = false := by
      simp only [toD] at h1
      cases e : toDs ys with
      | none => rw [e] at h1; cases h1
      | some ds => rw [e] at h1; cases h1; rfl
    simp only [vInA, e1, e2, e3, sd, so, Bool.and_self, if_true, e4]
    rfl
theorem any_name {n : Nat} {v : Val} (h : AnyV n v) {S : Store} : f_is_name [v] S = .ok (.bl false) S := by
  cases h with
  | leaf h => exact List.map_inj_left.mp (show anyL.map (fun v => f_is_name [v] S) = anyL.map (fun _ => .ok (.bl false) S) by kernel_rfl) v h
  | lst h _ => kernel_rfl
  | tup h _ => kernel_rfl
theorem any_act {n : Nat} {v : Val} (h : AnyV n v) {S : Store} : f_is_action [v] S = .ok (.bl (isOut v)) S := by
  cases h with
  | leaf h => exact List.map_inj_left.mp (show anyL.map (fun v => f_is_action [v] S) = anyL.map (fun v => .ok (.bl (isOut v)) S) by kernel_rfl) v h
  | lst h _ => kernel_rfl
  | tup h _ => kernel_rfl
theorem any_body {g : BF} {n : Nat} {S : Store} {i : Nat} {Q : Val → Store → Prop} {X : XP} (hb : Box S i) (hn : n ≤ 100)
    (ih : ∀ n', n = n' + 1 → ∀ {S : Store} {Q : Val → Store → Prop} {X : XP}, Box S i → (∀ v S', AnyV n' v → Kp i S S' → Q v S') → (g [.ref i, .int n'] S).wp Q X)
    (k : ∀ v S', AnyV n v → Kp i S S' → Q v S') : (runB 6 (b_l_anything g) [.ref i, .int n] S).wp Q X := by
  unfold b_l_anything
  have hp : ∀ S, vPow (.int 10) (.int 20) S = .ok (.int 100000000000000000000) S := fun S => by kernel_rfl
  have z16 : 16 ≤ sizeLine := small_size (by decide)
  have zz : ∀ n : Nat, n ≤ 16 → n ≤ sizeLine := fun n hn => Nat.le_trans hn z16
  simp only [hp, lt_ii, w_ite, v_ite, w_ok, w_exc, w_stuck, w_bind, w_runB, w_var, got_some, w_e2, w_call, w_cons, w_nil, w_def, w_tup, w_lst, w_bool, w_notF, w_andF, w_orF, w_and, w_or, w_not, w_if, w_neg, w_star, w_aSeq, w_fld, w_frz, w_chain, w_m1, w_bm, w_iSeq, w_rg1, w_rg2, w_isi, w_wget, w_lc, w_cmet, w_met, w_mak, w_makL, w_jnil, w_jcons, w_fmt, w_sl, w_oNone, w_oSome, w_d0, w_dget, w_walk, v_nx, v_ret, v_exc, v_brk, v_cnt, v_stuck, v_seq', v_nx', v_exp, v_ret', v_retN, v_if, v_set, v_raise, v_asg, v_par, v_for, v_fld, v_dput, t_name, t_tup, t_ix, v_tryE, v_tryS, v_tryR, v_trySq, v_tryEq, v_hnil, v_hcons, w_isx, w_xf, w_enu, List.map_cons, List.map_nil, List.length_cons, List.length_nil, List.replicate_succ, List.replicate_zero, List.cons_append, List.nil_append, List.append_nil, List.getElem?_cons_zero, List.getElem?_cons_succ, List.set_cons_zero, List.set_cons_succ, Nat.reduceSub, Nat.reduceAdd, Nat.reduceLeDiff, Nat.reduceEqDiff, Nat.zero_add, Nat.sub_zero, if_true, if_false, ite_true, ite_false, Bool.false_eq_true, Bool.true_eq_false, Bool.not_true, Bool.not_false, true_implies, false_implies, implies_true, and_true, true_and, not_true_eq_false, not_false_eq_true, eC, tTrue, tgsCons, tgsNil, wipeE, reduceIte, reduceCtorEq, Option.some.injEq, eq_self, Int.cast_ofNat_Int, Int.reduceBEq, Int.reduceLT, Int.reduceLE, Int.reduceAdd, Int.reduceSub, beq_self_eq_true, decide_true, decide_false, Bool.or_false, Bool.or_true, Bool.false_or, Bool.true_or, Bool.and_true, Bool.true_and, Bool.and_false, Bool.false_and, Bool.not_not, decide_eq_true_eq, true_or, or_true, false_or, or_false, Nat.reduceLT, and_self]
  refine choose_k hb (by decide) (fun r S1 r0 r1 kp _ => ?_)
  have leaf : (f_l_one_of [.ref i, .lst anyL] S1).wp Q X := one_of_w kp.box (by decide) (by decide) (fun v S' hv kp2 _ => k v S' (.leaf hv) (kp.trans kp2))
  refine ⟨fun _ => ?_, fun h0 => ⟨fun _ => ?_, fun h1 => ?_⟩⟩
  · try simp only [zz, mkL, w_ok, w_exc, w_stuck, w_bind, w_runB, w_var, got_some, w_e2, w_call, w_cons, w_nil, w_def, w_tup, w_lst, w_bool, w_notF, w_andF, w_orF, w_and, w_or, w_not, w_if, w_neg, w_star, w_aSeq, w_fld, w_frz, w_chain, w_m1, w_bm, w_iSeq, w_rg1, w_rg2, w_isi, w_wget, w_lc, w_cmet, w_met, w_mak, w_makL, w_jnil, w_jcons, w_fmt, w_sl, w_oNone, w_oSome, w_d0, w_dget, w_walk, v_nx, v_ret, v_exc, v_brk, v_cnt, v_stuck, v_seq', v_nx', v_exp, v_ret', v_retN, v_if, v_set, v_raise, v_asg, v_par, v_for, v_fld, v_dput, t_name, t_tup, t_ix, v_tryE, v_tryS, v_tryR, v_trySq, v_tryEq, v_hnil, v_hcons, w_isx, w_xf, w_enu, List.map_cons, List.map_nil, List.length_cons, List.length_nil, List.replicate_succ, List.replicate_zero, List.cons_append, List.nil_append, List.append_nil, List.getElem?_cons_zero, List.getElem?_cons_succ, List.set_cons_zero, List.set_cons_succ, Nat.reduceSub, Nat.reduceAdd, Nat.reduceLeDiff, Nat.reduceEqDiff, Nat.zero_add, Nat.sub_zero, if_true, if_false, ite_true, ite_false, Bool.false_eq_true, Bool.true_eq_false, Bool.not_true, Bool.not_false, true_implies, false_implies, implies_true, and_true, true_and, not_true_eq_false, not_false_eq_true, eC, tTrue, tgsCons, tgsNil, wipeE, reduceIte, reduceCtorEq, Option.some.injEq, eq_self, Int.cast_ofNat_Int, Int.reduceBEq, Int.reduceLT, Int.reduceLE, Int.reduceAdd, Int.reduceSub, beq_self_eq_true, decide_true, decide_false, Bool.or_false, Bool.or_true, Bool.false_or, Bool.true_or, Bool.and_true, Bool.true_and, Bool.and_false, Bool.false_and, Bool.not_not, decide_eq_true_eq, true_or, or_true, false_or, or_false, Nat.reduceLT, and_self]
    exact leaf
  · try simp only [zz, mkL, w_ok, w_exc, w_stuck, w_bind, w_runB, w_var, got_some, w_e2, w_call, w_cons, w_nil, w_def, w_tup, w_lst, w_bool, w_notF, w_andF, w_orF, w_and, w_or, w_not, w_if, w_neg, w_star, w_aSeq, w_fld, w_frz, w_chain, w_m1, w_bm, w_iSeq, w_rg1, w_rg2, w_isi, w_wget, w_lc, w_cmet, w_met, w_mak, w_makL, w_jnil, w_jcons, w_fmt, w_sl, w_oNone, w_oSome, w_d0, w_dget, w_walk, v_nx, v_ret, v_exc, v_brk, v_cnt, v_stuck, v_seq', v_nx', v_exp, v_ret', v_retN, v_if, v_set, v_raise, v_asg, v_par, v_for, v_fld, v_dput, t_name, t_tup, t_ix, v_tryE, v_tryS, v_tryR, v_trySq, v_tryEq, v_hnil, v_hcons, w_isx, w_xf, w_enu, List.map_cons, List.map_nil, List.length_cons, List.length_nil, List.replicate_succ, List.replicate_zero, List.cons_append, List.nil_append, List.append_nil, List.getElem?_cons_zero, List.getElem?_cons_succ, List.set_cons_zero, List.set_cons_succ, Nat.reduceSub, Nat.reduceAdd, Nat.reduceLeDiff, Nat.reduceEqDiff, Nat.zero_add, Nat.sub_zero, if_true, if_false, ite_true, ite_false, Bool.false_eq_true, Bool.true_eq_false, Bool.not_true, Bool.not_false, true_implies, false_implies, implies_true, and_true, true_and, not_true_eq_false, not_false_eq_true, eC, tTrue, tgsCons, tgsNil, wipeE, reduceIte, reduceCtorEq, Option.some.injEq, eq_self, Int.cast_ofNat_Int, Int.reduceBEq, Int.reduceLT, Int.reduceLE, Int.reduceAdd, Int.reduceSub, beq_self_eq_true, decide_true, decide_false, Bool.or_false, Bool.or_true, Bool.false_or, Bool.true_or, Bool.and_true, Bool.true_and, Bool.and_false, Bool.false_and, Bool.not_not, decide_eq_true_eq, true_or, or_true, false_or, or_false, Nat.reduceLT, and_self]
    exact leaf
  · obtain ⟨n', rfl⟩ : ∃ n', n = n' + 1 := ⟨n - 1, by simp at h0; omega⟩
    refine choose_k kp.box (by decide) (fun r2 S2 q0 q1 kp2 _ => ?_)
    simp only [rg1_i q0 (by omega), w_ok, w_exc, w_stuck, w_bind, w_runB, w_var, got_some, w_e2, w_call, w_cons, w_nil, w_def, w_tup, w_lst, w_bool, w_notF, w_andF, w_orF, w_and, w_or, w_not, w_if, w_neg, w_star, w_aSeq, w_fld, w_frz, w_chain, w_m1, w_bm, w_iSeq, w_rg1, w_rg2, w_isi, w_wget, w_lc, w_cmet, w_met, w_mak, w_makL, w_jnil, w_jcons, w_fmt, w_sl, w_oNone, w_oSome, w_d0, w_dget, w_walk, v_nx, v_ret, v_exc, v_brk, v_cnt, v_stuck, v_seq', v_nx', v_exp, v_ret', v_retN, v_if, v_set, v_raise, v_asg, v_par, v_for, v_fld, v_dput, t_name, t_tup, t_ix, v_tryE, v_tryS, v_tryR, v_trySq, v_tryEq, v_hnil, v_hcons, w_isx, w_xf, w_enu, List.map_cons, List.map_nil, List.length_cons, List.length_nil, List.replicate_succ, List.replicate_zero, List.cons_append, List.nil_append, List.append_nil, List.getElem?_cons_zero, List.getElem?_cons_succ, List.set_cons_zero, List.set_cons_succ, Nat.reduceSub, Nat.reduceAdd, Nat.reduceLeDiff, Nat.reduceEqDiff, Nat.zero_add, Nat.sub_zero, if_true, if_false, ite_true, ite_false, Bool.false_eq_true, Bool.true_eq_false, Bool.not_true, Bool.not_false, true_implies, false_implies, implies_true, and_true, true_and, not_true_eq_false, not_false_eq_true, eC, tTrue, tgsCons, tgsNil, wipeE, reduceIte, reduceCtorEq, Option.some.injEq, eq_self, Int.cast_ofNat_Int, Int.reduceBEq, Int.reduceLT, Int.reduceLE, Int.reduceAdd, Int.reduceSub, beq_self_eq_true, decide_true, decide_false, Bool.or_false, Bool.or_true, Bool.false_or, Bool.true_or, Bool.and_true, Bool.true_and, Bool.and_false, Bool.false_and, Bool.not_not, decide_eq_true_eq, true_or, or_true, false_or, or_false, Nat.reduceLT, and_self]
    refine w_lcGo (I := fun rest acc S' => (∀ y ∈ acc, AnyV n' y) ∧ acc.length + rest.length ≤ 2 ∧ Kp i S S') ?_ ?_ ?_
    · rintro x rest acc S' ⟨ha, hl, kp3⟩
      have hs : ((n' + 1 : Nat) : Int) - 1 = (n' : Int) := by omega
      have e : (eDef g 2 [] (aCons (eVar 0) (aCons (e2 vSub (eVar 1) (eC (.int 1))) aNil)) [some (.ref i), some (.int ((n' + 1 : Nat) : Int)), some (.int r), none, none, some x] S').wp (fun v S4 => AnyV n' v ∧ Kp i S' S4) (fun _ _ _ => False) := by
        simp only [sub_ii, hs, w_ok, w_exc, w_stuck, w_bind, w_runB, w_var, got_some, w_e2, w_call, w_cons, w_nil, w_def, w_tup, w_lst, w_bool, w_notF, w_andF, w_orF, w_and, w_or, w_not, w_if, w_neg, w_star, w_aSeq, w_fld, w_frz, w_chain, w_m1, w_bm, w_iSeq, w_rg1, w_rg2, w_isi, w_wget, w_lc, w_cmet, w_met, w_mak, w_makL, w_jnil, w_jcons, w_fmt, w_sl, w_oNone, w_oSome, w_d0, w_dget, w_walk, v_nx, v_ret, v_exc, v_brk, v_cnt, v_stuck, v_seq', v_nx', v_exp, v_ret', v_retN, v_if, v_set, v_raise, v_asg, v_par, v_for, v_fld, v_dput, t_name, t_tup, t_ix, v_tryE, v_tryS, v_tryR, v_trySq, v_tryEq, v_hnil, v_hcons, w_isx, w_xf, w_enu, List.map_cons, List.map_nil, List.length_cons, List.length_nil, List.replicate_succ, List.replicate_zero, List.cons_append, List.nil_append, List.append_nil, List.getElem?_cons_zero, List.getElem?_cons_succ, List.set_cons_zero, List.set_cons_succ, Nat.reduceSub, Nat.reduceAdd, Nat.reduceLeDiff, Nat.reduceEqDiff, Nat.zero_add, Nat.sub_zero, if_true, if_false, ite_true, ite_false, Bool.false_eq_true, Bool.true_eq_false, Bool.not_true, Bool.not_false, true_implies, false_implies, implies_true, and_true, true_and, not_true_eq_false, not_false_eq_true, eC, tTrue, tgsCons, tgsNil, wipeE, reduceIte, reduceCtorEq, Option.some.injEq, eq_self, Int.cast_ofNat_Int, Int.reduceBEq, Int.reduceLT, Int.reduceLE, Int.reduceAdd, Int.reduceSub, beq_self_eq_true, decide_true, decide_false, Bool.or_false, Bool.or_true, Bool.false_or, Bool.true_or, Bool.and_true, Bool.true_and, Bool.and_false, Bool.false_and, Bool.not_not, decide_eq_true_eq, true_or, or_true, false_or, or_false, Nat.reduceLT, and_self]
        exact ih n' rfl kp3.box (fun v S4 hv kp4 => ⟨hv, kp4⟩)
      obtain ⟨y, S4, e1, hy, kp4⟩ := Res.wp_ok e
      simp only [List.length_cons] at hl
      refine ⟨[some (.ref i), some (.int ((n' + 1 : Nat) : Int)), some (.int r), none, none, some x], S', rfl, true, S', rfl, ?_⟩
      rw [if_pos rfl]
      refine ⟨y, S4, e1, Nat.lt_of_lt_of_le (show acc.length < 3 by omega) (zz 3 (by decide)), ?_, by rw [List.length_append]; simp; omega, kp3.trans kp4⟩
      intro z hz
      rcases List.mem_append.mp hz with h | h
      · exact ha z h
      · rw [List.mem_singleton.mp h]; exact hy
    · rintro acc S' ⟨ha, hl, kp3⟩
      simp only [mkL, lt_ii, w_ok, w_exc, w_stuck, w_bind, w_runB, w_var, got_some, w_e2, w_call, w_cons, w_nil, w_def, w_tup, w_lst, w_bool, w_notF, w_andF, w_orF, w_and, w_or, w_not, w_if, w_neg, w_star, w_aSeq, w_fld, w_frz, w_chain, w_m1, w_bm, w_iSeq, w_rg1, w_rg2, w_isi, w_wget, w_lc, w_cmet, w_met, w_mak, w_makL, w_jnil, w_jcons, w_fmt, w_sl, w_oNone, w_oSome, w_d0, w_dget, w_walk, v_nx, v_ret, v_exc, v_brk, v_cnt, v_stuck, v_seq', v_nx', v_exp, v_ret', v_retN, v_if, v_set, v_raise, v_asg, v_par, v_for, v_fld, v_dput, t_name, t_tup, t_ix, v_tryE, v_tryS, v_tryR, v_trySq, v_tryEq, v_hnil, v_hcons, w_isx, w_xf, w_enu, List.map_cons, List.map_nil, List.length_cons, List.length_nil, List.replicate_succ, List.replicate_zero, List.cons_append, List.nil_append, List.append_nil, List.getElem?_cons_zero, List.getElem?_cons_succ, List.set_cons_zero, List.set_cons_succ, Nat.reduceSub, Nat.reduceAdd, Nat.reduceLeDiff, Nat.reduceEqDiff, Nat.zero_add, Nat.sub_zero, if_true, if_false, ite_true, ite_false, Bool.false_eq_true, Bool.true_eq_false, Bool.not_true, Bool.not_false, true_implies, false_implies, implies_true, and_true, true_and, not_true_eq_false, not_false_eq_true, eC, tTrue, tgsCons, tgsNil, wipeE, reduceIte, reduceCtorEq, Option.some.injEq, eq_self, Int.cast_ofNat_Int, Int.reduceBEq, Int.reduceLT, Int.reduceLE, Int.reduceAdd, Int.reduceSub, beq_self_eq_true, decide_true, decide_false, Bool.or_false, Bool.or_true, Bool.false_or, Bool.true_or, Bool.and_true, Bool.true_and, Bool.and_false, Bool.false_and, Bool.not_not, decide_eq_true_eq, true_or, or_true, false_or, or_false, Nat.reduceLT, and_self]
      refine ⟨fun _ => ?_, fun _ => k _ _ (.lst ha (by simpa using hl)) kp3⟩
      simp only [bTup, seqOf, lstOf, lstX, w_ok, w_exc, w_stuck, w_bind, w_runB, w_var, got_some, w_e2, w_call, w_cons, w_nil, w_def, w_tup, w_lst, w_bool, w_notF, w_andF, w_orF, w_and, w_or, w_not, w_if, w_neg, w_star, w_aSeq, w_fld, w_frz, w_chain, w_m1, w_bm, w_iSeq, w_rg1, w_rg2, w_isi, w_wget, w_lc, w_cmet, w_met, w_mak, w_makL, w_jnil, w_jcons, w_fmt, w_sl, w_oNone, w_oSome, w_d0, w_dget, w_walk, v_nx, v_ret, v_exc, v_brk, v_cnt, v_stuck, v_seq', v_nx', v_exp, v_ret', v_retN, v_if, v_set, v_raise, v_asg, v_par, v_for, v_fld, v_dput, t_name, t_tup, t_ix, v_tryE, v_tryS, v_tryR, v_trySq, v_tryEq, v_hnil, v_hcons, w_isx, w_xf, w_enu, List.map_cons, List.map_nil, List.length_cons, List.length_nil, List.replicate_succ, List.replicate_zero, List.cons_append, List.nil_append, List.append_nil, List.getElem?_cons_zero, List.getElem?_cons_succ, List.set_cons_zero, List.set_cons_succ, Nat.reduceSub, Nat.reduceAdd, Nat.reduceLeDiff, Nat.reduceEqDiff, Nat.zero_add, Nat.sub_zero, if_true, if_false, ite_true, ite_false, Bool.false_eq_true, Bool.true_eq_false, Bool.not_true, Bool.not_false, true_implies, false_implies, implies_true, and_true, true_and, not_true_eq_false, not_false_eq_true, eC, tTrue, tgsCons, tgsNil, wipeE, reduceIte, reduceCtorEq, Option.some.injEq, eq_self, Int.cast_ofNat_Int, Int.reduceBEq, Int.reduceLT, Int.reduceLE, Int.reduceAdd, Int.reduceSub, beq_self_eq_true, decide_true, decide_false, Bool.or_false, Bool.or_true, Bool.false_or, Bool.true_or, Bool.and_true, Bool.true_and, Bool.and_false, Bool.false_and, Bool.not_not, decide_eq_true_eq, true_or, or_true, false_or, or_false, Nat.reduceLT, and_self]
      exact k _ _ (.tup ha (by simpa using hl)) kp3
    · refine ⟨by simp, ?_, kp.trans kp2⟩
      simp [rangeV]
      omega
theorem any_w {m : Nat} : ∀ {n : Nat} {S : Store} {i : Nat} {Q : Val → Store → Prop} {X : XP}, Box S i → n ≤ 100 → (∀ v S', AnyV n v → Kp i S S' → Q v S') → ((recF (fun g => runB 6 (b_l_anything g)) (m + n + 1)) [.ref i, .int n] S).wp Q X
  | 0, S, i, Q, X, hb, hn, k => any_body hb hn (fun n' e => by cases e) k
  | n + 1, S, i, Q, X, hb, hn, k => any_body hb hn (fun n' e {S Q X} hb' k' => by cases e; exact any_w hb' (by omega) k') k
end Fl
namespace Fl
open PySem PySem.Spec L2
open PyProof.Rows hiding St

/-- an action asked for: the first row whose digit it is -/
def actF (g : Str → Bool) : List (Str × Str) → Val
  | [] => .non
  | p :: ps => if g p.1 then .str p.2 else actF g ps
theorem action_ok {nm a : Str} {t : Int} {c : Bool} {ps : List (Str × Str)} {v : Val} {S : Store} {g : Str → Bool} (h : ∀ p ∈ ps, vEqX "Menu" f_Menu_eq (.str p.1) v S = .ok (.bl (g p.1)) S) :
    f_Menu_action [.obj "Menu" (menuF nm ps a t c), v] S = .ok (actF g (sortP ps)) S := by
  apply Res.wp_eq
  unfold f_Menu_action b_Menu_action
  have g2 : List.lookup ("rows" : Str) (menuF nm ps a t c) = some (.tup (sortV (ps.map rowV))) := by kernel_rfl
  simp only [insOf, g2, itmF, sortV_rows, w_ok, w_exc, w_stuck, w_bind, w_runB, w_var, got_some, w_e2, w_call, w_cons, w_nil, w_def, w_tup, w_lst, w_bool, w_notF, w_andF, w_orF, w_and, w_or, w_not, w_if, w_neg, w_star, w_aSeq, w_fld, w_frz, w_chain, w_m1, w_bm, w_iSeq, w_rg1, w_rg2, w_isi, w_wget, w_lc, w_cmet, w_met, w_mak, w_makL, w_jnil, w_jcons, w_fmt, w_sl, w_oNone, w_oSome, w_d0, w_dget, w_walk, v_nx, v_ret, v_exc, v_brk, v_cnt, v_stuck, v_seq', v_nx', v_exp, v_ret', v_retN, v_if, v_set, v_raise, v_asg, v_par, v_for, v_fld, v_dput, t_name, t_tup, t_ix, v_tryE, v_tryS, v_tryR, v_trySq, v_tryEq, v_hnil, v_hcons, w_isx, w_xf, w_enu, List.map_cons, List.map_nil, List.length_cons, List.length_nil, List.replicate_succ, List.replicate_zero, List.cons_append, List.nil_append, List.append_nil, List.getElem?_cons_zero, List.getElem?_cons_succ, List.set_cons_zero, List.set_cons_succ, Nat.reduceSub, Nat.reduceAdd, Nat.reduceLeDiff, Nat.reduceEqDiff, Nat.zero_add, Nat.sub_zero, if_true, if_false, ite_true, ite_false, Bool.false_eq_true, Bool.true_eq_false, Bool.not_true, Bool.not_false, true_implies, false_implies, implies_true, and_true, true_and, not_true_eq_false, not_false_eq_true, eC, tTrue, tgsCons, tgsNil, wipeE, reduceIte, reduceCtorEq, Option.some.injEq, eq_self, Int.cast_ofNat_Int, Int.reduceBEq, Int.reduceLT, Int.reduceLE, Int.reduceAdd, Int.reduceSub, beq_self_eq_true, decide_true, decide_false, Bool.or_false, Bool.or_true, Bool.false_or, Bool.true_or, Bool.and_true, Bool.true_and, Bool.and_false, Bool.false_and, Bool.not_not, decide_eq_true_eq, true_or, or_true, false_or, or_false, Nat.reduceLT, and_self]
  refine v_forGo (I := fun rest env S' => S' = S ∧ ∃ x2 x3 l, env = [some (.obj "Menu" (menuF nm ps a t c)), some v, x2, x3] ∧ rest = l.map rowV ∧ (∀ p ∈ l, p ∈ ps) ∧ actF g (sortP ps) = actF g l) ?_ ?_ ?_
  · rintro x rest env S' ⟨rfl, x2, x3, l, rfl, hl, hp, ha⟩
    cases l with
    | nil => cases hl
    | cons p l =>
      rw [List.map_cons] at hl
      obtain ⟨rfl, rfl⟩ := List.cons.inj hl
      unfold rowV
      have hv := h p (hp p List.mem_cons_self)
      simp only [seqOf, hv, v_ite, w_ok, w_exc, w_stuck, w_bind, w_runB, w_var, got_some, w_e2, w_call, w_cons, w_nil, w_def, w_tup, w_lst, w_bool, w_notF, w_andF, w_orF, w_and, w_or, w_not, w_if, w_neg, w_star, w_aSeq, w_fld, w_frz, w_chain, w_m1, w_bm, w_iSeq, w_rg1, w_rg2, w_isi, w_wget, w_lc, w_cmet, w_met, w_mak, w_makL, w_jnil, w_jcons, w_fmt, w_sl, w_oNone, w_oSome, w_d0, w_dget, w_walk, v_nx, v_ret, v_exc, v_brk, v_cnt, v_stuck, v_seq', v_nx', v_exp, v_ret', v_retN, v_if, v_set, v_raise, v_asg, v_par, v_for, v_fld, v_dput, t_name, t_tup, t_ix, v_tryE, v_tryS, v_tryR, v_trySq, v_tryEq, v_hnil, v_hcons, w_isx, w_xf, w_enu, List.map_cons, List.map_nil, List.length_cons, List.length_nil, List.replicate_succ, List.replicate_zero, List.cons_append, List.nil_append, List.append_nil, List.getElem?_cons_zero, List.getElem?_cons_succ, List.set_cons_zero, List.set_cons_succ, Nat.reduceSub, Nat.reduceAdd, Nat.reduceLeDiff, Nat.reduceEqDiff, Nat.zero_add, Nat.sub_zero, if_true, if_false, ite_true, ite_false, Bool.false_eq_true, Bool.true_eq_false, Bool.not_true, Bool.not_false, true_implies, false_implies, implies_true, and_true, true_and, not_true_eq_false, not_false_eq_true, eC, tTrue, tgsCons, tgsNil, wipeE, reduceIte, reduceCtorEq, Option.some.injEq, eq_self, Int.cast_ofNat_Int, Int.reduceBEq, Int.reduceLT, Int.reduceLE, Int.reduceAdd, Int.reduceSub, beq_self_eq_true, decide_true, decide_false, Bool.or_false, Bool.or_true, Bool.false_or, Bool.true_or, Bool.and_true, Bool.true_and, Bool.and_false, Bool.false_and, Bool.not_not, decide_eq_true_eq, true_or, or_true, false_or, or_false, Nat.reduceLT, and_self]
      rw [ha]
      refine ⟨fun hg => by simp [actF, hg], fun hg => ⟨_, _, l, rfl, rfl, fun q hq => hp q (List.mem_cons_of_mem _ hq), by simp [actF, hg]⟩⟩
  · rintro env S' ⟨rfl, x2, x3, l, rfl, hl, hp, ha⟩
    have : l = [] := by cases l with
      | nil => rfl
      | cons p l => cases hl
    subst this
    simp only [w_ok, w_exc, w_stuck, w_bind, w_runB, w_var, got_some, w_e2, w_call, w_cons, w_nil, w_def, w_tup, w_lst, w_bool, w_notF, w_andF, w_orF, w_and, w_or, w_not, w_if, w_neg, w_star, w_aSeq, w_fld, w_frz, w_chain, w_m1, w_bm, w_iSeq, w_rg1, w_rg2, w_isi, w_wget, w_lc, w_cmet, w_met, w_mak, w_makL, w_jnil, w_jcons, w_fmt, w_sl, w_oNone, w_oSome, w_d0, w_dget, w_walk, v_nx, v_ret, v_exc, v_brk, v_cnt, v_stuck, v_seq', v_nx', v_exp, v_ret', v_retN, v_if, v_set, v_raise, v_asg, v_par, v_for, v_fld, v_dput, t_name, t_tup, t_ix, v_tryE, v_tryS, v_tryR, v_trySq, v_tryEq, v_hnil, v_hcons, w_isx, w_xf, w_enu, List.map_cons, List.map_nil, List.length_cons, List.length_nil, List.replicate_succ, List.replicate_zero, List.cons_append, List.nil_append, List.append_nil, List.getElem?_cons_zero, List.getElem?_cons_succ, List.set_cons_zero, List.set_cons_succ, Nat.reduceSub, Nat.reduceAdd, Nat.reduceLeDiff, Nat.reduceEqDiff, Nat.zero_add, Nat.sub_zero, if_true, if_false, ite_true, ite_false, Bool.false_eq_true, Bool.true_eq_false, Bool.not_true, Bool.not_false, true_implies, false_implies, implies_true, and_true, true_and, not_true_eq_false, not_false_eq_true, eC, tTrue, tgsCons, tgsNil, wipeE, reduceIte, reduceCtorEq, Option.some.injEq, eq_self, Int.cast_ofNat_Int, Int.reduceBEq, Int.reduceLT, Int.reduceLE, Int.reduceAdd, Int.reduceSub, beq_self_eq_true, decide_true, decide_false, Bool.or_false, Bool.or_true, Bool.false_or, Bool.true_or, Bool.and_true, Bool.true_and, Bool.and_false, Bool.false_and, Bool.not_not, decide_eq_true_eq, true_or, or_true, false_or, or_false, Nat.reduceLT, and_self]
    rw [ha]
    rfl
  · exact ⟨rfl, _, _, sortP ps, rfl, rfl, fun p hp => (sortP_pm ps).subset hp, rfl⟩
theorem actF_none {g : Str → Bool} : ∀ {ps : List (Str × Str)}, (∀ p ∈ ps, g p.1 = false) → actF g ps = .non
  | [], _ => rfl
  | p :: ps, h => by
    unfold actF
    rw [h p List.mem_cons_self]
    exact actF_none fun q hq => h q (List.mem_cons_of_mem _ hq)
theorem actF_find {d : Str} : ∀ {ps : List (Str × Str)}, actF (fun x => x == d) ps = match ps.find? (fun p => p.1 == d) with
    | some p => .str p.2
    | none => .non
  | [] => rfl
  | p :: ps => by
    unfold actF
    rw [List.find?_cons, actF_find (ps := ps)]
    cases p.1 == d <;> rfl
theorem eqX_str {a b : Str} {S : Store} (ha : TxOk a) (hb : TxOk b) : vEqX "Menu" f_Menu_eq (.str a) (.str b) S = .ok (.bl (a == b)) S := by
  have e : isOf "Menu" (.str b) (.str b) S = false := rfl
  have e2 : isOf "Menu" (.str a) (.str b) S = false := rfl
  simp only [vEqX, vEqO, e, e2, Bool.and_false, Bool.false_eq_true, if_false]
  exact eq_ss ha hb
theorem lc_filt {α : Type} {g : TF} {t : TFn} {f : EF} {env0 : Env} {S : Store} {h k : α → Val} {b : α → Bool} : ∀ {l : List α} {acc : List Val}, (∀ a ∈ l, ∃ e1, g (h a) env0 S = .ok e1 S ∧ t e1 S = .ok (b a) S ∧ f e1 S = .ok (k a) S) → acc.length + l.length ≤ sizeLine →
    lcGo g t f env0 (l.map h) acc S = .ok (acc ++ (l.filter b).map k) S
  | [], acc, _, _ => by simp [lcGo]
  | a :: l, acc, hx, hl => by
    obtain ⟨e1, h1, h2, h3⟩ := hx a List.mem_cons_self
    rw [List.map_cons]
    unfold lcGo
    rw [h1]
    dsimp only
    rw [h2]
    rw [List.length_cons] at hl
    cases hb : b a with
    | true =>
      simp only [h3]
      rw [if_pos (by omega), lc_filt (fun a ha => hx a (List.mem_cons_of_mem _ ha)) (by rw [List.length_append]; simp; omega), List.filter_cons, hb]
      simp
    | false =>
      simp only []
      rw [lc_filt (fun a ha => hx a (List.mem_cons_of_mem _ ha)) (by omega), List.filter_cons, hb]
      simp
def D10 : List Str := ["9", "8", "7", "6", "5", "4", "3", "2", "1", "0"]
/-- the rows, by their digits from 9 down -/
def metP (ps : List (Str × Str)) : List (Str × Str) := D10.filterMap fun d => ps.find? fun p => p.1 == d
theorem find_key {ps : List (Str × Str)} (nd : (ps.map (·.1)).Nodup) : ∀ {p : Str × Str}, p ∈ ps → ps.find? (fun q => q.1 == p.1) = some p := by
  induction ps with
  | nil => intro p hp; cases hp
  | cons q ps ih =>
    intro p hp
    rw [List.map_cons] at nd
    obtain ⟨n1, n2⟩ := List.nodup_cons.mp nd
    rw [List.find?_cons]
    rcases List.mem_cons.mp hp with rfl | hp
    · simp
    · have : (q.1 == p.1) = false := by
        rw [beq_eq_false_iff_ne]
        exact fun e => n1 (by rw [e]; exact List.mem_map.mpr ⟨p, hp, rfl⟩)
      rw [this]
      exact ih n2 hp
theorem met_mem {ps : List (Str × Str)} (nd : (ps.map (·.1)).Nodup) (hd : ∀ p ∈ ps, p.1 ∈ D10) (p : Str × Str) : p ∈ metP ps ↔ p ∈ ps := by
  unfold metP
  rw [List.mem_filterMap]
  constructor
  · rintro ⟨d, _, h⟩; exact List.mem_of_find?_eq_some h
  · intro h; exact ⟨p.1, hd p h, find_key nd h⟩
theorem met_key {ps : List (Str × Str)} {d : Str} {p : Str × Str} (h : ps.find? (fun q => q.1 == d) = some p) : p.1 = d := by
  have := List.find?_some h
  simpa using this
theorem met_pair {R : Str → Str → Prop} {ps : List (Str × Str)} : ∀ {l : List Str}, l.Pairwise R → (l.filterMap fun d => ps.find? fun p => p.1 == d).Pairwise fun p q => R p.1 q.1 := by
  intro l h
  rw [List.pairwise_filterMap]
  refine h.imp fun {a b} hab p hp q hq => ?_
  rw [met_key hp, met_key hq]
  exact hab
theorem met_perm {ps : List (Str × Str)} (nd : (ps.map (·.1)).Nodup) (hd : ∀ p ∈ ps, p.1 ∈ D10) : (metP ps).Perm ps := by
  refine (List.perm_ext_iff_of_nodup ?_ ?_).mpr (met_mem nd hd)
  · have h := met_pair (R := fun a b => a ≠ b) (ps := ps) (l := D10) (by decide)
    exact h.imp fun hab e => hab (by rw [e])
  · unfold List.Nodup at nd ⊢
    rw [List.pairwise_map] at nd
    exact nd.imp fun hab e => hab (by rw [e])
theorem met_sort {ps : List (Str × Str)} (nd : (ps.map (·.1)).Nodup) (hd : ∀ p ∈ ps, p.1 ∈ D10) : (metP ps).reverse = sortP ps := by
  refine sorted_one (fun a _ b _ => leP_anti) (((List.reverse_perm _).trans (met_perm nd hd)).trans (sortP_pm ps).symm) ?_ (isort_sorted total_of ps)
  unfold metP
  rw [← List.filterMap_reverse]
  have h := met_pair (R := fun a b => a ≠ b ∧ leS a b = true) (ps := ps) (l := D10.reverse) (by decide +kernel)
  exact h.imp fun hab => by rw [leP_key hab.1]; exact hab.2
end Fl
namespace Fl
open PySem PySem.Spec L2
open PyProof.Rows hiding St

/-! things that no digit is -/
def oddL : List Val := [.non, .int 0, .int 1, .str "", .str "01", .str "a", .str "-", .lst [.str "1"], .tup [.str "1"], .bl true, .int 100000000000000000000]
def NoDig (v : Val) : Prop := ∀ d ∈ D7, ∀ S, vEqX "Menu" f_Menu_eq (.str d) v S = .ok (.bl false) S
theorem odd_no : ∀ v ∈ oddL ++ anyL, NoDig v := by
  intro v hv d hd S
  have h : (oddL ++ anyL).map (fun v => D7.map fun d => vEqX "Menu" f_Menu_eq (.str d) v S) = (oddL ++ anyL).map (fun _ => D7.map fun _ => .ok (.bl false) S) := by kernel_rfl
  exact List.map_inj_left.mp (List.map_inj_left.mp h v hv) d hd
theorem menu_no {F : List (Str × Val)} : NoDig (.obj "Menu" F) := by
  intro d hd S
  have e1 : isOf "Menu" (.obj "Menu" F) (.obj "Menu" F) S = true := by kernel_rfl
  have e2 : f_Menu_eq [.obj "Menu" F, .str d] S = .ok (.bl false) S := by kernel_rfl
  simp only [vEqX, dkV, e1, Bool.and_self, if_true, vEqR, e2]
theorem any_no {n : Nat} {v : Val} (h : AnyV n v) (hn : n ≤ 60) : NoDig v := by
  intro d hd S
  obtain ⟨D, h1, h2, h3⟩ := any_dat h
  have sd : SeqAt.shaped D = true := by
    unfold SeqAt.shaped
    rw [h2]
    exact decide_eq_true (by omega)
  have ds : SeqAt.shaped (.str d) = true := plain_ok (by
    have h : D7.all plain = true := by decide +kernel
    exact List.all_eq_true.mp h d hd)
  have fin : ∀ ys, (v = .lst ys ∨ v = .tup ys) → vEqX "Menu" f_Menu_eq (.str d) v S = .ok (.bl false) S := fun ys hv => by
    have e1 : isOf "Menu" v v S = false := by rcases hv with rfl | rfl <;> rfl
    have e2 : isOf "Menu" (.str d) v S = false := rfl
    have t1 : toDS S v = some D := by rcases hv with rfl | rfl <;> exact h1
    have t2 : toDS S (.str d) = some (.str d) := rfl
    have e3 : PyData.eqv (.str d) D = false := by
      rcases hv with rfl | rfl
      · simp only [toD] at h1
        cases e : toDs ys with
        | none => rw [e] at h1; cases h1
        | some ds => rw [e] at h1; cases h1; rfl
      · simp only [toD] at h1
        cases e : toDs ys with
        | none => rw [e] at h1; cases h1
        | some ds => rw [e] at h1; cases h1; rfl
    simp only [vEqX, vEqO, e1, e2, Bool.and_false, Bool.false_eq_true, if_false, vEq, t1, t2, sd, ds, Bool.and_self, if_true, e3]
  cases h with
  | leaf h => exact odd_no v (List.mem_append_right _ h) d hd S
  | lst h _ => exact fin _ (.inl rfl)
  | tup h _ => exact fin _ (.inr rfl)
theorem d7_ten : ∀ d ∈ D7, d ∈ D10 := by decide
theorem d7_tx : ∀ d ∈ D7, TxOk d := fun d hd => plain_ok (by
  have h : D7.all plain = true := by decide +kernel
  exact List.all_eq_true.mp h d hd)
theorem d10_tx : ∀ d ∈ D10, TxOk d := fun d hd => plain_ok (by
  have h : D10.all plain = true := by decide +kernel
  exact List.all_eq_true.mp h d hd)
theorem itm_ten {S : Store} : itmF S (.str "9876543210") = some (D10.map Val.str) := by kernel_rfl
theorem sort_twice (ps : List (Str × Str)) : sortP (sortP ps) = sortP ps := sortP_perm (sortP_pm ps)
end Fl
namespace Fl
open PySem PySem.Spec L2
open PyProof.Rows hiding St

theorem w_rev {c : Bool} {f : EF} {env : Env} {S : Store} {Q : Val → Store → Prop} {X : XP} : (eRev c f env S).wp Q X = (f env S).wp (fun x S1 => match lstOf S1 x with | some xs => (mkL c xs.reverse S1).wp Q X | none => False) X := by
  unfold eRev
  rw [w_bind]
  congr 1
  funext x S1
  cases lstOf S1 x <;> simp only [w_stuck]
def hasD (ps : List (Str × Str)) (d : Str) : Bool := (ps.find? fun p => p.1 == d).isSome
def metV (ps : List (Str × Str)) (d : Str) : Val := .tup [.str d, actF (fun x => x == d) ps]
theorem met_rows {ps : List (Str × Str)} : ∀ l : List Str, (l.filter (hasD ps)).map (metV ps) = (l.filterMap fun d => ps.find? fun p => p.1 == d).map rowV
  | [] => rfl
  | d :: l => by
    rw [List.filter_cons, List.filterMap_cons]
    cases e : ps.find? fun p => p.1 == d with
    | none =>
      have : hasD ps d = false := by simp only [hasD, e]; rfl
      rw [this]
      exact met_rows l
    | some p =>
      have : hasD ps d = true := by simp only [hasD, e]; rfl
      rw [this]
      simp only [if_true, List.map_cons]
      rw [met_rows l]
      congr 1
      unfold metV
      rw [actF_find, e]
      show Val.tup [.str d, .str p.2] = .tup [.str p.1, .str p.2]
      rw [met_key e]
theorem met_not {ps : List (Str × Str)} {d : Str} {S : Store} : vNotN (actF (fun x => x == d) ps) .non S = .ok (.bl (hasD ps d)) S := by
  rw [actF_find]
  unfold hasD
  cases ps.find? fun p => p.1 == d with
  | none => rfl
  | some p => rfl
theorem law_ok (ns : List Int) : (f_law [.wls (ns.map Val.int)] []).wp (fun v _ => v = .bl true) (fun _ _ _ => False) := by
  unfold f_law b_law
  have hmm : ∀ S, (bMin [.int 3, .int (ns.map Val.int).length] S) = .ok (.int (if ((ns.map Val.int).length : Int) < 3 then ((ns.map Val.int).length : Int) else 3)) S := fun S => rfl
  have hmx : ∀ (i : Int) S, (bMax [.int 1, .int i] S) = .ok (.int (if i > 1 then i else 1)) S := fun i S => rfl
  have hr : ∀ S, rg1F [.int (if (if ((ns.map Val.int).length : Int) < 3 then ((ns.map Val.int).length : Int) else 3) > 1 then (if ((ns.map Val.int).length : Int) < 3 then ((ns.map Val.int).length : Int) else 3) else 1)] S = .ok (rangeV 0 (if (if ((ns.map Val.int).length : Int) < 3 then ((ns.map Val.int).length : Int) else 3) > 1 then (if ((ns.map Val.int).length : Int) < 3 then ((ns.map Val.int).length : Int) else 3) else 1)) S := fun S => rg1_i (by split <;> split <;> omega) (by split <;> split <;> omega)
  have h5 : ∀ S, rg1F [.int 5] S = .ok (rangeV 0 5) S := fun S => rg1_i (by decide) (by decide)
  have z12 : 12 ≤ sizeLine := small_size (by decide)
  have zz : ∀ n : Nat, n ≤ 12 → n ≤ sizeLine := fun n hn => Nat.le_trans hn z12
  have hp : ∀ S, vPow (.int 10) (.int 20) S = .ok (.int 100000000000000000000) S := fun S => by kernel_rfl
  simp only [len_w, hmm, hmx, hr, h5, w_ok, w_exc, w_stuck, w_bind, w_runB, w_var, got_some, w_e2, w_call, w_cons, w_nil, w_def, w_tup, w_lst, w_bool, w_notF, w_andF, w_orF, w_and, w_or, w_not, w_if, w_neg, w_star, w_aSeq, w_fld, w_frz, w_chain, w_m1, w_bm, w_iSeq, w_rg1, w_rg2, w_isi, w_wget, w_lc, w_cmet, w_met, w_mak, w_makL, w_jnil, w_jcons, w_fmt, w_sl, w_oNone, w_oSome, w_d0, w_dget, w_walk, v_nx, v_ret, v_exc, v_brk, v_cnt, v_stuck, v_seq', v_nx', v_exp, v_ret', v_retN, v_if, v_set, v_raise, v_asg, v_par, v_for, v_fld, v_dput, t_name, t_tup, t_ix, v_tryE, v_tryS, v_tryR, v_trySq, v_tryEq, v_hnil, v_hcons, w_isx, w_xf, w_enu, List.map_cons, List.map_nil, List.length_cons, List.length_nil, List.replicate_succ, List.replicate_zero, List.cons_append, List.nil_append, List.append_nil, List.getElem?_cons_zero, List.getElem?_cons_succ, List.set_cons_zero, List.set_cons_succ, Nat.reduceSub, Nat.reduceAdd, Nat.reduceLeDiff, Nat.reduceEqDiff, Nat.zero_add, Nat.sub_zero, if_true, if_false, ite_true, ite_false, Bool.false_eq_true, Bool.true_eq_false, Bool.not_true, Bool.not_false, true_implies, false_implies, implies_true, and_true, true_and, not_true_eq_false, not_false_eq_true, eC, tTrue, tgsCons, tgsNil, wipeE, reduceIte, reduceCtorEq, Option.some.injEq, eq_self, Int.cast_ofNat_Int, Int.reduceBEq, Int.reduceLT, Int.reduceLE, Int.reduceAdd, Int.reduceSub, beq_self_eq_true, decide_true, decide_false, Bool.or_false, Bool.or_true, Bool.false_or, Bool.true_or, Bool.and_true, Bool.true_and, Bool.and_false, Bool.false_and, Bool.not_not, decide_eq_true_eq, true_or, or_true, false_or, or_false, Nat.reduceLT, and_self]
  refine v_forGo (I := fun rest env S => (∃ x1 x2 x3 x4 x5 x6 x7 x8 x9 x10 x11, env = [some (.wls (ns.map Val.int)), x1, x2, x3, x4, x5, x6, x7, x8, x9, x10, x11]) ∧ ∀ x ∈ rest, ∃ n : Nat, x = .int n) ?_ ?_ ?_
  · rintro x rest env S ⟨⟨x1, x2, x3, x4, x5, x6, x7, x8, x9, x10, x11, rfl⟩, hx⟩
    obtain ⟨n, rfl⟩ := hx x List.mem_cons_self
    simp only [w_ok, w_exc, w_stuck, w_bind, w_runB, w_var, got_some, w_e2, w_call, w_cons, w_nil, w_def, w_tup, w_lst, w_bool, w_notF, w_andF, w_orF, w_and, w_or, w_not, w_if, w_neg, w_star, w_aSeq, w_fld, w_frz, w_chain, w_m1, w_bm, w_iSeq, w_rg1, w_rg2, w_isi, w_wget, w_lc, w_cmet, w_met, w_mak, w_makL, w_jnil, w_jcons, w_fmt, w_sl, w_oNone, w_oSome, w_d0, w_dget, w_walk, v_nx, v_ret, v_exc, v_brk, v_cnt, v_stuck, v_seq', v_nx', v_exp, v_ret', v_retN, v_if, v_set, v_raise, v_asg, v_par, v_for, v_fld, v_dput, t_name, t_tup, t_ix, v_tryE, v_tryS, v_tryR, v_trySq, v_tryEq, v_hnil, v_hcons, w_isx, w_xf, w_enu, List.map_cons, List.map_nil, List.length_cons, List.length_nil, List.replicate_succ, List.replicate_zero, List.cons_append, List.nil_append, List.append_nil, List.getElem?_cons_zero, List.getElem?_cons_succ, List.set_cons_zero, List.set_cons_succ, Nat.reduceSub, Nat.reduceAdd, Nat.reduceLeDiff, Nat.reduceEqDiff, Nat.zero_add, Nat.sub_zero, if_true, if_false, ite_true, ite_false, Bool.false_eq_true, Bool.true_eq_false, Bool.not_true, Bool.not_false, true_implies, false_implies, implies_true, and_true, true_and, not_true_eq_false, not_false_eq_true, eC, tTrue, tgsCons, tgsNil, wipeE, reduceIte, reduceCtorEq, Option.some.injEq, eq_self, Int.cast_ofNat_Int, Int.reduceBEq, Int.reduceLT, Int.reduceLE, Int.reduceAdd, Int.reduceSub, beq_self_eq_true, decide_true, decide_false, Bool.or_false, Bool.or_true, Bool.false_or, Bool.true_or, Bool.and_true, Bool.true_and, Bool.and_false, Bool.false_and, Bool.not_not, decide_eq_true_eq, true_or, or_true, false_or, or_false, Nat.reduceLT, and_self]
    refine seed_w (fun g y => ?_)
    simp only [h5, w_ok, w_exc, w_stuck, w_bind, w_runB, w_var, got_some, w_e2, w_call, w_cons, w_nil, w_def, w_tup, w_lst, w_bool, w_notF, w_andF, w_orF, w_and, w_or, w_not, w_if, w_neg, w_star, w_aSeq, w_fld, w_frz, w_chain, w_m1, w_bm, w_iSeq, w_rg1, w_rg2, w_isi, w_wget, w_lc, w_cmet, w_met, w_mak, w_makL, w_jnil, w_jcons, w_fmt, w_sl, w_oNone, w_oSome, w_d0, w_dget, w_walk, v_nx, v_ret, v_exc, v_brk, v_cnt, v_stuck, v_seq', v_nx', v_exp, v_ret', v_retN, v_if, v_set, v_raise, v_asg, v_par, v_for, v_fld, v_dput, t_name, t_tup, t_ix, v_tryE, v_tryS, v_tryR, v_trySq, v_tryEq, v_hnil, v_hcons, w_isx, w_xf, w_enu, List.map_cons, List.map_nil, List.length_cons, List.length_nil, List.replicate_succ, List.replicate_zero, List.cons_append, List.nil_append, List.append_nil, List.getElem?_cons_zero, List.getElem?_cons_succ, List.set_cons_zero, List.set_cons_succ, Nat.reduceSub, Nat.reduceAdd, Nat.reduceLeDiff, Nat.reduceEqDiff, Nat.zero_add, Nat.sub_zero, if_true, if_false, ite_true, ite_false, Bool.false_eq_true, Bool.true_eq_false, Bool.not_true, Bool.not_false, true_implies, false_implies, implies_true, and_true, true_and, not_true_eq_false, not_false_eq_true, eC, tTrue, tgsCons, tgsNil, wipeE, reduceIte, reduceCtorEq, Option.some.injEq, eq_self, Int.cast_ofNat_Int, Int.reduceBEq, Int.reduceLT, Int.reduceLE, Int.reduceAdd, Int.reduceSub, beq_self_eq_true, decide_true, decide_false, Bool.or_false, Bool.or_true, Bool.false_or, Bool.true_or, Bool.and_true, Bool.true_and, Bool.and_false, Bool.false_and, Bool.not_not, decide_eq_true_eq, true_or, or_true, false_or, or_false, Nat.reduceLT, and_self]
    refine v_forGo (I := fun rest2 env S2 => (∃ b x3 x4 x5 x6 x7 x8 x9 x10 x11, env = [some (.wls (ns.map Val.int)), some (.int n), some (.ref b), x3, x4, x5, x6, x7, x8, x9, x10, x11] ∧ Box S2 b)) ?_ ?_ ?_
    · rintro x rest2 env S2 ⟨b, y3, y4, y5, y6, y7, y8, y9, y10, y11, rfl, hb⟩
      simp only [zz, mkL, w_ok, w_exc, w_stuck, w_bind, w_runB, w_var, got_some, w_e2, w_call, w_cons, w_nil, w_def, w_tup, w_lst, w_bool, w_notF, w_andF, w_orF, w_and, w_or, w_not, w_if, w_neg, w_star, w_aSeq, w_fld, w_frz, w_chain, w_m1, w_bm, w_iSeq, w_rg1, w_rg2, w_isi, w_wget, w_lc, w_cmet, w_met, w_mak, w_makL, w_jnil, w_jcons, w_fmt, w_sl, w_oNone, w_oSome, w_d0, w_dget, w_walk, v_nx, v_ret, v_exc, v_brk, v_cnt, v_stuck, v_seq', v_nx', v_exp, v_ret', v_retN, v_if, v_set, v_raise, v_asg, v_par, v_for, v_fld, v_dput, t_name, t_tup, t_ix, v_tryE, v_tryS, v_tryR, v_trySq, v_tryEq, v_hnil, v_hcons, w_isx, w_xf, w_enu, List.map_cons, List.map_nil, List.length_cons, List.length_nil, List.replicate_succ, List.replicate_zero, List.cons_append, List.nil_append, List.append_nil, List.getElem?_cons_zero, List.getElem?_cons_succ, List.set_cons_zero, List.set_cons_succ, Nat.reduceSub, Nat.reduceAdd, Nat.reduceLeDiff, Nat.reduceEqDiff, Nat.zero_add, Nat.sub_zero, if_true, if_false, ite_true, ite_false, Bool.false_eq_true, Bool.true_eq_false, Bool.not_true, Bool.not_false, true_implies, false_implies, implies_true, and_true, true_and, not_true_eq_false, not_false_eq_true, eC, tTrue, tgsCons, tgsNil, wipeE, reduceIte, reduceCtorEq, Option.some.injEq, eq_self, Int.cast_ofNat_Int, Int.reduceBEq, Int.reduceLT, Int.reduceLE, Int.reduceAdd, Int.reduceSub, beq_self_eq_true, decide_true, decide_false, Bool.or_false, Bool.or_true, Bool.false_or, Bool.true_or, Bool.and_true, Bool.true_and, Bool.and_false, Bool.false_and, Bool.not_not, decide_eq_true_eq, true_or, or_true, false_or, or_false, Nat.reduceLT, and_self]
      refine menu_w (names := ["top", "ask", "m"]) hb (by decide) (by decide) (by decide) (by decide) (fun d rows tail t c S4 D hdS hd4 kp4 => ?_)
      try simp only [w_ok, w_exc, w_stuck, w_bind, w_runB, w_var, got_some, w_e2, w_call, w_cons, w_nil, w_def, w_tup, w_lst, w_bool, w_notF, w_andF, w_orF, w_and, w_or, w_not, w_if, w_neg, w_star, w_aSeq, w_fld, w_frz, w_chain, w_m1, w_bm, w_iSeq, w_rg1, w_rg2, w_isi, w_wget, w_lc, w_cmet, w_met, w_mak, w_makL, w_jnil, w_jcons, w_fmt, w_sl, w_oNone, w_oSome, w_d0, w_dget, w_walk, v_nx, v_ret, v_exc, v_brk, v_cnt, v_stuck, v_seq', v_nx', v_exp, v_ret', v_retN, v_if, v_set, v_raise, v_asg, v_par, v_for, v_fld, v_dput, t_name, t_tup, t_ix, v_tryE, v_tryS, v_tryR, v_trySq, v_tryEq, v_hnil, v_hcons, w_isx, w_xf, w_enu, List.map_cons, List.map_nil, List.length_cons, List.length_nil, List.replicate_succ, List.replicate_zero, List.cons_append, List.nil_append, List.append_nil, List.getElem?_cons_zero, List.getElem?_cons_succ, List.set_cons_zero, List.set_cons_succ, Nat.reduceSub, Nat.reduceAdd, Nat.reduceLeDiff, Nat.reduceEqDiff, Nat.zero_add, Nat.sub_zero, if_true, if_false, ite_true, ite_false, Bool.false_eq_true, Bool.true_eq_false, Bool.not_true, Bool.not_false, true_implies, false_implies, implies_true, and_true, true_and, not_true_eq_false, not_false_eq_true, eC, tTrue, tgsCons, tgsNil, wipeE, reduceIte, reduceCtorEq, Option.some.injEq, eq_self, Int.cast_ofNat_Int, Int.reduceBEq, Int.reduceLT, Int.reduceLE, Int.reduceAdd, Int.reduceSub, beq_self_eq_true, decide_true, decide_false, Bool.or_false, Bool.or_true, Bool.false_or, Bool.true_or, Bool.and_true, Bool.true_and, Bool.and_false, Bool.false_and, Bool.not_not, decide_eq_true_eq, true_or, or_true, false_or, or_false, Nat.reduceLT, and_self]
      have hdl : ∀ r ∈ rows, r.2 ∈ DL := fun r hr => deed_in (by decide) (D.deed r hr)
      have htl : tail ∈ DL := by
        rcases D.tail with rfl | h
        · decide
        · exact deed_in (by decide) h
      have ht1 : 1 ≤ t := by rcases D.tries with h | h | h <;> omega
      have hql : (("top" : Str), t, c) ∈ headsL := head_in (by decide) D.tries
      have htr : t.natAbs.log2 < 1920 := by rcases D.tries with rfl | rfl | rfl <;> decide
      have hts : ((toString t : String) : Str).length ≤ 100 := by rcases D.tries with rfl | rfl | rfl <;> decide
      have htop : NameOk "top" := nm_ok "top" (by decide)
      have hact : ActOk (Txt.join " " tail) := dl_act _ htl
      have hrow : ∀ p ∈ rows.map pairOf, RowOk p := fun p hp => by
        obtain ⟨r, hr, rfl⟩ := List.mem_map.mp hp
        exact row_ok (D.dig r hr) (hdl r hr)
      have hfew := D.few
      refine made_w hd4 D.keys D.few (fun r hr => dl_words _ (hdl r hr)) (dl_words _ htl) htop (fun r hr => row_ok (D.dig r hr) (hdl r hr)) hact ht1 ?_
      generalize hP : rows.map pairOf = P at hrow
      have hPd : ∀ p ∈ P, p.1 ∈ D7 := fun p hp => by
        rw [← hP] at hp
        obtain ⟨r, hr, rfl⟩ := List.mem_map.mp hp
        exact D.dig r hr
      have hPn : (P.map (·.1)).Nodup := by rw [← hP, List.map_map]; exact D.keys
      have hPl : P.length ≤ 100 := by rw [← hP, List.length_map]; exact hfew
      have hPt : ∀ p ∈ P, TxOk p.1 ∧ TxOk p.2 := fun p hp => by
        rw [← hP] at hp
        obtain ⟨r, hr, rfl⟩ := List.mem_map.mp hp
        exact ⟨plain_ok (row_plain _ (pair_in (D.dig r hr) (hdl r hr))).2, plain_ok (tail_plain _ (hdl r hr)).2⟩
      have hPs : Shorts P := ⟨hPl, fun p hp => by
        rw [← hP] at hp
        obtain ⟨r, hr, rfl⟩ := List.mem_map.mp hp
        exact ⟨d7_len _ (D.dig r hr), (dl_words _ (hdl r hr)).len⟩⟩
      have hPL : ∀ p ∈ P, LineOk (rowT p) p := fun p hp => by
        rw [← hP] at hp
        obtain ⟨r, hr, rfl⟩ := List.mem_map.mp hp
        exact row_line (D.dig r hr) (hdl r hr)
      have hPp : ∀ p ∈ P, plain (rowT p) = true := fun p hp => by
        rw [← hP] at hp
        obtain ⟨r, hr, rfl⟩ := List.mem_map.mp hp
        exact (row_plain _ (pair_in (D.dig r hr) (hdl r hr))).1
      clear hP
      generalize hA : Txt.join " " tail = A at hact
      have hAt : TxOk A := by rw [← hA]; exact plain_ok (tail_plain _ htl).2
      have htopT : TxOk "top" := plain_ok (head_plain _ hql).2
      have hQn : ((sortP P).map (·.1)).Nodup := ((sortP_pm P).map _).nodup_iff.mpr hPn
      have hQd : ∀ p ∈ sortP P, p.1 ∈ D10 := fun p hp => d7_ten _ (hPd p ((sortP_pm P).subset hp))
      have hMp : (metP (sortP P)).Perm P := (met_perm hQn hQd).trans (sortP_pm P)
      have hMl : (metP (sortP P)).length = P.length := hMp.length_eq
      have hbx : ∀ T : Store, Box (S4 ++ T) b := fun T => (Kp.app kp4.box T).box
      have hac : ∀ d ∈ D10, ∀ S, f_Menu_action [.obj "Menu" (menuF "top" P A t c), .str d] S = .ok (actF (fun x => x == d) (sortP P)) S := fun d hd S => action_ok (g := fun x => x == d) fun p hp => eqX_str (d7_tx _ (hPd p hp)) (d10_tx d hd)
      have hno : ∀ v, NoDig v → ∀ S, f_Menu_action [.obj "Menu" (menuF "top" P A t c), v] S = .ok .non S := fun v hv S => by
        rw [action_ok (g := fun _ => false) fun p hp => hv _ (hPd p hp) S, actF_none fun _ _ => rfl]
      have g2 : List.lookup ("rows" : Str) (menuF "top" P A t c) = some (.tup (sortV (P.map rowV))) := by kernel_rfl
      have g3 : List.lookup ("tail" : Str) (menuF "top" P A t c) = some (.str A) := by kernel_rfl
      have g4 : List.lookup ("tries" : Str) (menuF "top" P A t c) = some (.int t) := by kernel_rfl
      have g5 : List.lookup ("clears" : Str) (menuF "top" P A t c) = some (.bl c) := by kernel_rfl
      have g6 : List.lookup ("action" : Str) (menuF "top" P A t c) = none := by kernel_rfl
      have mc : List.contains (["Menu"] : List Str) "Menu" = true := by kernel_rfl
      generalize hS5 : S4 ++ [(false, Cel.ins "Menu" (menuF "top" P A t c))] = S5
      have hb5 : Box S5 b := by rw [← hS5]; exact hbx _
      have l1 : ∀ (y6 y8 y9 y10 y11 : Option Val), lcGo (tgName 7) tTrue (eTup (aCons (eVar 7) (aCons (eMet ["Menu"] f_Menu_action 2 [] "action" (eVar 5) (aCons (eVar 7) aNil)) aNil)))
          [some (.wls (ns.map Val.int)), some (.int n), some (.ref b), some x, some (.lst [.str "top", .ref d, wordsV tail, .int t, .bl c]), some (.obj "Menu" (menuF "top" P A t c)), y6, none, y8, y9, y10, y11] (D10.map Val.str) [] S5 =
          .ok ([] ++ D10.map (metV (sortP P))) S5 := fun y6 y8 y9 y10 y11 => by
        refine lc_map2 (fun e he => ⟨_, rfl, ?_⟩) (zz _ (by decide))
        apply Res.wp_eq
        simp only [insOf, mc, g6, hac e he, zz, metV, w_ok, w_exc, w_stuck, w_bind, w_runB, w_var, got_some, w_e2, w_call, w_cons, w_nil, w_def, w_tup, w_lst, w_bool, w_notF, w_andF, w_orF, w_and, w_or, w_not, w_if, w_neg, w_star, w_aSeq, w_fld, w_frz, w_chain, w_m1, w_bm, w_iSeq, w_rg1, w_rg2, w_isi, w_wget, w_lc, w_cmet, w_met, w_mak, w_makL, w_jnil, w_jcons, w_fmt, w_sl, w_oNone, w_oSome, w_d0, w_dget, w_walk, v_nx, v_ret, v_exc, v_brk, v_cnt, v_stuck, v_seq', v_nx', v_exp, v_ret', v_retN, v_if, v_set, v_raise, v_asg, v_par, v_for, v_fld, v_dput, t_name, t_tup, t_ix, v_tryE, v_tryS, v_tryR, v_trySq, v_tryEq, v_hnil, v_hcons, w_isx, w_xf, w_enu, List.map_cons, List.map_nil, List.length_cons, List.length_nil, List.replicate_succ, List.replicate_zero, List.cons_append, List.nil_append, List.append_nil, List.getElem?_cons_zero, List.getElem?_cons_succ, List.set_cons_zero, List.set_cons_succ, Nat.reduceSub, Nat.reduceAdd, Nat.reduceLeDiff, Nat.reduceEqDiff, Nat.zero_add, Nat.sub_zero, if_true, if_false, ite_true, ite_false, Bool.false_eq_true, Bool.true_eq_false, Bool.not_true, Bool.not_false, true_implies, false_implies, implies_true, and_true, true_and, not_true_eq_false, not_false_eq_true, eC, tTrue, tgsCons, tgsNil, wipeE, reduceIte, reduceCtorEq, Option.some.injEq, eq_self, Int.cast_ofNat_Int, Int.reduceBEq, Int.reduceLT, Int.reduceLE, Int.reduceAdd, Int.reduceSub, beq_self_eq_true, decide_true, decide_false, Bool.or_false, Bool.or_true, Bool.false_or, Bool.true_or, Bool.and_true, Bool.true_and, Bool.and_false, Bool.false_and, Bool.not_not, decide_eq_true_eq, true_or, or_true, false_or, or_false, Nat.reduceLT, and_self]
      have l2 : ∀ (y7 y9 y10 y11 : Option Val), lcGo (tgName 8) (eBool (e2 vNotN (e2 vIx (eVar 8) (eC (.int 1))) (eC .non))) (eVar 8)
          [some (.wls (ns.map Val.int)), some (.int n), some (.ref b), some x, some (.lst [.str "top", .ref d, wordsV tail, .int t, .bl c]), some (.obj "Menu" (menuF "top" P A t c)), some (.lst (D10.map (metV (sortP P)))), y7, none, y9, y10, y11] (D10.map (metV (sortP P))) [] S5 =
          .ok ([] ++ (D10.filter (hasD (sortP P))).map (metV (sortP P))) S5 := fun y7 y9 y10 y11 => by
        refine lc_filt (fun e he => ⟨_, rfl, ?_, rfl⟩) (zz _ (by decide))
        apply Res.wp_eq2
        simp only [metV, ix_t (xs := [.str e, actF (fun x => x == e) (sortP P)]) (i := 1) (v := actF (fun x => x == e) (sortP P)) rfl, met_not, w_ok, w_exc, w_stuck, w_bind, w_runB, w_var, got_some, w_e2, w_call, w_cons, w_nil, w_def, w_tup, w_lst, w_bool, w_notF, w_andF, w_orF, w_and, w_or, w_not, w_if, w_neg, w_star, w_aSeq, w_fld, w_frz, w_chain, w_m1, w_bm, w_iSeq, w_rg1, w_rg2, w_isi, w_wget, w_lc, w_cmet, w_met, w_mak, w_makL, w_jnil, w_jcons, w_fmt, w_sl, w_oNone, w_oSome, w_d0, w_dget, w_walk, v_nx, v_ret, v_exc, v_brk, v_cnt, v_stuck, v_seq', v_nx', v_exp, v_ret', v_retN, v_if, v_set, v_raise, v_asg, v_par, v_for, v_fld, v_dput, t_name, t_tup, t_ix, v_tryE, v_tryS, v_tryR, v_trySq, v_tryEq, v_hnil, v_hcons, w_isx, w_xf, w_enu, List.map_cons, List.map_nil, List.length_cons, List.length_nil, List.replicate_succ, List.replicate_zero, List.cons_append, List.nil_append, List.append_nil, List.getElem?_cons_zero, List.getElem?_cons_succ, List.set_cons_zero, List.set_cons_succ, Nat.reduceSub, Nat.reduceAdd, Nat.reduceLeDiff, Nat.reduceEqDiff, Nat.zero_add, Nat.sub_zero, if_true, if_false, ite_true, ite_false, Bool.false_eq_true, Bool.true_eq_false, Bool.not_true, Bool.not_false, true_implies, false_implies, implies_true, and_true, true_and, not_true_eq_false, not_false_eq_true, eC, tTrue, tgsCons, tgsNil, wipeE, reduceIte, reduceCtorEq, Option.some.injEq, eq_self, Int.cast_ofNat_Int, Int.reduceBEq, Int.reduceLT, Int.reduceLE, Int.reduceAdd, Int.reduceSub, beq_self_eq_true, decide_true, decide_false, Bool.or_false, Bool.or_true, Bool.false_or, Bool.true_or, Bool.and_true, Bool.true_and, Bool.and_false, Bool.false_and, Bool.not_not, decide_eq_true_eq, true_or, or_true, false_or, or_false, Nat.reduceLT, and_self]
      have l3 : (D10.filter (hasD (sortP P))).map (metV (sortP P)) = (metP (sortP P)).map rowV := met_rows D10
      rw [l3] at l2
      have ml : (metP (sortP P)).map rowV = (metP (sortP P)).map rowV := rfl
      have tenL : List.map strV (Str.ofString "9876543210").cps.toList = D10.map Val.str := by kernel_rfl
      simp only [tenL, l1, l2, itmF, mkL, insOf, g3, g4, g5, w_ok, w_exc, w_stuck, w_bind, w_runB, w_var, got_some, w_e2, w_call, w_cons, w_nil, w_def, w_tup, w_lst, w_bool, w_notF, w_andF, w_orF, w_and, w_or, w_not, w_if, w_neg, w_star, w_aSeq, w_fld, w_frz, w_chain, w_m1, w_bm, w_iSeq, w_rg1, w_rg2, w_isi, w_wget, w_lc, w_cmet, w_met, w_mak, w_makL, w_jnil, w_jcons, w_fmt, w_sl, w_oNone, w_oSome, w_d0, w_dget, w_walk, v_nx, v_ret, v_exc, v_brk, v_cnt, v_stuck, v_seq', v_nx', v_exp, v_ret', v_retN, v_if, v_set, v_raise, v_asg, v_par, v_for, v_fld, v_dput, t_name, t_tup, t_ix, v_tryE, v_tryS, v_tryR, v_trySq, v_tryEq, v_hnil, v_hcons, w_isx, w_xf, w_enu, List.map_cons, List.map_nil, List.length_cons, List.length_nil, List.replicate_succ, List.replicate_zero, List.cons_append, List.nil_append, List.append_nil, List.getElem?_cons_zero, List.getElem?_cons_succ, List.set_cons_zero, List.set_cons_succ, Nat.reduceSub, Nat.reduceAdd, Nat.reduceLeDiff, Nat.reduceEqDiff, Nat.zero_add, Nat.sub_zero, if_true, if_false, ite_true, ite_false, Bool.false_eq_true, Bool.true_eq_false, Bool.not_true, Bool.not_false, true_implies, false_implies, implies_true, and_true, true_and, not_true_eq_false, not_false_eq_true, eC, tTrue, tgsCons, tgsNil, wipeE, reduceIte, reduceCtorEq, Option.some.injEq, eq_self, Int.cast_ofNat_Int, Int.reduceBEq, Int.reduceLT, Int.reduceLE, Int.reduceAdd, Int.reduceSub, beq_self_eq_true, decide_true, decide_false, Bool.or_false, Bool.or_true, Bool.false_or, Bool.true_or, Bool.and_true, Bool.true_and, Bool.and_false, Bool.false_and, Bool.not_not, decide_eq_true_eq, true_or, or_true, false_or, or_false, Nat.reduceLT, and_self]
      refine menu_mak htop (fun S => are_rows_ok (fun p hp => hrow p (hMp.subset hp)) ((hMp.map _).nodup_iff.mpr hPn) (by omega)) (by omega) hact ht1 ?_
      have heq : ∀ S, f_Menu_eq [.obj "Menu" (menuF "top" (metP (sortP P)) A t c), .obj "Menu" (menuF "top" P A t c)] S = .ok (.bl true) S := fun S => menu_eq_ok htopT hAt (fun p hp => hPt p (hMp.subset hp)) (sortP_perm hMp)
      have hneq : ∀ S, vNeO "Menu" f_Menu_eq (.obj "Menu" (menuF "top" (metP (sortP P)) A t c)) (.obj "Menu" (menuF "top" P A t c)) S = .ok (.bl false) S := fun S => ne_objs (heq S)
      have hl2 : ((((metP (sortP P)).map rowV).length : Int) == ((sortV (P.map rowV)).length : Int)) = true := by
        rw [sortV_len, List.length_map, List.length_map, hMl]; simp
      have hrv : ((metP (sortP P)).map rowV).reverse = sortV (P.map rowV) := by
        rw [sortV_rows, ← List.map_reverse, met_sort hQn hQd, sort_twice]
      have hnr : ∀ S, vNe (.tup (sortV (P.map rowV))) (.tup (sortV (P.map rowV))) S = .ok (.bl false) S := fun S => by
        rw [sortV_rows]
        exact ne_same rows_data (rows_shaped fun p hp => hPt p ((sortP_pm P).subset hp))
      simp only [hneq, len_l, len_t, ne_ii, hl2, insOf, g2, w_rev, lstOf, lstX, mkL, bTup, seqOf, hrv, hnr, zz, hp, w_ok, w_exc, w_stuck, w_bind, w_runB, w_var, got_some, w_e2, w_call, w_cons, w_nil, w_def, w_tup, w_lst, w_bool, w_notF, w_andF, w_orF, w_and, w_or, w_not, w_if, w_neg, w_star, w_aSeq, w_fld, w_frz, w_chain, w_m1, w_bm, w_iSeq, w_rg1, w_rg2, w_isi, w_wget, w_lc, w_cmet, w_met, w_mak, w_makL, w_jnil, w_jcons, w_fmt, w_sl, w_oNone, w_oSome, w_d0, w_dget, w_walk, v_nx, v_ret, v_exc, v_brk, v_cnt, v_stuck, v_seq', v_nx', v_exp, v_ret', v_retN, v_if, v_set, v_raise, v_asg, v_par, v_for, v_fld, v_dput, t_name, t_tup, t_ix, v_tryE, v_tryS, v_tryR, v_trySq, v_tryEq, v_hnil, v_hcons, w_isx, w_xf, w_enu, List.map_cons, List.map_nil, List.length_cons, List.length_nil, List.replicate_succ, List.replicate_zero, List.cons_append, List.nil_append, List.append_nil, List.getElem?_cons_zero, List.getElem?_cons_succ, List.set_cons_zero, List.set_cons_succ, Nat.reduceSub, Nat.reduceAdd, Nat.reduceLeDiff, Nat.reduceEqDiff, Nat.zero_add, Nat.sub_zero, if_true, if_false, ite_true, ite_false, Bool.false_eq_true, Bool.true_eq_false, Bool.not_true, Bool.not_false, true_implies, false_implies, implies_true, and_true, true_and, not_true_eq_false, not_false_eq_true, eC, tTrue, tgsCons, tgsNil, wipeE, reduceIte, reduceCtorEq, Option.some.injEq, eq_self, Int.cast_ofNat_Int, Int.reduceBEq, Int.reduceLT, Int.reduceLE, Int.reduceAdd, Int.reduceSub, beq_self_eq_true, decide_true, decide_false, Bool.or_false, Bool.or_true, Bool.false_or, Bool.true_or, Bool.and_true, Bool.true_and, Bool.and_false, Bool.false_and, Bool.not_not, decide_eq_true_eq, true_or, or_true, false_or, or_false, Nat.reduceLT, and_self]
      generalize hS6 : S5 ++ [(false, Cel.ins "Menu" (menuF "top" (metP (sortP P)) A t c))] = S6
      have hb6 : Box S6 b := by rw [← hS6]; exact (Kp.app hb5 _).box
      have an := fun (Q : Val → Store → Prop) (X : XP) => any_w (m := 2) (n := 4) (Q := Q) (X := X) hb6 (by decide)
      refine an _ _ (fun z S7 hz kp7 => ?_)
      have hadd : ∀ S, vAdd (.lst [.non, .int 0, .int 1, .str "", .str "01", .str "a", .str "-", .lst [.str "1"], .tup [.str "1"], .bl true, .obj "Menu" (menuF "top" P A t c), .int 100000000000000000000]) (.lst [z]) S =
          .ok (.lst [.non, .int 0, .int 1, .str "", .str "01", .str "a", .str "-", .lst [.str "1"], .tup [.str "1"], .bl true, .obj "Menu" (menuF "top" P A t c), .int 100000000000000000000, z]) S := fun S => add_ll (by simp)
      simp only [hadd, itmF, w_ok, w_exc, w_stuck, w_bind, w_runB, w_var, got_some, w_e2, w_call, w_cons, w_nil, w_def, w_tup, w_lst, w_bool, w_notF, w_andF, w_orF, w_and, w_or, w_not, w_if, w_neg, w_star, w_aSeq, w_fld, w_frz, w_chain, w_m1, w_bm, w_iSeq, w_rg1, w_rg2, w_isi, w_wget, w_lc, w_cmet, w_met, w_mak, w_makL, w_jnil, w_jcons, w_fmt, w_sl, w_oNone, w_oSome, w_d0, w_dget, w_walk, v_nx, v_ret, v_exc, v_brk, v_cnt, v_stuck, v_seq', v_nx', v_exp, v_ret', v_retN, v_if, v_set, v_raise, v_asg, v_par, v_for, v_fld, v_dput, t_name, t_tup, t_ix, v_tryE, v_tryS, v_tryR, v_trySq, v_tryEq, v_hnil, v_hcons, w_isx, w_xf, w_enu, List.map_cons, List.map_nil, List.length_cons, List.length_nil, List.replicate_succ, List.replicate_zero, List.cons_append, List.nil_append, List.append_nil, List.getElem?_cons_zero, List.getElem?_cons_succ, List.set_cons_zero, List.set_cons_succ, Nat.reduceSub, Nat.reduceAdd, Nat.reduceLeDiff, Nat.reduceEqDiff, Nat.zero_add, Nat.sub_zero, if_true, if_false, ite_true, ite_false, Bool.false_eq_true, Bool.true_eq_false, Bool.not_true, Bool.not_false, true_implies, false_implies, implies_true, and_true, true_and, not_true_eq_false, not_false_eq_true, eC, tTrue, tgsCons, tgsNil, wipeE, reduceIte, reduceCtorEq, Option.some.injEq, eq_self, Int.cast_ofNat_Int, Int.reduceBEq, Int.reduceLT, Int.reduceLE, Int.reduceAdd, Int.reduceSub, beq_self_eq_true, decide_true, decide_false, Bool.or_false, Bool.or_true, Bool.false_or, Bool.true_or, Bool.and_true, Bool.true_and, Bool.and_false, Bool.false_and, Bool.not_not, decide_eq_true_eq, true_or, or_true, false_or, or_false, Nat.reduceLT, and_self]
      refine v_forGo (I := fun rest3 env S8 => S8 = S7 ∧ (∀ v ∈ rest3, NoDig v) ∧ ∃ y11, env = [some (.wls (ns.map Val.int)), some (.int n), some (.ref b), some x, some (.lst [.str "top", .ref d, wordsV tail, .int t, .bl c]), some (.obj "Menu" (menuF "top" P A t c)), some (.lst ((metP (sortP P)).map rowV)), y7, y8, some (.obj "Menu" (menuF "top" (metP (sortP P)) A t c)),
        some (.lst [.non, .int 0, .int 1, .str "", .str "01", .str "a", .str "-", .lst [.str "1"], .tup [.str "1"], .bl true, .obj "Menu" (menuF "top" P A t c), .int 100000000000000000000]), y11]) ?_ ?_ ?_
      · rintro v rest3 env S8 ⟨rfl, hv, y11, rfl⟩
        have h1 := hno v (hv v List.mem_cons_self)
        have n0 : ∀ S, vNotN .non .non S = .ok (.bl false) S := fun S => rfl
        simp only [insOf, mc, g6, h1, n0, w_ok, w_exc, w_stuck, w_bind, w_runB, w_var, got_some, w_e2, w_call, w_cons, w_nil, w_def, w_tup, w_lst, w_bool, w_notF, w_andF, w_orF, w_and, w_or, w_not, w_if, w_neg, w_star, w_aSeq, w_fld, w_frz, w_chain, w_m1, w_bm, w_iSeq, w_rg1, w_rg2, w_isi, w_wget, w_lc, w_cmet, w_met, w_mak, w_makL, w_jnil, w_jcons, w_fmt, w_sl, w_oNone, w_oSome, w_d0, w_dget, w_walk, v_nx, v_ret, v_exc, v_brk, v_cnt, v_stuck, v_seq', v_nx', v_exp, v_ret', v_retN, v_if, v_set, v_raise, v_asg, v_par, v_for, v_fld, v_dput, t_name, t_tup, t_ix, v_tryE, v_tryS, v_tryR, v_trySq, v_tryEq, v_hnil, v_hcons, w_isx, w_xf, w_enu, List.map_cons, List.map_nil, List.length_cons, List.length_nil, List.replicate_succ, List.replicate_zero, List.cons_append, List.nil_append, List.append_nil, List.getElem?_cons_zero, List.getElem?_cons_succ, List.set_cons_zero, List.set_cons_succ, Nat.reduceSub, Nat.reduceAdd, Nat.reduceLeDiff, Nat.reduceEqDiff, Nat.zero_add, Nat.sub_zero, if_true, if_false, ite_true, ite_false, Bool.false_eq_true, Bool.true_eq_false, Bool.not_true, Bool.not_false, true_implies, false_implies, implies_true, and_true, true_and, not_true_eq_false, not_false_eq_true, eC, tTrue, tgsCons, tgsNil, wipeE, reduceIte, reduceCtorEq, Option.some.injEq, eq_self, Int.cast_ofNat_Int, Int.reduceBEq, Int.reduceLT, Int.reduceLE, Int.reduceAdd, Int.reduceSub, beq_self_eq_true, decide_true, decide_false, Bool.or_false, Bool.or_true, Bool.false_or, Bool.true_or, Bool.and_true, Bool.true_and, Bool.and_false, Bool.false_and, Bool.not_not, decide_eq_true_eq, true_or, or_true, false_or, or_false, Nat.reduceLT, and_self]
        exact ⟨fun w hw => hv w (List.mem_cons_of_mem _ hw), _, rfl⟩
      · rintro env S8 ⟨rfl, hv, y11, rfl⟩
        have hst : ∀ S, f_Menu_str [.obj "Menu" (menuF "top" P A t c)] S = .ok (.str (Txt.join "\n" (linesT "top" (sortP P) tail t c))) S := fun S => by
          rw [menu_str_ok (by decide) (by rw [← hA]; exact (dl_words _ htl).len) hPs htr hts, ← hA]; rfl
        have hstO : ∀ S, bStrO "Menu" f_Menu_str bStr [.obj "Menu" (menuF "top" P A t c)] S = .ok (.str (Txt.join "\n" (linesT "top" (sortP P) tail t c))) S := fun S => str_obj (hst S)
        have hSs : Shorts (sortP P) := ⟨by rw [sortP_len]; exact hPl, fun p hp => hPs.short p ((sortP_pm P).subset hp)⟩
        have hlen : (Txt.join "\n" (linesT "top" (sortP P) tail t c)).length ≤ 1000000 := Nat.le_trans (join_len _ _) (Nat.le_trans (lines_sum (by decide) hts hSs (dl_words _ htl)) (by decide))
        have hLn : ∀ l ∈ linesT "top" (sortP P) tail t c, plain l = true := fun l hl => by
          unfold linesT at hl
          rcases List.mem_cons.mp hl with rfl | hl
          · exact (head_plain _ hql).1
          · rcases List.mem_append.mp hl with hl | hl
            · obtain ⟨p, hp, rfl⟩ := List.mem_map.mp hl
              exact hPp p ((sortP_pm P).subset hp)
            · rw [List.mem_singleton.mp hl]
              exact (tail_plain _ htl).1
        have hrd : ∀ S, f_read_head [.str (headT "top" t c)] S = .ok (.tup [.str "top", .int t, .bl c]) S := head_read (("top" : Str), t, c) hql
        have rd := fun (S : Store) (Q : Val → Store → Prop) (X : XP) => menu_read_w (L := linesT "top" (sortP P) tail t c) (h := headT "top" t c) (nm := "top") (tl := tailT tail) (a := A) (t := t) (c := c) (ps := sortP P) (S := S) (Q := Q) (X := X) rfl hSs.few hlen (fun l hl => plain_nl (hLn l hl)) hrd (fun p hp => hPL p ((sortP_pm P).subset hp)) hQn (by rw [← hA]; exact tail_part _ htl) hact htop ht1
        have k2 : List.lookup ("rows" : Str) (menuF "top" (sortP P) A t c) = some (.tup (sortV ((sortP P).map rowV))) := by kernel_rfl
        have k6 : List.lookup ("action" : Str) (menuF "top" (sortP P) A t c) = none := by kernel_rfl
        have k7 : sortV ((sortP P).map rowV) = sortV (P.map rowV) := by rw [sortV_rows, sortV_rows, sort_twice]
        have hac2 : ∀ S, f_Menu_action [.obj "Menu" (menuF "top" (sortP P) A t c), .str "0"] S = .ok (actF (fun x => x == "0") (sortP P)) S := fun S => by
          rw [action_ok (g := fun x => x == "0") fun p hp => eqX_str (d7_tx _ (hPd p ((sortP_pm P).subset hp))) (d10_tx "0" (by decide)), sort_twice]
        have hnv : ∀ S, vNe (actF (fun x => x == "0") (sortP P)) (actF (fun x => x == "0") (sortP P)) S = .ok (.bl false) S := fun S => by
          rw [actF_find]
          cases e : (sortP P).find? fun p => p.1 == ("0" : Str) with
          | none => exact ne_same (d := .none) rfl rfl
          | some p => exact ne_same (d := .str p.2) rfl (hPt p ((sortP_pm P).subset (List.mem_of_find?_eq_some e))).2
        simp only [hstO, w_ok, w_exc, w_stuck, w_bind, w_runB, w_var, got_some, w_e2, w_call, w_cons, w_nil, w_def, w_tup, w_lst, w_bool, w_notF, w_andF, w_orF, w_and, w_or, w_not, w_if, w_neg, w_star, w_aSeq, w_fld, w_frz, w_chain, w_m1, w_bm, w_iSeq, w_rg1, w_rg2, w_isi, w_wget, w_lc, w_cmet, w_met, w_mak, w_makL, w_jnil, w_jcons, w_fmt, w_sl, w_oNone, w_oSome, w_d0, w_dget, w_walk, v_nx, v_ret, v_exc, v_brk, v_cnt, v_stuck, v_seq', v_nx', v_exp, v_ret', v_retN, v_if, v_set, v_raise, v_asg, v_par, v_for, v_fld, v_dput, t_name, t_tup, t_ix, v_tryE, v_tryS, v_tryR, v_trySq, v_tryEq, v_hnil, v_hcons, w_isx, w_xf, w_enu, List.map_cons, List.map_nil, List.length_cons, List.length_nil, List.replicate_succ, List.replicate_zero, List.cons_append, List.nil_append, List.append_nil, List.getElem?_cons_zero, List.getElem?_cons_succ, List.set_cons_zero, List.set_cons_succ, Nat.reduceSub, Nat.reduceAdd, Nat.reduceLeDiff, Nat.reduceEqDiff, Nat.zero_add, Nat.sub_zero, if_true, if_false, ite_true, ite_false, Bool.false_eq_true, Bool.true_eq_false, Bool.not_true, Bool.not_false, true_implies, false_implies, implies_true, and_true, true_and, not_true_eq_false, not_false_eq_true, eC, tTrue, tgsCons, tgsNil, wipeE, reduceIte, reduceCtorEq, Option.some.injEq, eq_self, Int.cast_ofNat_Int, Int.reduceBEq, Int.reduceLT, Int.reduceLE, Int.reduceAdd, Int.reduceSub, beq_self_eq_true, decide_true, decide_false, Bool.or_false, Bool.or_true, Bool.false_or, Bool.true_or, Bool.and_true, Bool.true_and, Bool.and_false, Bool.false_and, Bool.not_not, decide_eq_true_eq, true_or, or_true, false_or, or_false, Nat.reduceLT, and_self]
        refine rd _ _ _ ?_
        simp only [insOf, k2, g2, k7, hnr, mc, g6, hac "0" (by decide), hstO, w_ok, w_exc, w_stuck, w_bind, w_runB, w_var, got_some, w_e2, w_call, w_cons, w_nil, w_def, w_tup, w_lst, w_bool, w_notF, w_andF, w_orF, w_and, w_or, w_not, w_if, w_neg, w_star, w_aSeq, w_fld, w_frz, w_chain, w_m1, w_bm, w_iSeq, w_rg1, w_rg2, w_isi, w_wget, w_lc, w_cmet, w_met, w_mak, w_makL, w_jnil, w_jcons, w_fmt, w_sl, w_oNone, w_oSome, w_d0, w_dget, w_walk, v_nx, v_ret, v_exc, v_brk, v_cnt, v_stuck, v_seq', v_nx', v_exp, v_ret', v_retN, v_if, v_set, v_raise, v_asg, v_par, v_for, v_fld, v_dput, t_name, t_tup, t_ix, v_tryE, v_tryS, v_tryR, v_trySq, v_tryEq, v_hnil, v_hcons, w_isx, w_xf, w_enu, List.map_cons, List.map_nil, List.length_cons, List.length_nil, List.replicate_succ, List.replicate_zero, List.cons_append, List.nil_append, List.append_nil, List.getElem?_cons_zero, List.getElem?_cons_succ, List.set_cons_zero, List.set_cons_succ, Nat.reduceSub, Nat.reduceAdd, Nat.reduceLeDiff, Nat.reduceEqDiff, Nat.zero_add, Nat.sub_zero, if_true, if_false, ite_true, ite_false, Bool.false_eq_true, Bool.true_eq_false, Bool.not_true, Bool.not_false, true_implies, false_implies, implies_true, and_true, true_and, not_true_eq_false, not_false_eq_true, eC, tTrue, tgsCons, tgsNil, wipeE, reduceIte, reduceCtorEq, Option.some.injEq, eq_self, Int.cast_ofNat_Int, Int.reduceBEq, Int.reduceLT, Int.reduceLE, Int.reduceAdd, Int.reduceSub, beq_self_eq_true, decide_true, decide_false, Bool.or_false, Bool.or_true, Bool.false_or, Bool.true_or, Bool.and_true, Bool.true_and, Bool.and_false, Bool.false_and, Bool.not_not, decide_eq_true_eq, true_or, or_true, false_or, or_false, Nat.reduceLT, and_self]
        refine rd _ _ _ ?_
        simp only [insOf, mc, k6, hac2, hnv, w_ok, w_exc, w_stuck, w_bind, w_runB, w_var, got_some, w_e2, w_call, w_cons, w_nil, w_def, w_tup, w_lst, w_bool, w_notF, w_andF, w_orF, w_and, w_or, w_not, w_if, w_neg, w_star, w_aSeq, w_fld, w_frz, w_chain, w_m1, w_bm, w_iSeq, w_rg1, w_rg2, w_isi, w_wget, w_lc, w_cmet, w_met, w_mak, w_makL, w_jnil, w_jcons, w_fmt, w_sl, w_oNone, w_oSome, w_d0, w_dget, w_walk, v_nx, v_ret, v_exc, v_brk, v_cnt, v_stuck, v_seq', v_nx', v_exp, v_ret', v_retN, v_if, v_set, v_raise, v_asg, v_par, v_for, v_fld, v_dput, t_name, t_tup, t_ix, v_tryE, v_tryS, v_tryR, v_trySq, v_tryEq, v_hnil, v_hcons, w_isx, w_xf, w_enu, List.map_cons, List.map_nil, List.length_cons, List.length_nil, List.replicate_succ, List.replicate_zero, List.cons_append, List.nil_append, List.append_nil, List.getElem?_cons_zero, List.getElem?_cons_succ, List.set_cons_zero, List.set_cons_succ, Nat.reduceSub, Nat.reduceAdd, Nat.reduceLeDiff, Nat.reduceEqDiff, Nat.zero_add, Nat.sub_zero, if_true, if_false, ite_true, ite_false, Bool.false_eq_true, Bool.true_eq_false, Bool.not_true, Bool.not_false, true_implies, false_implies, implies_true, and_true, true_and, not_true_eq_false, not_false_eq_true, eC, tTrue, tgsCons, tgsNil, wipeE, reduceIte, reduceCtorEq, Option.some.injEq, eq_self, Int.cast_ofNat_Int, Int.reduceBEq, Int.reduceLT, Int.reduceLE, Int.reduceAdd, Int.reduceSub, beq_self_eq_true, decide_true, decide_false, Bool.or_false, Bool.or_true, Bool.false_or, Bool.true_or, Bool.and_true, Bool.true_and, Bool.and_false, Bool.false_and, Bool.not_not, decide_eq_true_eq, true_or, or_true, false_or, or_false, Nat.reduceLT, and_self]
        exact ⟨b, _, _, _, _, _, _, _, _, _, rfl, (Kp.app (Kp.app kp7.box _).box _).box⟩
      · refine ⟨rfl, fun v hv => ?_, _, rfl⟩
        simp only [List.mem_cons, List.not_mem_nil, or_false] at hv
        have hodd : v ∈ oddL → NoDig v := fun h => odd_no v (List.mem_append_left _ h)
        rcases hv with rfl | rfl | rfl | rfl | rfl | rfl | rfl | rfl | rfl | rfl | rfl | rfl | rfl
        · exact hodd (by simp [oddL])
        · exact hodd (by simp [oddL])
        · exact hodd (by simp [oddL])
        · exact hodd (by simp [oddL])
        · exact hodd (by simp [oddL])
        · exact hodd (by simp [oddL])
        · exact hodd (by simp [oddL])
        · exact hodd (by simp [oddL])
        · exact hodd (by simp [oddL])
        · exact hodd (by simp [oddL])
        · exact menu_no
        · exact hodd (by simp [oddL])
        · exact any_no hz (by decide)
    · rintro env S2 ⟨b, y3, y4, y5, y6, y7, y8, y9, y10, y11, rfl, hb⟩
      exact ⟨⟨_, _, _, _, _, _, _, _, _, _, _, rfl⟩, fun z hz => hx z (List.mem_cons_of_mem _ hz)⟩
    · exact ⟨S.length, _, _, _, _, _, _, _, _, _, rfl, g, y, by simp⟩
  · rintro env S ⟨⟨x1, x2, x3, x4, x5, x6, x7, x8, x9, x10, x11, rfl⟩, hx⟩
    simp only [w_ok, w_exc, w_stuck, w_bind, w_runB, w_var, got_some, w_e2, w_call, w_cons, w_nil, w_def, w_tup, w_lst, w_bool, w_notF, w_andF, w_orF, w_and, w_or, w_not, w_if, w_neg, w_star, w_aSeq, w_fld, w_frz, w_chain, w_m1, w_bm, w_iSeq, w_rg1, w_rg2, w_isi, w_wget, w_lc, w_cmet, w_met, w_mak, w_makL, w_jnil, w_jcons, w_fmt, w_sl, w_oNone, w_oSome, w_d0, w_dget, w_walk, v_nx, v_ret, v_exc, v_brk, v_cnt, v_stuck, v_seq', v_nx', v_exp, v_ret', v_retN, v_if, v_set, v_raise, v_asg, v_par, v_for, v_fld, v_dput, t_name, t_tup, t_ix, v_tryE, v_tryS, v_tryR, v_trySq, v_tryEq, v_hnil, v_hcons, w_isx, w_xf, w_enu, List.map_cons, List.map_nil, List.length_cons, List.length_nil, List.replicate_succ, List.replicate_zero, List.cons_append, List.nil_append, List.append_nil, List.getElem?_cons_zero, List.getElem?_cons_succ, List.set_cons_zero, List.set_cons_succ, Nat.reduceSub, Nat.reduceAdd, Nat.reduceLeDiff, Nat.reduceEqDiff, Nat.zero_add, Nat.sub_zero, if_true, if_false, ite_true, ite_false, Bool.false_eq_true, Bool.true_eq_false, Bool.not_true, Bool.not_false, true_implies, false_implies, implies_true, and_true, true_and, not_true_eq_false, not_false_eq_true, eC, tTrue, tgsCons, tgsNil, wipeE, reduceIte, reduceCtorEq, Option.some.injEq, eq_self, Int.cast_ofNat_Int, Int.reduceBEq, Int.reduceLT, Int.reduceLE, Int.reduceAdd, Int.reduceSub, beq_self_eq_true, decide_true, decide_false, Bool.or_false, Bool.or_true, Bool.false_or, Bool.true_or, Bool.and_true, Bool.true_and, Bool.and_false, Bool.false_and, Bool.not_not, decide_eq_true_eq, true_or, or_true, false_or, or_false, Nat.reduceLT, and_self]
  · refine ⟨⟨_, _, _, _, _, _, _, _, _, _, _, rfl⟩, fun x hx => ?_⟩
    unfold rangeV at hx
    obtain ⟨k, _, rfl⟩ := List.mem_map.mp hx
    exact ⟨k, by simp⟩
theorem law_end (ns : List Int) : ∃ S', f_law [.wls (ns.map Val.int)] [] = .ok (.bl true) S' := by
  have h := (law_ok ns).run
  cases e : f_law [.wls (ns.map Val.int)] [] with
  | ok v S' => rw [e] at h; exact ⟨S', by rw [show v = .bl true from h]⟩
  | exc c fs S' => rw [e] at h; exact h.elim
  | stuck => rw [e] at h; exact h.elim
end Fl
namespace Fl
open PySem PySem.Spec L2
open PyProof.Rows hiding St
theorem top_mk {l : PySem.W.OpenLaw} {w : World} {K : PySem.W.Frag} {h : Heap} {mg : Str → Option Value} {fa : Addr} {C_Menu C_InvalidMenu C_InvalidText At_NO_NAMES Ad_NAMES_BEHIND f0 f1 f2 f3 f4 f5 f6 f7 f8 f9 f10 f11 f12 T12 f13 p13 f14 f15 f16 f17 f18 f19 f20 f21 f22 f23 f24 f25 fe_InvalidMenu N_InvalidMenu fe_InvalidText N_InvalidText : Addr} {od0 an0 od1 an1 od2 an2 od3 an3 od4 an4 od5 an5 od6 an6 od7 an7 od8 an8 od9 an9 od10 an10 od11 an11 od12 an12 od13 an13 od14 an14 od15 an15 od16 an16 od17 an17 od18 an18 od19 an19 od20 an20 od21 an21 od22 an22 od23 an23 od24 an24 od25 an25 ode_InvalidMenu ane_InvalidMenu dd_InvalidMenu ode_InvalidText ane_InvalidText dd_InvalidText : Option Addr}
    {it_NO_NAMES : Array Value}
    {es_NAMES_BEHIND : Array DictEntry}
    {oc0 kv0 dc0 pm0 cd0 ct0 oc1 kv1 dc1 pm1 cd1 ct1 oc2 kv2 dc2 pm2 cd2 ct2 oc3 kv3 dc3 pm3 cd3 ct3 oc4 kv4 dc4 pm4 cd4 ct4 oc5 kv5 dc5 pm5 cd5 ct5 oc6 kv6 dc6 pm6 cd6 ct6 oc7 kv7 dc7 pm7 cd7 ct7 oc8 kv8 dc8 pm8 cd8 ct8 oc9 kv9 dc9 pm9 cd9 ct9 oc10 kv10 dc10 pm10 cd10 ct10 oc11 kv11 dc11 pm11 cd11 ct11 oc12 kv12 dc12 pm12 cd12 ct12 oc13 kv13 dc13 pm13 cd13 ct13 oc14 kv14 dc14 pm14 cd14 ct14 oc15 kv15 dc15 pm15 cd15 ct15 oc16 kv16 dc16 pm16 cd16 ct16 oc17 kv17 dc17 pm17 cd17 ct17 oc18 kv18 dc18 pm18 cd18 ct18 oc19 kv19 dc19 pm19 cd19 ct19 oc20 kv20 dc20 pm20 cd20 ct20 oc21 kv21 dc21 pm21 cd21 ct21 oc22 kv22 dc22 pm22 cd22 ct22 oc23 kv23 dc23 pm23 cd23 ct23 oc24 kv24 dc24 pm24 cd24 ct24 oc25 kv25 dc25 pm25 cd25 ct25 oce_InvalidMenu kve_InvalidMenu dce_InvalidMenu pme_InvalidMenu cde_InvalidMenu cte_InvalidMenu oce_InvalidText kve_InvalidText dce_InvalidText pme_InvalidText cde_InvalidText cte_InvalidText : Value}
    {sl0 sl1 sl2 sl3 sl4 sl5 sl6 sl7 sl8 sl9 sl10 sl11 sl12 sl13 sl14 sl15 sl16 sl17 sl18 sl19 sl20 sl21 sl22 sl23 sl24 sl25 sle_InvalidMenu sle_InvalidText : Array (Option Value)}
    {its12 rr13 bs_InvalidMenu bm_InvalidMenu sb_InvalidMenu bs_InvalidText bm_InvalidText sb_InvalidText : List Value}
    {nm_InvalidMenu q_InvalidMenu nm_InvalidText q_InvalidText : Str}
    {sn_InvalidMenu sn_InvalidText : List Str}
    {ab_InvalidMenu ab_InvalidText : Bool}
    {co_InvalidMenu co_InvalidText : Option Bool}
    {m0_InvalidMenu m1_InvalidMenu m2_InvalidMenu m3_InvalidMenu m5_InvalidMenu m0_InvalidText m1_InvalidText m2_InvalidText m3_InvalidText m5_InvalidText : Option Value}
    {ot_NO_NAMES o12 : Obj}
    {nt_NO_NAMES nd_NAMES_BEHIND m12 : Nat}
    {tk_DIGITS tk_LETTERS : Tok}
    (X : K.In h) (G : h.Ns mainGlobals mg) (hfa : mg "law" = some (.ref fa))
    (ac_Menu : PySem.W.nsIn K mainGlobals "Menu" = some (some (.ref C_Menu)))
    (ac_InvalidMenu : PySem.W.nsIn K mainGlobals "InvalidMenu" = some (some (.ref C_InvalidMenu)))
    (ac_InvalidText : PySem.W.nsIn K mainGlobals "InvalidText" = some (some (.ref C_InvalidText)))
    (pg_Menu : PySem.W.plainGet K C_Menu Str.empty = true)
    (hd_Menu : PySem.W.hasDictIn K C_Menu = true)
    (po_Menu : PySem.W.plainOver K C_Menu = true)
    (sa_Menu : PySem.W.findIn K (.ref C_Menu) "__setattr__" = some (some (.builtin "object.__setattr__")))
    (mk_Menu : PySem.W.makesIn K C_Menu = true)
    (kc_Menu : PySem.W.keepIn K (.ref C_Menu) = true)
    (ha_Menu : PySem.W.findIn K (.ref C_Menu) "__class__" = some (some (.builtin "object.__class__")))
    (hm_Menu : PySem.W.mroIn K C_Menu (.type "object") = some true)
    (sb_Menu_str : PySem.W.subIn K (.ref C_Menu) (.type "str") = some false)
    (sb_Menu_NoneType : PySem.W.subIn K (.ref C_Menu) (.type "NoneType") = some false)
    (sb_Menu_tuple : PySem.W.subIn K (.ref C_Menu) (.type "tuple") = some false)
    (nf_Menu_clears : PySem.W.findIn K (.ref C_Menu) "clears" = some none)
    (nf_Menu_name : PySem.W.findIn K (.ref C_Menu) "name" = some none)
    (nf_Menu_rows : PySem.W.findIn K (.ref C_Menu) "rows" = some none)
    (nf_Menu_tail : PySem.W.findIn K (.ref C_Menu) "tail" = some none)
    (nf_Menu_tries : PySem.W.findIn K (.ref C_Menu) "tries" = some none)
    (q_Menu_bool : PySem.W.kitOne K (.ref C_Menu) (.type "bool") = some false)
    (q_Menu_int : PySem.W.kitOne K (.ref C_Menu) (.type "int") = some false)
    (q_Menu_list : PySem.W.kitOne K (.ref C_Menu) (.type "list") = some false)
    (q_Menu_str : PySem.W.kitOne K (.ref C_Menu) (.type "str") = some false)
    (q_Menu_tuple : PySem.W.kitOne K (.ref C_Menu) (.type "tuple") = some false)
    (q_Menu_Menu : PySem.W.kitOne K (.ref C_Menu) (.ref C_Menu) = some true)
    (ic_Menu : PySem.W.isClsIn K C_Menu = true)
    (tc_Menu : PySem.W.typeIn K (.ref C_Menu) = some (.type "type"))
    (hn : PySem.W.specialIn K (.builtin "object.__class__") "__get__" = some (some (.builtin "getset_descriptor.__get__")))
    (ht : PySem.W.takesIn K (.builtin "object.__class__") = some true)
    (zn_abs : PySem.W.nsIn K mainGlobals "abs" = some none)
    (zn_all : PySem.W.nsIn K mainGlobals "all" = some none)
    (zn_bool : PySem.W.nsIn K mainGlobals "bool" = some none)
    (zn_int : PySem.W.nsIn K mainGlobals "int" = some none)
    (zn_isinstance : PySem.W.nsIn K mainGlobals "isinstance" = some none)
    (zn_len : PySem.W.nsIn K mainGlobals "len" = some none)
    (zn_list : PySem.W.nsIn K mainGlobals "list" = some none)
    (zn_max : PySem.W.nsIn K mainGlobals "max" = some none)
    (zn_min : PySem.W.nsIn K mainGlobals "min" = some none)
    (zn_range : PySem.W.nsIn K mainGlobals "range" = some none)
    (zn_sorted : PySem.W.nsIn K mainGlobals "sorted" = some none)
    (zn_str : PySem.W.nsIn K mainGlobals "str" = some none)
    (zn_tuple : PySem.W.nsIn K mainGlobals "tuple" = some none)
    (g_DIGITS : PySem.W.nsIn K mainGlobals "DIGITS" = some (some (.str "0123456789" tk_DIGITS)))
    (g_LETTERS : PySem.W.nsIn K mainGlobals "LETTERS" = some (some (.str "abcdefghijklmnopqrstuvwxyz" tk_LETTERS)))
    (g_NO_NAMES : PySem.W.nsIn K mainGlobals "NO_NAMES" = some (some (.ref At_NO_NAMES)))
    (gl_NO_NAMES : K.lookup At_NO_NAMES = some ot_NO_NAMES)
    (gc_NO_NAMES : ot_NO_NAMES.cls = .type "tuple")
    (gd_NO_NAMES : ot_NO_NAMES.data = .seq it_NO_NAMES nt_NO_NAMES)
    (gs_NO_NAMES : StrsW ["line", "out", "main", "back", "go", "call", "menu", "else", "none"] it_NO_NAMES.toList)
    (gz_NO_NAMES : it_NO_NAMES.size ≤ sizeLine)
    (g_NAMES_BEHIND : PySem.W.nsIn K mainGlobals "NAMES_BEHIND" = some (some (.ref Ad_NAMES_BEHIND)))
    (gl_NAMES_BEHIND : K.lookup Ad_NAMES_BEHIND = some ⟨.type "dict", none, .dict es_NAMES_BEHIND nd_NAMES_BEHIND, #[]⟩)
    (gt_NAMES_BEHIND : TabW K (adOf K ["Menu"] ["InvalidMenu", "InvalidText"]) w.params es_NAMES_BEHIND.toList w_NAMES_BEHIND)
    (go_NAMES_BEHIND : (Ad_NAMES_BEHIND == sysModules) = false)
    (a0 : PySem.W.nsIn K mainGlobals "is_name" = some (some (.ref f0)))
    (l0 : K.lookup f0 = some ⟨oc0, od0, .func (PySem.W.fnOf "is_name" "is_name" (defArgs st_is_name) (defBody st_is_name) (defScope st_is_name) .none kv0 dc0 pm0 an0 cd0 ct0), sl0⟩)
    (c0 : PySem.W.codeIn K cd0 "is_name" = true)
    (k0 : PySem.W.keepIn K (.ref f0) = true)
    (a1 : PySem.W.nsIn K mainGlobals "are_digits" = some (some (.ref f1)))
    (l1 : K.lookup f1 = some ⟨oc1, od1, .func (PySem.W.fnOf "are_digits" "are_digits" (defArgs st_are_digits) (defBody st_are_digits) (defScope st_are_digits) .none kv1 dc1 pm1 an1 cd1 ct1), sl1⟩)
    (c1 : PySem.W.codeIn K cd1 "are_digits" = true)
    (k1 : PySem.W.keepIn K (.ref f1) = true)
    (a2 : PySem.W.nsIn K mainGlobals "is_digit" = some (some (.ref f2)))
    (l2 : K.lookup f2 = some ⟨oc2, od2, .func (PySem.W.fnOf "is_digit" "is_digit" (defArgs st_is_digit) (defBody st_is_digit) (defScope st_is_digit) .none kv2 dc2 pm2 an2 cd2 ct2), sl2⟩)
    (c2 : PySem.W.codeIn K cd2 "is_digit" = true)
    (k2 : PySem.W.keepIn K (.ref f2) = true)
    (a3 : PySem.W.nsIn K mainGlobals "is_action" = some (some (.ref f3)))
    (l3 : K.lookup f3 = some ⟨oc3, od3, .func (PySem.W.fnOf "is_action" "is_action" (defArgs st_is_action) (defBody st_is_action) (defScope st_is_action) .none kv3 dc3 pm3 an3 cd3 ct3), sl3⟩)
    (c3 : PySem.W.codeIn K cd3 "is_action" = true)
    (k3 : PySem.W.keepIn K (.ref f3) = true)
    (a4 : PySem.W.nsIn K mainGlobals "is_row" = some (some (.ref f4)))
    (l4 : K.lookup f4 = some ⟨oc4, od4, .func (PySem.W.fnOf "is_row" "is_row" (defArgs st_is_row) (defBody st_is_row) (defScope st_is_row) .none kv4 dc4 pm4 an4 cd4 ct4), sl4⟩)
    (c4 : PySem.W.codeIn K cd4 "is_row" = true)
    (k4 : PySem.W.keepIn K (.ref f4) = true)
    (a5 : PySem.W.nsIn K mainGlobals "are_rows" = some (some (.ref f5)))
    (l5 : K.lookup f5 = some ⟨oc5, od5, .func (PySem.W.fnOf "are_rows" "are_rows" (defArgs st_are_rows) (defBody st_are_rows) (defScope st_are_rows) .none kv5 dc5 pm5 an5 cd5 ct5), sl5⟩)
    (c5 : PySem.W.codeIn K cd5 "are_rows" = true)
    (k5 : PySem.W.keepIn K (.ref f5) = true)
    (a6 : PySem.W.nsIn K mainGlobals "are_tries" = some (some (.ref f6)))
    (l6 : K.lookup f6 = some ⟨oc6, od6, .func (PySem.W.fnOf "are_tries" "are_tries" (defArgs st_are_tries) (defBody st_are_tries) (defScope st_are_tries) .none kv6 dc6 pm6 an6 cd6 ct6), sl6⟩)
    (c6 : PySem.W.codeIn K cd6 "are_tries" = true)
    (k6 : PySem.W.keepIn K (.ref f6) = true)
    (a7 : PySem.W.nsIn K mainGlobals "wrong_argument" = some (some (.ref f7)))
    (l7 : K.lookup f7 = some ⟨oc7, od7, .func (PySem.W.fnOf "wrong_argument" "wrong_argument" (defArgs st_wrong_argument) (defBody st_wrong_argument) (defScope st_wrong_argument) .none kv7 dc7 pm7 an7 cd7 ct7), sl7⟩)
    (c7 : PySem.W.codeIn K cd7 "wrong_argument" = true)
    (k7 : PySem.W.keepIn K (.ref f7) = true)
    (a8 : PySem.W.nsIn K mainGlobals "head_line" = some (some (.ref f8)))
    (l8 : K.lookup f8 = some ⟨oc8, od8, .func (PySem.W.fnOf "head_line" "head_line" (defArgs st_head_line) (defBody st_head_line) (defScope st_head_line) .none kv8 dc8 pm8 an8 cd8 ct8), sl8⟩)
    (c8 : PySem.W.codeIn K cd8 "head_line" = true)
    (k8 : PySem.W.keepIn K (.ref f8) = true)
    (a9 : PySem.W.nsIn K mainGlobals "is_count" = some (some (.ref f9)))
    (l9 : K.lookup f9 = some ⟨oc9, od9, .func (PySem.W.fnOf "is_count" "is_count" (defArgs st_is_count) (defBody st_is_count) (defScope st_is_count) .none kv9 dc9 pm9 an9 cd9 ct9), sl9⟩)
    (c9 : PySem.W.codeIn K cd9 "is_count" = true)
    (k9 : PySem.W.keepIn K (.ref f9) = true)
    (a10 : PySem.W.nsIn K mainGlobals "read_head" = some (some (.ref f10)))
    (l10 : K.lookup f10 = some ⟨oc10, od10, .func (PySem.W.fnOf "read_head" "read_head" (defArgs st_read_head) (defBody st_read_head) (defScope st_read_head) .none kv10 dc10 pm10 an10 cd10 ct10), sl10⟩)
    (c10 : PySem.W.codeIn K cd10 "read_head" = true)
    (k10 : PySem.W.keepIn K (.ref f10) = true)
    (a11 : PySem.W.nsIn K mainGlobals "read_part" = some (some (.ref f11)))
    (l11 : K.lookup f11 = some ⟨oc11, od11, .func (PySem.W.fnOf "read_part" "read_part" (defArgs st_read_part) (defBody st_read_part) (defScope st_read_part) .none kv11 dc11 pm11 an11 cd11 ct11), sl11⟩)
    (c11 : PySem.W.codeIn K cd11 "read_part" = true)
    (k11 : PySem.W.keepIn K (.ref f11) = true)
    (a12 : PySem.W.findIn K (.ref C_Menu) "__init__" = some (some (.ref f12)))
    (i12 : PySem.W.isFn K (.ref f12) = true)
    (l12 : K.lookup f12 = some ⟨oc12, od12, .func (PySem.W.fnOf "__init__" "Menu.__init__" (defArgs st_Menu_init) (defBody st_Menu_init) (defScope st_Menu_init) (.ref T12) kv12 dc12 pm12 an12 cd12 ct12), sl12⟩)
    (c12 : PySem.W.codeIn K cd12 "Menu.__init__" = true)
    (k12 : PySem.W.keepIn K (.ref f12) = true)
    (t12 : K.lookup T12 = some o12)
    (d12 : o12.data = .seq its12.toArray m12)
    (e12 : its12.length = 2)
    (rd_Menu : PySem.W.readsIn K C_Menu (.type "type") = true)
    (cg_Menu : PySem.W.specialIn K (.ref C_Menu) "__getattribute__" = some (some (.builtin "type.__getattribute__")))
    (a13 : PySem.W.findCls K (.ref C_Menu) (.type "type") "read" = some (.get (.builtin "classmethod.__get__") (.ref p13) .none (.ref C_Menu)))
    (r13 : PySem.W.recIn K p13 "classmethod" = some (.ref f13 :: rr13))
    (i13 : PySem.W.fnIn K f13 = true)
    (l13 : K.lookup f13 = some ⟨oc13, od13, .func (PySem.W.fnOf "read" "Menu.read" (defArgs st_Menu_read) (defBody st_Menu_read) (defScope st_Menu_read) .none kv13 dc13 pm13 an13 cd13 ct13), sl13⟩)
    (c13 : PySem.W.codeIn K cd13 "Menu.read" = true)
    (k13 : PySem.W.keepIn K (.ref f13) = true)
    (a14 : PySem.W.findIn K (.ref C_Menu) "__eq__" = some (some (.ref f14)))
    (i14 : PySem.W.isFn K (.ref f14) = true)
    (ne_Menu : PySem.W.findIn K (.ref C_Menu) "__ne__" = some (some (.builtin "object.__ne__")))
    (l14 : K.lookup f14 = some ⟨oc14, od14, .func (PySem.W.fnOf "__eq__" "Menu.__eq__" (defArgs st_Menu_eq) (defBody st_Menu_eq) (defScope st_Menu_eq) .none kv14 dc14 pm14 an14 cd14 ct14), sl14⟩)
    (c14 : PySem.W.codeIn K cd14 "Menu.__eq__" = true)
    (k14 : PySem.W.keepIn K (.ref f14) = true)
    (a15 : PySem.W.findIn K (.ref C_Menu) "__str__" = some (some (.ref f15)))
    (i15 : PySem.W.isFn K (.ref f15) = true)
    (l15 : K.lookup f15 = some ⟨oc15, od15, .func (PySem.W.fnOf "__str__" "Menu.__str__" (defArgs st_Menu_str) (defBody st_Menu_str) (defScope st_Menu_str) .none kv15 dc15 pm15 an15 cd15 ct15), sl15⟩)
    (c15 : PySem.W.codeIn K cd15 "Menu.__str__" = true)
    (k15 : PySem.W.keepIn K (.ref f15) = true)
    (a16 : PySem.W.nsIn K mainGlobals "_law_seed" = some (some (.ref f16)))
    (l16 : K.lookup f16 = some ⟨oc16, od16, .func (PySem.W.fnOf "_law_seed" "_law_seed" (defArgs st_l_seed) (defBody st_l_seed) (defScope st_l_seed) .none kv16 dc16 pm16 an16 cd16 ct16), sl16⟩)
    (c16 : PySem.W.codeIn K cd16 "_law_seed" = true)
    (k16 : PySem.W.keepIn K (.ref f16) = true)
    (a17 : PySem.W.nsIn K mainGlobals "_law_choose" = some (some (.ref f17)))
    (l17 : K.lookup f17 = some ⟨oc17, od17, .func (PySem.W.fnOf "_law_choose" "_law_choose" (defArgs st_l_choose) (defBody st_l_choose) (defScope st_l_choose) .none kv17 dc17 pm17 an17 cd17 ct17), sl17⟩)
    (c17 : PySem.W.codeIn K cd17 "_law_choose" = true)
    (k17 : PySem.W.keepIn K (.ref f17) = true)
    (a18 : PySem.W.nsIn K mainGlobals "_law_one_of" = some (some (.ref f18)))
    (l18 : K.lookup f18 = some ⟨oc18, od18, .func (PySem.W.fnOf "_law_one_of" "_law_one_of" (defArgs st_l_one_of) (defBody st_l_one_of) (defScope st_l_one_of) .none kv18 dc18 pm18 an18 cd18 ct18), sl18⟩)
    (c18 : PySem.W.codeIn K cd18 "_law_one_of" = true)
    (k18 : PySem.W.keepIn K (.ref f18) = true)
    (a19 : PySem.W.nsIn K mainGlobals "_law_mixed" = some (some (.ref f19)))
    (l19 : K.lookup f19 = some ⟨oc19, od19, .func (PySem.W.fnOf "_law_mixed" "_law_mixed" (defArgs st_l_mixed) (defBody st_l_mixed) (defScope st_l_mixed) .none kv19 dc19 pm19 an19 cd19 ct19), sl19⟩)
    (c19 : PySem.W.codeIn K cd19 "_law_mixed" = true)
    (k19 : PySem.W.keepIn K (.ref f19) = true)
    (a20 : PySem.W.nsIn K mainGlobals "_law_deed" = some (some (.ref f20)))
    (l20 : K.lookup f20 = some ⟨oc20, od20, .func (PySem.W.fnOf "_law_deed" "_law_deed" (defArgs st_l_deed) (defBody st_l_deed) (defScope st_l_deed) .none kv20 dc20 pm20 an20 cd20 ct20), sl20⟩)
    (c20 : PySem.W.codeIn K cd20 "_law_deed" = true)
    (k20 : PySem.W.keepIn K (.ref f20) = true)
    (a21 : PySem.W.nsIn K mainGlobals "_law_menu" = some (some (.ref f21)))
    (l21 : K.lookup f21 = some ⟨oc21, od21, .func (PySem.W.fnOf "_law_menu" "_law_menu" (defArgs st_l_menu) (defBody st_l_menu) (defScope st_l_menu) .none kv21 dc21 pm21 an21 cd21 ct21), sl21⟩)
    (c21 : PySem.W.codeIn K cd21 "_law_menu" = true)
    (k21 : PySem.W.keepIn K (.ref f21) = true)
    (a22 : PySem.W.nsIn K mainGlobals "_law_anything" = some (some (.ref f22)))
    (l22 : K.lookup f22 = some ⟨oc22, od22, .func (PySem.W.fnOf "_law_anything" "_law_anything" (defArgs st_l_anything) (defBody st_l_anything) (defScope st_l_anything) .none kv22 dc22 pm22 an22 cd22 ct22), sl22⟩)
    (c22 : PySem.W.codeIn K cd22 "_law_anything" = true)
    (k22 : PySem.W.keepIn K (.ref f22) = true)
    (a23 : PySem.W.nsIn K mainGlobals "_law_made" = some (some (.ref f23)))
    (l23 : K.lookup f23 = some ⟨oc23, od23, .func (PySem.W.fnOf "_law_made" "_law_made" (defArgs st_l_made) (defBody st_l_made) (defScope st_l_made) .none kv23 dc23 pm23 an23 cd23 ct23), sl23⟩)
    (c23 : PySem.W.codeIn K cd23 "_law_made" = true)
    (k23 : PySem.W.keepIn K (.ref f23) = true)
    (a24 : PySem.W.findIn K (.ref C_Menu) "action" = some (some (.ref f24)))
    (i24 : PySem.W.isFn K (.ref f24) = true)
    (l24 : K.lookup f24 = some ⟨oc24, od24, .func (PySem.W.fnOf "action" "Menu.action" (defArgs st_Menu_action) (defBody st_Menu_action) (defScope st_Menu_action) .none kv24 dc24 pm24 an24 cd24 ct24), sl24⟩)
    (c24 : PySem.W.codeIn K cd24 "Menu.action" = true)
    (k24 : PySem.W.keepIn K (.ref f24) = true)
    (a25 : PySem.W.nsIn K mainGlobals "law" = some (some (.ref f25)))
    (l25 : K.lookup f25 = some ⟨oc25, od25, .func (PySem.W.fnOf "law" "law" (defArgs st_law) (defBody st_law) (defScope st_law) .none kv25 dc25 pm25 an25 cd25 ct25), sl25⟩)
    (c25 : PySem.W.codeIn K cd25 "law" = true)
    (k25 : PySem.W.keepIn K (.ref f25) = true)
    (xl_InvalidMenu : K.lookup C_InvalidMenu = some (excClassObj nm_InvalidMenu q_InvalidMenu C_InvalidMenu N_InvalidMenu bs_InvalidMenu bm_InvalidMenu true sn_InvalidMenu sb_InvalidMenu ab_InvalidMenu co_InvalidMenu dd_InvalidMenu m0_InvalidMenu m1_InvalidMenu m2_InvalidMenu m3_InvalidMenu m5_InvalidMenu "ValueError.__new__"))
    (rv_InvalidMenu : PySem.HandSPX.refsVE bm_InvalidMenu = true)
    (sa_InvalidMenu : PySem.W.findIn K (.ref C_InvalidMenu) "__setattr__" = some (some (.builtin "object.__setattr__")))
    (ex_InvalidMenu : PySem.W.subIn K (.ref C_InvalidMenu) (.type "BaseException") = some true)
    (ty_InvalidMenu : PySem.W.typeIn K (.ref C_InvalidMenu) = some (.type "type"))
    (kc_InvalidMenu : PySem.W.keepIn K (.ref C_InvalidMenu) = true)
    (no_InvalidMenu : PySem.W.findIn K (.ref C_InvalidMenu) "word" = some none)
    (ae_InvalidMenu : PySem.W.findIn K (.ref C_InvalidMenu) "__init__" = some (some (.ref fe_InvalidMenu)))
    (tfe_InvalidMenu : PySem.W.typeIn K (.ref fe_InvalidMenu) = some (.type "function"))
    (le_InvalidMenu : K.lookup fe_InvalidMenu = some ⟨oce_InvalidMenu, ode_InvalidMenu, .func (PySem.W.fnOf "__init__" "InvalidMenu.__init__" (defArgs (inClass (top 2) 0)) (defBody (inClass (top 2) 0)) (defScope (inClass (top 2) 0)) .none kve_InvalidMenu dce_InvalidMenu pme_InvalidMenu ane_InvalidMenu cde_InvalidMenu cte_InvalidMenu), sle_InvalidMenu⟩)
    (ce_InvalidMenu : PySem.W.codeIn K cde_InvalidMenu "InvalidMenu.__init__" = true)
    (xl_InvalidText : K.lookup C_InvalidText = some (excClassObj nm_InvalidText q_InvalidText C_InvalidText N_InvalidText bs_InvalidText bm_InvalidText true sn_InvalidText sb_InvalidText ab_InvalidText co_InvalidText dd_InvalidText m0_InvalidText m1_InvalidText m2_InvalidText m3_InvalidText m5_InvalidText "ValueError.__new__"))
    (rv_InvalidText : PySem.HandSPX.refsVE bm_InvalidText = true)
    (sa_InvalidText : PySem.W.findIn K (.ref C_InvalidText) "__setattr__" = some (some (.builtin "object.__setattr__")))
    (ex_InvalidText : PySem.W.subIn K (.ref C_InvalidText) (.type "BaseException") = some true)
    (ty_InvalidText : PySem.W.typeIn K (.ref C_InvalidText) = some (.type "type"))
    (kc_InvalidText : PySem.W.keepIn K (.ref C_InvalidText) = true)
    (no_InvalidText : PySem.W.findIn K (.ref C_InvalidText) "at" = some none)
    (ae_InvalidText : PySem.W.findIn K (.ref C_InvalidText) "__init__" = some (some (.ref fe_InvalidText)))
    (tfe_InvalidText : PySem.W.typeIn K (.ref fe_InvalidText) = some (.type "function"))
    (le_InvalidText : K.lookup fe_InvalidText = some ⟨oce_InvalidText, ode_InvalidText, .func (PySem.W.fnOf "__init__" "InvalidText.__init__" (defArgs (inClass (top 3) 0)) (defBody (inClass (top 3) 0)) (defScope (inClass (top 3) 0)) .none kve_InvalidText dce_InvalidText pme_InvalidText ane_InvalidText cde_InvalidText cte_InvalidText), sle_InvalidText⟩)
    (ce_InvalidText : PySem.W.codeIn K cde_InvalidText "InvalidText.__init__" = true)
    : ∃ fd : FuncData, (∀ (s : Shared) (v : Value), BindsTo s fd ⟨[v], []⟩ [("_law_script", v)]) ∧ ∀ base : Heap, K.In base → base.Ns mainGlobals mg →
      FnOk l.prog w K mg base (L2.CX l.prog w) 10 fa fd ["_law_script"] (spOf K (adOf K ["Menu"] ["InvalidMenu", "InvalidText"]) 1 f_law) := by
  have e := hfa.symm.trans (PySem.W.mg_of X G a25)
  cases e
  have hC_Menu : adOf K ["Menu"] ["InvalidMenu", "InvalidText"] (.inl "Menu") = some C_Menu := adOf_l ac_Menu (by decide)
  have cl_Menu : Cls K C_Menu := ⟨pg_Menu, hd_Menu, po_Menu, sa_Menu⟩
  have T : Txt K mg w (adOf K ["Menu"] ["InvalidMenu", "InvalidText"]) := {
    A_Menu := C_Menu,
    nh := rfl,
    a_Menu := ⟨C_Menu, PySem.W.mg_of X G ac_Menu, hC_Menu⟩,
    c_Menu := PySem.W.mg_of X G ac_Menu,
    dk := each_l (P := fun _ C => ∀ T ∈ dkT, PySem.W.subIn K (.ref C) (.type T) = some false) (.cons ac_Menu (dk3 sb_Menu_str sb_Menu_NoneType sb_Menu_tuple) (.nil)),
    f_clears := each_l (P := fun _ C => Cls K C ∧ NoAttr K C _) (.cons ac_Menu ⟨cl_Menu, nf_Menu_clears⟩ (.nil)),
    f_name := each_l (P := fun _ C => Cls K C ∧ NoAttr K C _) (.cons ac_Menu ⟨cl_Menu, nf_Menu_name⟩ (.nil)),
    f_rows := each_l (P := fun _ C => Cls K C ∧ NoAttr K C _) (.cons ac_Menu ⟨cl_Menu, nf_Menu_rows⟩ (.nil)),
    f_tail := each_l (P := fun _ C => Cls K C ∧ NoAttr K C _) (.cons ac_Menu ⟨cl_Menu, nf_Menu_tail⟩ (.nil)),
    f_tries := each_l (P := fun _ C => Cls K C ∧ NoAttr K C _) (.cons ac_Menu ⟨cl_Menu, nf_Menu_tries⟩ (.nil)),
    isi_Menu := isi_own ic_Menu tc_Menu (each_l (P := fun c C => PySem.W.kitOne K (.ref C) (.ref C_Menu) = some (isOwn "Menu" (.own c))) (.cons ac_Menu (q_Menu_Menu.trans (by decide)) (.nil))),
    isi_bool := isi_ty (each_l (P := fun _ C => PySem.W.kitOne K (.ref C) (.type "bool") = some false) (.cons ac_Menu q_Menu_bool (.nil))) (by decide +kernel) (fun _ => rfl),
    isi_int := isi_ty (each_l (P := fun _ C => PySem.W.kitOne K (.ref C) (.type "int") = some false) (.cons ac_Menu q_Menu_int (.nil))) (by decide +kernel) (fun _ => rfl),
    isi_list := isi_ty (each_l (P := fun _ C => PySem.W.kitOne K (.ref C) (.type "list") = some false) (.cons ac_Menu q_Menu_list (.nil))) (by decide +kernel) (fun _ => rfl),
    isi_str := isi_ty (each_l (P := fun _ C => PySem.W.kitOne K (.ref C) (.type "str") = some false) (.cons ac_Menu q_Menu_str (.nil))) (by decide +kernel) (fun _ => rfl),
    isi_tuple := isi_ty (each_l (P := fun _ C => PySem.W.kitOne K (.ref C) (.type "tuple") = some false) (.cons ac_Menu q_Menu_tuple (.nil))) (by decide +kernel) (fun _ => rfl),
    ity := each_l (P := fun _ C => InsTy K C) (.cons ac_Menu ⟨cl_Menu, ha_Menu, hn, ht, hm_Menu⟩ (.nil)),
    k_DIGITS := gl_str X G g_DIGITS,
    k_LETTERS := gl_str X G g_LETTERS,
    k_NO_NAMES := gl_tup (zs := ["line", "out", "main", "back", "go", "call", "menu", "else", "none"]) X G g_NO_NAMES gl_NO_NAMES gc_NO_NAMES gd_NO_NAMES gs_NO_NAMES gz_NO_NAMES,
    n_abs := PySem.W.mg_none_of X G zn_abs,
    n_all := PySem.W.mg_none_of X G zn_all,
    n_bool := PySem.W.mg_none_of X G zn_bool,
    n_int := PySem.W.mg_none_of X G zn_int,
    n_isinstance := PySem.W.mg_none_of X G zn_isinstance,
    n_len := PySem.W.mg_none_of X G zn_len,
    n_list := PySem.W.mg_none_of X G zn_list,
    n_max := PySem.W.mg_none_of X G zn_max,
    n_min := PySem.W.mg_none_of X G zn_min,
    n_range := PySem.W.mg_none_of X G zn_range,
    n_sorted := PySem.W.mg_none_of X G zn_sorted,
    n_str := PySem.W.mg_none_of X G zn_str,
    n_tuple := PySem.W.mg_none_of X G zn_tuple,
    w_NAMES_BEHIND := ⟨Ad_NAMES_BEHIND, PySem.W.mg_of X G g_NAMES_BEHIND, wdict_of gl_NAMES_BEHIND gt_NAMES_BEHIND go_NAMES_BEHIND⟩ }
  refine ⟨PySem.W.fnOf "law" "law" (defArgs st_law) (defBody st_law) (defScope st_law) .none kv25 dc25 pm25 an25 cd25 ct25, fun s v => .of_eq rfl, fun base _ _ => ?_⟩
  have hE_InvalidMenu : adOf K ["Menu"] ["InvalidMenu", "InvalidText"] (.inr "InvalidMenu") = some C_InvalidMenu := adOf_r ac_InvalidMenu (by decide)
  have E_InvalidMenu := err_at (P := l.prog) (w := w) (base := base) X G hE_InvalidMenu ac_InvalidMenu ⟨⟨_, _, _, _, _, _, _, _, _, _, _, _, _, _, _, xl_InvalidMenu, rv_InvalidMenu⟩, sa_InvalidMenu, ex_InvalidMenu, ty_InvalidMenu, kc_InvalidMenu⟩ ae_InvalidMenu tfe_InvalidMenu no_InvalidMenu (st := (inClass (top 2) 0)) (self := "self") (p := "word") rfl (fn_mk (st := (inClass (top 2) 0)) le_InvalidMenu ce_InvalidMenu) ⟨rfl, rfl, rfl, by decide +kernel, rfl, by decide +kernel, by decide +kernel⟩ (.all fun us hl => match us, hl with | [_, _], _ => rfl)
  have hE_InvalidText : adOf K ["Menu"] ["InvalidMenu", "InvalidText"] (.inr "InvalidText") = some C_InvalidText := adOf_r ac_InvalidText (by decide)
  have E_InvalidText := err_at (P := l.prog) (w := w) (base := base) X G hE_InvalidText ac_InvalidText ⟨⟨_, _, _, _, _, _, _, _, _, _, _, _, _, _, _, xl_InvalidText, rv_InvalidText⟩, sa_InvalidText, ex_InvalidText, ty_InvalidText, kc_InvalidText⟩ ae_InvalidText tfe_InvalidText no_InvalidText (st := (inClass (top 3) 0)) (self := "self") (p := "at") rfl (fn_mk (st := (inClass (top 3) 0)) le_InvalidText ce_InvalidText) ⟨rfl, rfl, rfl, by decide +kernel, rfl, by decide +kernel, by decide +kernel⟩ (.all fun us hl => match us, hl with | [_, _], _ => rfl)
  have B0 : Binds K (PySem.W.fnOf "is_name" "is_name" (defArgs st_is_name) (defBody st_is_name) (defScope st_is_name) .none kv0 dc0 pm0 an0 cd0 ct0) ["value"] [] := .all fun us hl => match us, hl with | [_], _ => rfl
  have G0 := ok_is_name (P := l.prog) (base := base) (fn_mk (st := st_is_name) l0 c0) T
  have D_is_name := def_at X G a0 k0 G0 rfl B0
  have B1 : Binds K (PySem.W.fnOf "are_digits" "are_digits" (defArgs st_are_digits) (defBody st_are_digits) (defScope st_are_digits) .none kv1 dc1 pm1 an1 cd1 ct1) ["text"] [] := .all fun us hl => match us, hl with | [_], _ => rfl
  have G1 := ok_are_digits (P := l.prog) (base := base) (fn_mk (st := st_are_digits) l1 c1) T
  have D_are_digits := def_at X G a1 k1 G1 rfl B1
  have B2 : Binds K (PySem.W.fnOf "is_digit" "is_digit" (defArgs st_is_digit) (defBody st_is_digit) (defScope st_is_digit) .none kv2 dc2 pm2 an2 cd2 ct2) ["value"] [] := .all fun us hl => match us, hl with | [_], _ => rfl
  have G2 := ok_is_digit (P := l.prog) (base := base) (fn_mk (st := st_is_digit) l2 c2) T
  have D_is_digit := def_at X G a2 k2 G2 rfl B2
  have B3 : Binds K (PySem.W.fnOf "is_action" "is_action" (defArgs st_is_action) (defBody st_is_action) (defScope st_is_action) .none kv3 dc3 pm3 an3 cd3 ct3) ["value"] [] := .all fun us hl => match us, hl with | [_], _ => rfl
  have G3 := ok_is_action (P := l.prog) (base := base) (fn_mk (st := st_is_action) l3 c3) T D_is_name
  have D_is_action := def_at X G a3 k3 G3 rfl B3
  have B4 : Binds K (PySem.W.fnOf "is_row" "is_row" (defArgs st_is_row) (defBody st_is_row) (defScope st_is_row) .none kv4 dc4 pm4 an4 cd4 ct4) ["value"] [] := .all fun us hl => match us, hl with | [_], _ => rfl
  have G4 := ok_is_row (P := l.prog) (base := base) (fn_mk (st := st_is_row) l4 c4) T D_is_digit D_is_action
  have D_is_row := def_at X G a4 k4 G4 rfl B4
  have B5 : Binds K (PySem.W.fnOf "are_rows" "are_rows" (defArgs st_are_rows) (defBody st_are_rows) (defScope st_are_rows) .none kv5 dc5 pm5 an5 cd5 ct5) ["value"] [] := .all fun us hl => match us, hl with | [_], _ => rfl
  have G5 := ok_are_rows (P := l.prog) (base := base) (fn_mk (st := st_are_rows) l5 c5) T D_is_row
  have D_are_rows := def_at X G a5 k5 G5 rfl B5
  have B6 : Binds K (PySem.W.fnOf "are_tries" "are_tries" (defArgs st_are_tries) (defBody st_are_tries) (defScope st_are_tries) .none kv6 dc6 pm6 an6 cd6 ct6) ["value"] [] := .all fun us hl => match us, hl with | [_], _ => rfl
  have G6 := ok_are_tries (P := l.prog) (base := base) (fn_mk (st := st_are_tries) l6 c6) T
  have D_are_tries := def_at X G a6 k6 G6 rfl B6
  have B7 : Binds K (PySem.W.fnOf "wrong_argument" "wrong_argument" (defArgs st_wrong_argument) (defBody st_wrong_argument) (defScope st_wrong_argument) .none kv7 dc7 pm7 an7 cd7 ct7) ["name", "rows", "tail", "tries", "clears"] [] := .all fun us hl => match us, hl with | [_, _, _, _, _], _ => rfl
  have G7 := ok_wrong_argument (P := l.prog) (base := base) (fn_mk (st := st_wrong_argument) l7 c7) T D_are_tries D_is_action D_are_rows D_is_name
  have D_wrong_argument := def_at X G a7 k7 G7 rfl B7
  have B8 : Binds K (PySem.W.fnOf "head_line" "head_line" (defArgs st_head_line) (defBody st_head_line) (defScope st_head_line) .none kv8 dc8 pm8 an8 cd8 ct8) ["menu"] [] := .all fun us hl => match us, hl with | [_], _ => rfl
  have G8 := ok_head_line (P := l.prog) (base := base) (fn_mk (st := st_head_line) l8 c8) T
  have D_head_line := def_at X G a8 k8 G8 rfl B8
  have B9 : Binds K (PySem.W.fnOf "is_count" "is_count" (defArgs st_is_count) (defBody st_is_count) (defScope st_is_count) .none kv9 dc9 pm9 an9 cd9 ct9) ["word"] [] := .all fun us hl => match us, hl with | [_], _ => rfl
  have G9 := ok_is_count (P := l.prog) (base := base) (fn_mk (st := st_is_count) l9 c9) T D_are_digits
  have D_is_count := def_at X G a9 k9 G9 rfl B9
  have B10 : Binds K (PySem.W.fnOf "read_head" "read_head" (defArgs st_read_head) (defBody st_read_head) (defScope st_read_head) .none kv10 dc10 pm10 an10 cd10 ct10) ["line"] [] := .all fun us hl => match us, hl with | [_], _ => rfl
  have G10 := ok_read_head (P := l.prog) (base := base) (fn_mk (st := st_read_head) l10 c10) T D_is_name D_is_count
  have D_read_head := def_at X G a10 k10 G10 rfl B10
  have B11 : Binds K (PySem.W.fnOf "read_part" "read_part" (defArgs st_read_part) (defBody st_read_part) (defScope st_read_part) .none kv11 dc11 pm11 an11 cd11 ct11) ["lines", "start"] [] := .all fun us hl => match us, hl with | [_, _], _ => rfl
  have G11 := ok_read_part (P := l.prog) (base := base) (fn_mk (st := st_read_part) l11 c11) T D_read_head E_InvalidText D_is_action D_are_rows
  have D_read_part := def_at X G a11 k11 G11 rfl B11
  have B12 : Binds K _ ["self", "name", "rows", "tail", "tries", "clears"] [] := binds_dfl (st := st_Menu_init) (kV := kv12) (doc := dc12) (pm := pm12) (an := an12) (cdv := cd12) (ct := ct12) (x := "__init__") (qual := "Menu.__init__") 6 2 t12 d12 (by rw [← e12]; exact List.drop_length) rfl fun us hl => match us, hl with | [_, _, _, _, _, _], _ => match its12, e12 with | [_, _], _ => ⟨_, rfl, rfl⟩
  have G12 := ok_Menu_init (P := l.prog) (base := base) (fn_mk (st := st_Menu_init) l12 c12) T D_wrong_argument E_InvalidMenu
  have K_Menu := mak_at X G hC_Menu ac_Menu ⟨mk_Menu, a12, i12, kc_Menu⟩ G12 rfl B12
  have B13 : Binds K (PySem.W.fnOf "read" "Menu.read" (defArgs st_Menu_read) (defBody st_Menu_read) (defScope st_Menu_read) .none kv13 dc13 pm13 an13 cd13 ct13) ["cls", "text"] [] := .all fun us hl => match us, hl with | [_, _], _ => rfl
  have G13 := ok_Menu_read (P := l.prog) (base := base) (fn_mk (st := st_Menu_read) l13 c13) T D_read_part E_InvalidText K_Menu
  have M_Menu_read := clm_at hC_Menu ⟨rd_Menu, cg_Menu⟩ ⟨a13, ⟨_, r13⟩, i13⟩ G13 rfl B13
  have B14 : Binds K (PySem.W.fnOf "__eq__" "Menu.__eq__" (defArgs st_Menu_eq) (defBody st_Menu_eq) (defScope st_Menu_eq) .none kv14 dc14 pm14 an14 cd14 ct14) ["self", "other"] [] := .all fun us hl => match us, hl with | [_, _], _ => rfl
  have G14 := ok_Menu_eq (P := l.prog) (base := base) (fn_mk (st := st_Menu_eq) l14 c14) T
  have Q_Menu := eq_at hC_Menu cl_Menu ⟨a14, i14, k14⟩ G14 B14 ne_Menu mk_Menu
  have B15 : Binds K (PySem.W.fnOf "__str__" "Menu.__str__" (defArgs st_Menu_str) (defBody st_Menu_str) (defScope st_Menu_str) .none kv15 dc15 pm15 an15 cd15 ct15) ["self"] [] := .all fun us hl => match us, hl with | [_], _ => rfl
  have G15 := ok_Menu_str (P := l.prog) (base := base) (fn_mk (st := st_Menu_str) l15 c15) T D_head_line
  have U_Menu := str_at hC_Menu cl_Menu ⟨a15, i15, k15⟩ G15 B15
  have B16 : Binds K (PySem.W.fnOf "_law_seed" "_law_seed" (defArgs st_l_seed) (defBody st_l_seed) (defScope st_l_seed) .none kv16 dc16 pm16 an16 cd16 ct16) ["_law_script", "_law_k"] [] := .all fun us hl => match us, hl with | [_, _], _ => rfl
  have G16 := ok_l_seed (P := l.prog) (base := base) (fn_mk (st := st_l_seed) l16 c16) T
  have D_l_seed := def_at X G a16 k16 G16 rfl B16
  have B17 : Binds K (PySem.W.fnOf "_law_choose" "_law_choose" (defArgs st_l_choose) (defBody st_l_choose) (defScope st_l_choose) .none kv17 dc17 pm17 an17 cd17 ct17) ["_law_box", "_law_many"] [] := .all fun us hl => match us, hl with | [_, _], _ => rfl
  have G17 := ok_l_choose (P := l.prog) (base := base) (fn_mk (st := st_l_choose) l17 c17) T
  have D_l_choose := def_at X G a17 k17 G17 rfl B17
  have B18 : Binds K (PySem.W.fnOf "_law_one_of" "_law_one_of" (defArgs st_l_one_of) (defBody st_l_one_of) (defScope st_l_one_of) .none kv18 dc18 pm18 an18 cd18 ct18) ["_law_box", "_law_some"] [] := .all fun us hl => match us, hl with | [_, _], _ => rfl
  have G18 := ok_l_one_of (P := l.prog) (base := base) (fn_mk (st := st_l_one_of) l18 c18) T D_l_choose
  have D_l_one_of := def_at X G a18 k18 G18 rfl B18
  have B19 : Binds K (PySem.W.fnOf "_law_mixed" "_law_mixed" (defArgs st_l_mixed) (defBody st_l_mixed) (defScope st_l_mixed) .none kv19 dc19 pm19 an19 cd19 ct19) ["_law_box", "_law_some"] [] := .all fun us hl => match us, hl with | [_, _], _ => rfl
  have G19 := ok_l_mixed (P := l.prog) (base := base) (fn_mk (st := st_l_mixed) l19 c19) T D_l_choose
  have D_l_mixed := def_at X G a19 k19 G19 rfl B19
  have B20 : Binds K (PySem.W.fnOf "_law_deed" "_law_deed" (defArgs st_l_deed) (defBody st_l_deed) (defScope st_l_deed) .none kv20 dc20 pm20 an20 cd20 ct20) ["_law_box", "_law_names"] [] := .all fun us hl => match us, hl with | [_, _], _ => rfl
  have G20 := ok_l_deed (P := l.prog) (base := base) (fn_mk (st := st_l_deed) l20 c20) T D_l_choose D_l_one_of
  have D_l_deed := def_at X G a20 k20 G20 rfl B20
  have B21 : Binds K (PySem.W.fnOf "_law_menu" "_law_menu" (defArgs st_l_menu) (defBody st_l_menu) (defScope st_l_menu) .none kv21 dc21 pm21 an21 cd21 ct21) ["_law_box", "_law_name", "_law_names", "_law_most"] [] := .all fun us hl => match us, hl with | [_, _, _, _], _ => rfl
  have G21 := ok_l_menu (P := l.prog) (base := base) (fn_mk (st := st_l_menu) l21 c21) T D_l_mixed D_l_choose D_l_deed
  have D_l_menu := def_at X G a21 k21 G21 rfl B21
  have B22 : Binds K (PySem.W.fnOf "_law_anything" "_law_anything" (defArgs st_l_anything) (defBody st_l_anything) (defScope st_l_anything) .none kv22 dc22 pm22 an22 cd22 ct22) ["_law_box", "_law_deep"] [] := .all fun us hl => match us, hl with | [_, _], _ => rfl
  have D_l_anything := ok_l_anything (P := l.prog) (base := base) (fn_mk (st := st_l_anything) l22 c22) T D_l_choose D_l_one_of (PySem.W.mg_of X G a22) k22 B22
  have B23 : Binds K (PySem.W.fnOf "_law_made" "_law_made" (defArgs st_l_made) (defBody st_l_made) (defScope st_l_made) .none kv23 dc23 pm23 an23 cd23 ct23) ["_law_one"] [] := .all fun us hl => match us, hl with | [_], _ => rfl
  have G23 := ok_l_made (P := l.prog) (base := base) (fn_mk (st := st_l_made) l23 c23) T K_Menu
  have D_l_made := def_at X G a23 k23 G23 rfl B23
  have B24 : Binds K (PySem.W.fnOf "action" "Menu.action" (defArgs st_Menu_action) (defBody st_Menu_action) (defScope st_Menu_action) .none kv24 dc24 pm24 an24 cd24 ct24) ["self", "digit"] [] := .all fun us hl => match us, hl with | [_, _], _ => rfl
  have G24 := ok_Menu_action (P := l.prog) (base := base) (fn_mk (st := st_Menu_action) l24 c24) T Q_Menu
  have M_Menu_action := met_at hC_Menu cl_Menu ⟨a24, i24, k24⟩ G24 rfl B24
  have B25 : Binds K (PySem.W.fnOf "law" "law" (defArgs st_law) (defBody st_law) (defScope st_law) .none kv25 dc25 pm25 an25 cd25 ct25) ["_law_script"] [] := .all fun us hl => match us, hl with | [_], _ => rfl
  have G25 := ok_law (P := l.prog) (base := base) (fn_mk (st := st_law) l25 c25) T D_l_seed D_l_menu D_l_made M_Menu_action K_Menu Q_Menu D_l_anything M_Menu_read U_Menu
  exact G25
theorem walk_law {l : PySem.W.OpenLaw} {q : Program} {loose : List Str} {XP : (Str → Option Value) → Heap → Prop} {YP : World → Heap → Prop} {d : DefRec} {K : Params → PySem.W.Frag} (hn : l.most = some 63) (hdf : d.params.defaults = [])
    (hY : ∀ (w : World) (h : Heap), YP w h → (K w.params).In h)
    (F : ∀ (w : World) (mg : Str → Option Value) (fa : Addr) (h : Heap), (K w.params).In h → h.Ns mainGlobals mg → mg d.name = some (.ref fa) →
      ∃ fd : FuncData, (∀ (s : Shared) (u : Value), BindsTo s fd ⟨[u], []⟩ [("_law_script", u)]) ∧ ∀ base : Heap, (K w.params).In base → base.Ns mainGlobals mg →
        FnOk l.prog w (K w.params) mg base (L2.CX l.prog w) 10 fa fd ["_law_script"] (spOf (K w.params) (adOf (K w.params) ["Menu"] ["InvalidMenu", "InvalidText"]) 1 f_law)) :
    PySem.W.WalkO q loose XP YP l.row.toRowW d [] (fun f vs => PySem.call f vs) := by
  refine L2.walk_of (n := 63) (k := 10) (x := "_law_script") (CX := fun w => L2.CX l.prog w) (sp := fun w => spOf (K w.params) (adOf (K w.params) ["Menu"] ["InvalidMenu", "InvalidText"]) 1 f_law) hn (by decide) hdf ⟨rfl, by decide, by decide⟩ hY F (fun w H a ns hl hO hS => law_sp hS hO (law_end ns)) fun w H s e s' z => hcx H s e s' z
end Fl
open PySem PySem.W PyProof.Rows in
set_option maxRecDepth 100000 in
set_option maxHeartbeats 0 in
theorem PySem.Challenge.cw_menuhome_k11_whole_actions_by_digits_holds : PySem.Challenge.rw_menuhome_k11_whole_actions_by_digits.Holds := by
  w_on; o_law; k_head; (case hw => w_witness2)
  k_fill
  refine Fl.walk_law (l := PySem.Challenge.rw_menuhome_k11_whole_actions_by_digits) rfl rfl (fun w h Y => PySem.W.kIn_of Y) ?F
  case F =>
    intro w mg fa h KX G hmg
    refine' Fl.top_mk KX G hmg ?ac_Menu ?ac_InvalidMenu ?ac_InvalidText ?pg_Menu ?hd_Menu ?po_Menu ?sa_Menu ?mk_Menu ?kc_Menu ?ha_Menu ?hm_Menu ?sb_Menu_str ?sb_Menu_NoneType ?sb_Menu_tuple ?nf_Menu_clears ?nf_Menu_name ?nf_Menu_rows ?nf_Menu_tail ?nf_Menu_tries ?q_Menu_bool ?q_Menu_int ?q_Menu_list ?q_Menu_str ?q_Menu_tuple ?q_Menu_Menu ?ic_Menu ?tc_Menu ?hn ?ht ?zn_abs ?zn_all ?zn_bool ?zn_int ?zn_isinstance ?zn_len ?zn_list ?zn_max ?zn_min ?zn_range ?zn_sorted ?zn_str ?zn_tuple ?g_DIGITS ?g_LETTERS ?g_NO_NAMES ?gl_NO_NAMES ?gc_NO_NAMES ?gd_NO_NAMES ?gs_NO_NAMES ?gz_NO_NAMES ?g_NAMES_BEHIND ?gl_NAMES_BEHIND ?gt_NAMES_BEHIND ?go_NAMES_BEHIND ?a0 ?l0 ?c0 ?k0 ?a1 ?l1 ?c1 ?k1 ?a2 ?l2 ?c2 ?k2 ?a3 ?l3 ?c3 ?k3 ?a4 ?l4 ?c4 ?k4 ?a5 ?l5 ?c5 ?k5 ?a6 ?l6 ?c6 ?k6 ?a7 ?l7 ?c7 ?k7 ?a8 ?l8 ?c8 ?k8 ?a9 ?l9 ?c9 ?k9 ?a10 ?l10 ?c10 ?k10 ?a11 ?l11 ?c11 ?k11 ?a12 ?i12 ?l12 ?c12 ?k12 ?t12 ?d12 ?e12 ?rd_Menu ?cg_Menu ?a13 ?r13 ?i13 ?l13 ?c13 ?k13 ?a14 ?i14 ?ne_Menu ?l14 ?c14 ?k14 ?a15 ?i15 ?l15 ?c15 ?k15 ?a16 ?l16 ?c16 ?k16 ?a17 ?l17 ?c17 ?k17 ?a18 ?l18 ?c18 ?k18 ?a19 ?l19 ?c19 ?k19 ?a20 ?l20 ?c20 ?k20 ?a21 ?l21 ?c21 ?k21 ?a22 ?l22 ?c22 ?k22 ?a23 ?l23 ?c23 ?k23 ?a24 ?i24 ?l24 ?c24 ?k24 ?a25 ?l25 ?c25 ?k25 ?xl_InvalidMenu ?rv_InvalidMenu ?sa_InvalidMenu ?ex_InvalidMenu ?ty_InvalidMenu ?kc_InvalidMenu ?no_InvalidMenu ?ae_InvalidMenu ?tfe_InvalidMenu ?le_InvalidMenu ?ce_InvalidMenu ?xl_InvalidText ?rv_InvalidText ?sa_InvalidText ?ex_InvalidText ?ty_InvalidText ?kc_InvalidText ?no_InvalidText ?ae_InvalidText ?tfe_InvalidText ?le_InvalidText ?ce_InvalidText
    (case ac_Menu => k_is)
    (case ac_InvalidMenu => k_is)
    (case ac_InvalidText => k_is)
    (case pg_Menu => k_is)
    (case hd_Menu => k_is)
    (case po_Menu => k_is)
    (case sa_Menu => k_is)
    (case mk_Menu => k_is)
    (case kc_Menu => k_is)
    (case ha_Menu => k_is)
    (case hm_Menu => k_is)
    (case sb_Menu_str => k_is)
    (case sb_Menu_NoneType => k_is)
    (case sb_Menu_tuple => k_is)
    (case nf_Menu_clears => k_is)
    (case nf_Menu_name => k_is)
    (case nf_Menu_rows => k_is)
    (case nf_Menu_tail => k_is)
    (case nf_Menu_tries => k_is)
    (case q_Menu_bool => kit_is)
    (case q_Menu_int => kit_is)
    (case q_Menu_list => kit_is)
    (case q_Menu_str => kit_is)
    (case q_Menu_tuple => kit_is)
    (case q_Menu_Menu => kit_is)
    (case ic_Menu => k_is)
    (case tc_Menu => k_is)
    (case hn => k_is)
    (case ht => k_is)
    (case zn_abs => k_is)
    (case zn_all => k_is)
    (case zn_bool => k_is)
    (case zn_int => k_is)
    (case zn_isinstance => k_is)
    (case zn_len => k_is)
    (case zn_list => k_is)
    (case zn_max => k_is)
    (case zn_min => k_is)
    (case zn_range => k_is)
    (case zn_sorted => k_is)
    (case zn_str => k_is)
    (case zn_tuple => k_is)
    (case g_DIGITS => k_is)
    (case g_LETTERS => k_is)
    (case g_NO_NAMES => k_is)
    (case gl_NO_NAMES => k_is)
    (case gc_NO_NAMES => rfl)
    (case gd_NO_NAMES => rfl)
    (case gs_NO_NAMES => exact (.cons (.cons (.cons (.cons (.cons (.cons (.cons (.cons (.cons (.nil)))))))))))
    (case gz_NO_NAMES => decide)
    (case g_NAMES_BEHIND => k_is)
    (case gl_NAMES_BEHIND => k_is)
    (case gt_NAMES_BEHIND => exact .cons rfl rfl (v := .int _) ⟨_, rfl⟩ (fun _ _ => .int _) (.cons rfl rfl (v := .int _) ⟨_, rfl⟩ (fun _ _ => .int _) (.cons rfl rfl (v := .int _) ⟨_, rfl⟩ (fun _ _ => .int _) (.cons rfl rfl (v := .int _) ⟨_, rfl⟩ (fun _ _ => .int _) (.cons rfl rfl (v := .int _) ⟨_, rfl⟩ (fun _ _ => .int _) (.cons rfl rfl (v := .int _) ⟨_, rfl⟩ (fun _ _ => .int _) (.cons rfl rfl (v := .int _) ⟨_, rfl⟩ (fun _ _ => .int _) (.nil))))))))
    (case go_NAMES_BEHIND => rfl)
    (case a0 => k_is)
    (case l0 => k_is)
    (case c0 => k_is)
    (case k0 => k_is)
    (case a1 => k_is)
    (case l1 => k_is)
    (case c1 => k_is)
    (case k1 => k_is)
    (case a2 => k_is)
    (case l2 => k_is)
    (case c2 => k_is)
    (case k2 => k_is)
    (case a3 => k_is)
    (case l3 => k_is)
    (case c3 => k_is)
    (case k3 => k_is)
    (case a4 => k_is)
    (case l4 => k_is)
    (case c4 => k_is)
    (case k4 => k_is)
    (case a5 => k_is)
    (case l5 => k_is)
    (case c5 => k_is)
    (case k5 => k_is)
    (case a6 => k_is)
    (case l6 => k_is)
    (case c6 => k_is)
    (case k6 => k_is)
    (case a7 => k_is)
    (case l7 => k_is)
    (case c7 => k_is)
    (case k7 => k_is)
    (case a8 => k_is)
    (case l8 => k_is)
    (case c8 => k_is)
    (case k8 => k_is)
    (case a9 => k_is)
    (case l9 => k_is)
    (case c9 => k_is)
    (case k9 => k_is)
    (case a10 => k_is)
    (case l10 => k_is)
    (case c10 => k_is)
    (case k10 => k_is)
    (case a11 => k_is)
    (case l11 => k_is)
    (case c11 => k_is)
    (case k11 => k_is)
    (case a12 => k_is)
    (case i12 => k_is)
    (case l12 => k_is)
    (case c12 => k_is)
    (case k12 => k_is)
    (case t12 => k_is)
    (case d12 => rfl)
    (case e12 => rfl)
    (case rd_Menu => k_is)
    (case cg_Menu => k_is)
    (case a13 => k_is)
    (case r13 => k_is)
    (case i13 => k_is)
    (case l13 => k_is)
    (case c13 => k_is)
    (case k13 => k_is)
    (case a14 => k_is)
    (case i14 => k_is)
    (case ne_Menu => k_is)
    (case l14 => k_is)
    (case c14 => k_is)
    (case k14 => k_is)
    (case a15 => k_is)
    (case i15 => k_is)
    (case l15 => k_is)
    (case c15 => k_is)
    (case k15 => k_is)
    (case a16 => k_is)
    (case l16 => k_is)
    (case c16 => k_is)
    (case k16 => k_is)
    (case a17 => k_is)
    (case l17 => k_is)
    (case c17 => k_is)
    (case k17 => k_is)
    (case a18 => k_is)
    (case l18 => k_is)
    (case c18 => k_is)
    (case k18 => k_is)
    (case a19 => k_is)
    (case l19 => k_is)
    (case c19 => k_is)
    (case k19 => k_is)
    (case a20 => k_is)
    (case l20 => k_is)
    (case c20 => k_is)
    (case k20 => k_is)
    (case a21 => k_is)
    (case l21 => k_is)
    (case c21 => k_is)
    (case k21 => k_is)
    (case a22 => k_is)
    (case l22 => k_is)
    (case c22 => k_is)
    (case k22 => k_is)
    (case a23 => k_is)
    (case l23 => k_is)
    (case c23 => k_is)
    (case k23 => k_is)
    (case a24 => k_is)
    (case i24 => k_is)
    (case l24 => k_is)
    (case c24 => k_is)
    (case k24 => k_is)
    (case a25 => k_is)
    (case l25 => k_is)
    (case c25 => k_is)
    (case k25 => k_is)
    (case xl_InvalidMenu => k_is)
    (case rv_InvalidMenu => decide +kernel)
    (case sa_InvalidMenu => k_is)
    (case ex_InvalidMenu => k_is)
    (case ty_InvalidMenu => k_is)
    (case kc_InvalidMenu => k_is)
    (case no_InvalidMenu => k_is)
    (case ae_InvalidMenu => k_is)
    (case tfe_InvalidMenu => k_is)
    (case le_InvalidMenu => k_is)
    (case ce_InvalidMenu => k_is)
    (case xl_InvalidText => k_is)
    (case rv_InvalidText => decide +kernel)
    (case sa_InvalidText => k_is)
    (case ex_InvalidText => k_is)
    (case ty_InvalidText => k_is)
    (case kc_InvalidText => k_is)
    (case no_InvalidText => k_is)
    (case ae_InvalidText => k_is)
    (case tfe_InvalidText => k_is)
    (case le_InvalidText => k_is)
    (case ce_InvalidText => k_is)
