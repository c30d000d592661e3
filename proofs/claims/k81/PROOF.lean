import PyProof.Rows.All
import Wide.All
import OpenK.AllK
import Wide.FinOn
import HandS.ForMost
import HandS.ForExc
import HandS.Walk
import HandS.Style
import HandS.Defaults
import HandS.Conv
import HandS.Codes
import HandS.ExcInit
import HandS.ExcSuper
import KE.KExcSuper
import KE.KSuper
import HandS.ExcIs
import HandS.ExcField
import HandS.IsInst
import HandS.ExcValue
import KE.KExcIs
import PyProof.InstNe
import HandS.Dict
import HandS.MakeKwOnly
import HandS.HeadHook1
import HandS.HeadHook2
import PyProof.ReprRoads
import HandS.FStr
import HandS.Star
import HandS.Steps
import HandS.ExcOwn
import HandS.Wide
import HandS.RaiseMore
import PySem.Challenge.RW_levelcolumns_k81_columns_written_and_rea
set_option Elab.async false
set_option linter.all false
set_option Elab.async false
set_option linter.all false
set_option maxRecDepth 100000
set_option maxHeartbeats 4000000
/-! DL: data over the hand layer. D: what a value is (immutable view); Rep: how the frozen heap bears it; En: what a slot holds; Good: the state of a def's body against its entry. -/
namespace DL
open PySem PySem.Spec PyProof.Rows L2

inductive D where
  | non | bl (b : Bool) | int (i : Int) | str (x : Str) | ref (a : Addr) | ty (n : String)
  | lst (ds : List D) | tup (ds : List D)
  | obj (C : Addr) (fs : List (Str × D))
  | scr (a : Addr) (ns : List Int) (p : Prop)
  | dct (kvs : List (Str × D))
  | dki (p : Int → Bool)
  | opq (p : Hp → V → Prop)

/-- an entry of a dict with text keys -/
def kvV (p : Str × V) : Key × V := (.inr p.1, p.2)
mutual
def Rep (F : Hp) : D → V → Prop
  | .non, v => v = .non
  | .bl b, v => v = .bl b
  | .int i, v => v = .int i
  | .str x, v => v = .str x
  | .ref a, v => v = .ref a
  | .ty n, v => v = .ty n
  | .lst ds, v => ∃ a xs, v = .ref a ∧ F a = some (.lst xs) ∧ Reps F ds xs
  | .tup ds, v => ∃ a xs, v = .ref a ∧ F a = some (.tup xs) ∧ Reps F ds xs
  | .obj C fs, v => ∃ a dx xs, v = .ref a ∧ F a = some (.ins C dx xs) ∧ RepF F fs xs
  | .scr a ns p, v => v = .ref a ∧ (F a = some (.lst (ns.map V.int)) ∨ (∃ o, F a = some (.frz o (.lst (ns.map V.int)))) ∨ p)
  | .dct kvs, v => ∃ a xs, v = .ref a ∧ F a = some (.dK (xs.map kvV)) ∧ RepF F kvs xs
  | .dki p, v => ∃ a kvs, v = .ref a ∧ F a = some (.dK kvs) ∧ ∀ i : Int, (valV kvs (Sum.inl i : Key)).isSome = p i
  | .opq p, v => ∃ F0 : Hp, (∀ a o, F0 a = some o → F a = some o) ∧ p F0 v
def Reps (F : Hp) : List D → List V → Prop
  | [], xs => xs = []
  | d :: ds, xs => ∃ v r, xs = v :: r ∧ Rep F d v ∧ Reps F ds r
def RepF (F : Hp) : List (Str × D) → List (Str × V) → Prop
  | [], xs => xs = []
  | (f, d) :: ds, xs => ∃ v r, xs = (f, v) :: r ∧ Rep F d v ∧ RepF F ds r
end
variable {K : PySem.W.Frag}

/-- the frozen heap grows -/
abbrev Ex (H H' : Hp) : Prop := ∀ a o, H a = some o → H' a = some o
theorem Ex.refl (H : Hp) : Ex H H := fun _ _ h => h
theorem Ex.trans {H H1 H2 : Hp} (a : Ex H H1) (b : Ex H1 H2) : Ex H H2 := fun x o h => b x o (a x o h)
theorem Ex.new {H : Hp} {p : Addr} {o : HO} (h : H p = none) : Ex H (upd H p o) := fun a u e => by
  rw [upd_ne (ne_of_none e h)]
  exact e
theorem ex_rd {H H' : Hp} {a : Addr} {u : HO} (e : Ex H H') (h : Rd H a u) : Rd H' a u := by
  rcases h with h | ⟨o, h⟩
  · exact Or.inl (e a _ h)
  · exact Or.inr ⟨o, e a _ h⟩
theorem ex_l {H H' : Hp} {a : Addr} {xs : List V} (e : Ex H H') (h : SqL K H a xs) : SqL K H' a xs := by
  rcases h with h | h
  · exact Or.inl (ex_rd e h)
  · exact Or.inr h
theorem ex_t {H H' : Hp} {a : Addr} {xs : List V} (e : Ex H H') (h : SqT K H a xs) : SqT K H' a xs := by
  rcases h with h | h
  · exact Or.inl (ex_rd e h)
  · exact Or.inr h
mutual
theorem Rep.mono {F F' : Hp} (e : Ex F F') : ∀ {d : D} {v : V}, Rep F d v → Rep F' d v
  | .non, _, h => h
  | .bl _, _, h => h
  | .int _, _, h => h
  | .str _, _, h => h
  | .ref _, _, h => h
  | .ty _, _, h => h
  | .lst ds, _, ⟨a, xs, h1, h2, h3⟩ => ⟨a, xs, h1, e _ _ h2, Reps.mono e h3⟩
  | .tup ds, _, ⟨a, xs, h1, h2, h3⟩ => ⟨a, xs, h1, e _ _ h2, Reps.mono e h3⟩
  | .obj C fs, _, ⟨a, dx, xs, h1, h2, h3⟩ => ⟨a, dx, xs, h1, e _ _ h2, RepF.mono e h3⟩
  | .scr a ns p, _, ⟨h1, h2⟩ => ⟨h1, h2.imp (e _ _) (fun h => h.imp (fun ⟨o, q⟩ => ⟨o, e _ _ q⟩) fun q => q)⟩
  | .dct kvs, _, ⟨a, xs, h1, h2, h3⟩ => ⟨a, xs, h1, e _ _ h2, RepF.mono e h3⟩
  | .dki p, _, ⟨a, kvs, h1, h2, h3⟩ => ⟨a, kvs, h1, e _ _ h2, h3⟩
  | .opq p, _, ⟨F0, h1, h2⟩ => ⟨F0, fun a o z => e _ _ (h1 a o z), h2⟩
theorem Reps.mono {F F' : Hp} (e : Ex F F') : ∀ {ds : List D} {xs : List V}, Reps F ds xs → Reps F' ds xs
  | [], _, h => h
  | _ :: _, _, ⟨v, r, h1, h2, h3⟩ => ⟨v, r, h1, Rep.mono e h2, Reps.mono e h3⟩
theorem RepF.mono {F F' : Hp} (e : Ex F F') : ∀ {ds : List (Str × D)} {xs : List (Str × V)}, RepF F ds xs → RepF F' ds xs
  | [], _, h => h
  | (_, _) :: _, _, ⟨v, r, h1, h2, h3⟩ => ⟨v, r, h1, Rep.mono e h2, RepF.mono e h3⟩
end
theorem Reps.length {F : Hp} : ∀ {ds : List D} {xs : List V}, Reps F ds xs → xs.length = ds.length
  | [], _, h => by cases h; rfl
  | _ :: _, _, ⟨v, r, h1, _, h3⟩ => by cases h1; simp [Reps.length h3]
theorem Reps.get {F : Hp} : ∀ {ds : List D} {xs : List V} {i : Nat} {d : D}, Reps F ds xs → ds[i]? = some d → ∃ v, xs[i]? = some v ∧ Rep F d v
  | [], _, _, _, _, e => by simp at e
  | _ :: _, _, 0, _, ⟨v, r, h1, h2, _⟩, e => by cases h1; simp at e; subst e; exact ⟨v, rfl, h2⟩
  | _ :: _, _, i + 1, _, ⟨v, r, h1, _, h3⟩, e => by
    cases h1
    obtain ⟨u, e1, e2⟩ := Reps.get (i := i) h3 (by simpa using e)
    exact ⟨u, by simpa using e1, e2⟩
theorem Reps.get' {F : Hp} {ds : List D} {xs : List V} {i : Nat} {v : V} (h : Reps F ds xs) (e : xs[i]? = some v) : ∃ d, ds[i]? = some d ∧ Rep F d v := by
  have hi : i < ds.length := by
    rw [← h.length]
    exact (List.getElem?_eq_some_iff.mp e).1
  obtain ⟨u, e1, r⟩ := h.get (List.getElem?_eq_getElem hi)
  rw [e] at e1
  cases e1
  exact ⟨_, List.getElem?_eq_getElem hi, r⟩
theorem Reps.append {F : Hp} : ∀ {ds es : List D} {xs ys : List V}, Reps F ds xs → Reps F es ys → Reps F (ds ++ es) (xs ++ ys)
  | [], _, _, _, h, g => by cases h; exact g
  | _ :: _, _, _, _, ⟨v, r, h1, h2, h3⟩, g => by cases h1; exact ⟨v, r ++ _, rfl, h2, h3.append g⟩
theorem Reps.one {F : Hp} {d : D} {v : V} (h : Rep F d v) : Reps F [d] [v] := ⟨v, [], rfl, h, rfl⟩
theorem Reps.set {F : Hp} {d : D} {v : V} (h : Rep F d v) : ∀ {ds : List D} {xs : List V} (i : Nat), Reps F ds xs → Reps F (ds.set i d) (xs.set i v)
  | [], _, _, g => by cases g; exact rfl
  | _ :: _, _, 0, ⟨u, r, h1, h2, h3⟩ => by cases h1; exact ⟨v, r, rfl, h, h3⟩
  | _ :: _, _, i + 1, ⟨u, r, h1, h2, h3⟩ => by cases h1; exact ⟨u, r.set i v, rfl, h2, h3.set h i⟩
theorem Reps.eraseIdx {F : Hp} : ∀ {ds : List D} {xs : List V} (i : Nat), Reps F ds xs → Reps F (ds.eraseIdx i) (xs.eraseIdx i)
  | [], _, _, g => by cases g; exact rfl
  | _ :: _, _, 0, ⟨u, r, h1, h2, h3⟩ => by cases h1; exact h3
  | _ :: _, _, i + 1, ⟨u, r, h1, h2, h3⟩ => by cases h1; exact ⟨u, r.eraseIdx i, rfl, h2, h3.eraseIdx i⟩
theorem Reps.take {F : Hp} : ∀ {ds : List D} {xs : List V} (n : Nat), Reps F ds xs → Reps F (ds.take n) (xs.take n)
  | [], _, _, g => by cases g; simp [Reps]
  | _ :: _, _, 0, _ => by simp [Reps]
  | _ :: _, _, n + 1, ⟨u, r, h1, h2, h3⟩ => by cases h1; exact ⟨u, r.take n, rfl, h2, h3.take n⟩
theorem Reps.drop {F : Hp} : ∀ {ds : List D} {xs : List V} (n : Nat), Reps F ds xs → Reps F (ds.drop n) (xs.drop n)
  | [], _, _, g => by cases g; simp [Reps]
  | _ :: _, _, 0, g => g
  | _ :: _, _, n + 1, ⟨u, r, h1, h2, h3⟩ => by cases h1; exact h3.drop n
theorem Reps.reverse {F : Hp} : ∀ {ds : List D} {xs : List V}, Reps F ds xs → Reps F ds.reverse xs.reverse
  | [], _, g => by cases g; exact rfl
  | _ :: _, _, ⟨u, r, h1, h2, h3⟩ => by
    cases h1
    rw [List.reverse_cons, List.reverse_cons]
    exact h3.reverse.append (.one h2)
theorem Reps.ints {F : Hp} : ∀ (ns : List Int), Reps F (ns.map D.int) (ns.map V.int)
  | [] => rfl
  | n :: ns => ⟨_, _, rfl, rfl, Reps.ints ns⟩
theorem Reps.strs {F : Hp} : ∀ (ns : List Str), Reps F (ns.map D.str) (ns.map V.str)
  | [] => rfl
  | n :: ns => ⟨_, _, rfl, rfl, Reps.strs ns⟩
theorem Reps.strs_eq {F : Hp} : ∀ {ns : List Str} {xs : List V}, Reps F (ns.map D.str) xs → xs = ns.map V.str
  | [], _, h => h
  | n :: ns, _, ⟨v, r, h1, h2, h3⟩ => by
    cases h1
    have h2' : v = .str n := h2
    rw [h2', Reps.strs_eq h3]
    rfl
theorem Reps.ints_eq {F : Hp} : ∀ {ns : List Int} {xs : List V}, Reps F (ns.map D.int) xs → xs = ns.map V.int
  | [], _, h => h
  | n :: ns, _, ⟨v, r, h1, h2, h3⟩ => by
    cases h1
    have h2' : v = .int n := h2
    rw [h2', Reps.ints_eq h3]
    rfl
theorem RepF.lookup {F : Hp} {f : Str} {d : D} : ∀ {fs : List (Str × D)} {xs : List (Str × V)}, RepF F fs xs → fs.lookup f = some d → ∃ v, xs.lookup f = some v ∧ Rep F d v
  | [], _, _, e => by simp at e
  | (g, d') :: fs, _, ⟨v, r, h1, h2, h3⟩, e => by
    cases h1
    simp only [List.lookup] at e ⊢
    cases q : f == g with
    | true => rw [q] at e; cases e; exact ⟨v, rfl, h2⟩
    | false => rw [q] at e; exact RepF.lookup h3 e

/-! ### what a slot holds: nothing; shared (frozen) data; a list of the def's own; a list lent by the caller -/
inductive En where
  | un
  | sh (d : D)
  | own (ds : List D)
  | lent (ds : List D)

/-- the entry of a def: frozen heap, heap, the lent slots' addresses -/
structure Ct where
  F0 : Hp
  H0 : Hp
  P : Nat → Option Addr
def Ct.L (c : Ct) (a : Addr) : Prop := ∃ i, c.P i = some a

def EnOk (c : Ct) (F H : Hp) (i : Nat) (o : Option V) : En → Prop
  | .un => True
  | .sh d => ∃ v, o = some v ∧ Rep F d v
  | .own ds => ∃ a xs, o = some (.ref a) ∧ F a = none ∧ H a = some (.lst xs) ∧ Reps F ds xs ∧ c.H0 a = none
  | .lent ds => ∃ a xs, o = some (.ref a) ∧ F a = none ∧ H a = some (.lst xs) ∧ Reps F ds xs ∧ c.P i = some a
def En.mut : En → Bool
  | .own _ => true
  | .lent _ => true
  | _ => false

def En.put : En → List D → En
  | .own _, es => .own es
  | _, es => .lent es

structure Good (c : Ct) (F H : Hp) (σ : L2.St) (Γ : List En) : Prop where
  ff : Ex c.F0 F
  fh : Ex F H
  hh : ∀ a o, c.H0 a = some o → ¬ c.L a → H a = some o
  li : ∀ a, c.L a → ∃ o, H a = some o
  nw : ∀ a, F a ≠ none → c.F0 a ≠ none ∨ c.H0 a = none
  len : σ.length = Γ.length
  en : ∀ (i : Nat) (e : En), Γ[i]? = some e → ∃ o, σ[i]? = some o ∧ EnOk c F H i o e
  dj : ∀ (i j : Nat) (a : Addr) (e e' : En), Γ[i]? = some e → Γ[j]? = some e' → e.mut = true → e'.mut = true → σ[i]? = some (some (.ref a)) → σ[j]? = some (some (.ref a)) → i = j

/-- a pure step: new objects, frozen or not -/
structure Stp (F H F' H' : Hp) : Prop where
  f : Ex F F'
  h : Ex H H'
  fh : Ex F' H'
  nw : ∀ a, F' a ≠ none → F a ≠ none ∨ H a = none
theorem Stp.refl {F H : Hp} (h : Ex F H) : Stp F H F H := ⟨Ex.refl _, Ex.refl _, h, fun _ e => .inl e⟩
theorem Stp.trans {F H F1 H1 F2 H2 : Hp} (a : Stp F H F1 H1) (b : Stp F1 H1 F2 H2) : Stp F H F2 H2 := ⟨a.f.trans b.f, a.h.trans b.h, b.fh, fun x e => by
  rcases b.nw x e with z | z
  · exact a.nw x z
  · right
    cases q : H x with
    | none => rfl
    | some o => rw [a.h x o q] at z; cases z⟩
/-- a new object, frozen -/
theorem Stp.new {F H : Hp} (e : Ex F H) {p : Addr} (o : HO) (h : H p = none) : Stp F H (upd F p o) (upd H p o) := by
  have hF : F p = none := by
    cases q : F p with
    | none => rfl
    | some u => rw [e _ _ q] at h; cases h
  refine ⟨Ex.new hF, Ex.new h, fun a u q => ?_, fun a q => ?_⟩
  · by_cases z : a = p
    · subst z; rw [upd_same] at q ⊢; exact q
    · rw [upd_ne z] at q ⊢; exact e _ _ q
  · by_cases z : a = p
    · subst z; exact .inr h
    · rw [upd_ne z] at q; exact .inl q
/-- a new object, kept loose -/
theorem Stp.loose {F H : Hp} (e : Ex F H) {p : Addr} (o : HO) (h : H p = none) : Stp F H F (upd H p o) :=
  ⟨Ex.refl _, Ex.new h, e.trans (Ex.new h), fun _ q => .inl q⟩

section
variable {c : Ct} {F F' H H' : Hp} {σ : L2.St} {Γ : List En}
theorem Good.exH (G : Good c F H σ Γ) {a : Addr} {o : HO} (h : F a = some o) : H a = some o := G.fh a o h
theorem Good.sh (G : Good c F H σ Γ) {i : Nat} {d : D} (h : Γ[i]? = some (.sh d)) : ∃ v, σ[i]? = some (some v) ∧ Rep F d v := by
  obtain ⟨o, e, v, e2, r⟩ := G.en i _ h
  exact ⟨v, by rw [e, e2], r⟩
theorem Good.own (G : Good c F H σ Γ) {i : Nat} {ds : List D} (h : Γ[i]? = some (.own ds)) : ∃ a xs, σ[i]? = some (some (.ref a)) ∧ F a = none ∧ H a = some (.lst xs) ∧ Reps F ds xs ∧ c.H0 a = none := by
  obtain ⟨o, e, a, xs, e2, r⟩ := G.en i _ h
  exact ⟨a, xs, by rw [e, e2], r⟩
theorem Good.lent (G : Good c F H σ Γ) {i : Nat} {ds : List D} (h : Γ[i]? = some (.lent ds)) : ∃ a xs, σ[i]? = some (some (.ref a)) ∧ F a = none ∧ H a = some (.lst xs) ∧ Reps F ds xs ∧ c.P i = some a := by
  obtain ⟨o, e, a, xs, e2, r⟩ := G.en i _ h
  exact ⟨a, xs, by rw [e, e2], r⟩
/-- what is new to H is new to the entry -/
theorem Good.fresh (G : Good c F H σ Γ) {a : Addr} (h : H a = none) : c.H0 a = none := by
  cases q : c.H0 a with
  | none => rfl
  | some o =>
    by_cases l : c.L a
    · obtain ⟨u, e⟩ := G.li a l
      rw [h] at e; cases e
    · rw [G.hh a o q l] at h; cases h
theorem Good.step (G : Good c F H σ Γ) (S : Stp F H F' H') : Good c F' H' σ Γ where
  ff := G.ff.trans S.f
  fh := S.fh
  hh := fun a o e n => S.h a o (G.hh a o e n)
  li := fun a l => (G.li a l).imp fun o e => S.h a o e
  nw := fun a e => by
    rcases S.nw a e with z | z
    · exact G.nw a z
    · exact .inr (G.fresh z)
  len := G.len
  en := fun i e he => by
    obtain ⟨o, h1, h2⟩ := G.en i e he
    have key : ∀ a xs, F a = none → H a = some (.lst xs) → F' a = none := fun a xs e2 e3 => by
      cases q : F' a with
      | none => rfl
      | some u =>
        rcases S.nw a (by rw [q]; exact Option.some_ne_none _) with z | z
        · exact absurd e2 z
        · rw [e3] at z; cases z
    refine ⟨o, h1, ?_⟩
    cases e with
    | un => trivial
    | sh d =>
      obtain ⟨v, e1, r⟩ := h2
      exact ⟨v, e1, r.mono S.f⟩
    | own ds =>
      obtain ⟨a, xs, e1, e2, e3, e4, e5⟩ := h2
      exact ⟨a, xs, e1, key a xs e2 e3, S.h _ _ e3, e4.mono S.f, e5⟩
    | lent ds =>
      obtain ⟨a, xs, e1, e2, e3, e4, e5⟩ := h2
      exact ⟨a, xs, e1, key a xs e2 e3, S.h _ _ e3, e4.mono S.f, e5⟩
  dj := G.dj
/-- a slot gets shared data (whatever it held, but a lent list) -/
theorem Good.setSh (G : Good c F H σ Γ) {i : Nat} {d : D} {v : V} (r : Rep F d v) : Good c F H (σ.set i (some v)) (Γ.set i (.sh d)) where
  ff := G.ff
  fh := G.fh
  hh := G.hh
  li := G.li
  nw := G.nw
  len := by rw [List.length_set, List.length_set]; exact G.len
  en := fun j e he => by
    by_cases z : i = j
    · subst z
      have hl : i < Γ.length := by
        have := (List.getElem?_eq_some_iff.mp he).1
        rwa [List.length_set] at this
      rw [List.getElem?_set_self hl] at he
      cases he
      exact ⟨some v, List.getElem?_set_self (by rw [G.len]; exact hl), v, rfl, r⟩
    · rw [List.getElem?_set_ne z] at he
      obtain ⟨o, h1, h2⟩ := G.en j e he
      exact ⟨o, by rw [List.getElem?_set_ne z]; exact h1, h2⟩
  dj := fun a b x e e' h1 h2 m1 m2 h3 h4 => by
    have f : ∀ {j : Nat} {e : En}, (Γ.set i (.sh d))[j]? = some e → e.mut = true → i ≠ j := fun {j e} he m z => by
      subst z
      have hl : i < Γ.length := by
        have := (List.getElem?_eq_some_iff.mp he).1
        rwa [List.length_set] at this
      rw [List.getElem?_set_self hl] at he
      cases he
      cases m
    have za := f h1 m1
    have zb := f h2 m2
    rw [List.getElem?_set_ne za] at h1 h3
    rw [List.getElem?_set_ne zb] at h2 h4
    exact G.dj a b x e e' h1 h2 m1 m2 h3 h4
/-- a slot's entry is forgotten -/
theorem Good.setUn (G : Good c F H σ Γ) {i : Nat} {o : Option V} : Good c F H (σ.set i o) (Γ.set i .un) where
  ff := G.ff
  fh := G.fh
  hh := G.hh
  li := G.li
  nw := G.nw
  len := by rw [List.length_set, List.length_set]; exact G.len
  en := fun j e he => by
    by_cases z : i = j
    · subst z
      have hl : i < Γ.length := by
        have := (List.getElem?_eq_some_iff.mp he).1
        rwa [List.length_set] at this
      rw [List.getElem?_set_self hl] at he
      cases he
      exact ⟨o, List.getElem?_set_self (by rw [G.len]; exact hl), trivial⟩
    · rw [List.getElem?_set_ne z] at he
      obtain ⟨o, h1, h2⟩ := G.en j e he
      exact ⟨o, by rw [List.getElem?_set_ne z]; exact h1, h2⟩
  dj := fun a b x e e' h1 h2 m1 m2 h3 h4 => by
    have f : ∀ {j : Nat} {e : En}, (Γ.set i .un)[j]? = some e → e.mut = true → i ≠ j := fun {j e} he m z => by
      subst z
      have hl : i < Γ.length := by
        have := (List.getElem?_eq_some_iff.mp he).1
        rwa [List.length_set] at this
      rw [List.getElem?_set_self hl] at he
      cases he
      cases m
    have za := f h1 m1
    have zb := f h2 m2
    rw [List.getElem?_set_ne za] at h1 h3
    rw [List.getElem?_set_ne zb] at h2 h4
    exact G.dj a b x e e' h1 h2 m1 m2 h3 h4
/-- no slot holds the mutable list at a -/
def NoSlot (σ : L2.St) (Γ : List En) (a : Addr) : Prop := ∀ (j : Nat) (e : En), Γ[j]? = some e → e.mut = true → σ[j]? ≠ some (some (.ref a))
theorem Good.noSlot (G : Good c F H σ Γ) {a : Addr} (h : H a = none) : NoSlot σ Γ a := fun j e he m q => by
  obtain ⟨o, h1, h2⟩ := G.en j e he
  rw [q] at h1
  cases h1
  cases e with
  | un => cases m
  | sh d => cases m
  | own ds =>
    obtain ⟨b, xs, e1, e2, e3, _⟩ := h2
    cases e1
    rw [h] at e3; cases e3
  | lent ds =>
    obtain ⟨b, xs, e1, e2, e3, _⟩ := h2
    cases e1
    rw [h] at e3; cases e3
/-- a slot gets a list of the def's own -/
theorem Good.setOwn (G : Good c F H σ Γ) {i : Nat} {ds : List D} {a : Addr} {xs : List V} (n : NoSlot σ Γ a) (hF : F a = none) (hH : H a = some (.lst xs)) (r : Reps F ds xs) (h0 : c.H0 a = none) :
    Good c F H (σ.set i (some (.ref a))) (Γ.set i (.own ds)) where
  ff := G.ff
  fh := G.fh
  hh := G.hh
  li := G.li
  nw := G.nw
  len := by rw [List.length_set, List.length_set]; exact G.len
  en := fun j e he => by
    by_cases z : i = j
    · subst z
      have hl : i < Γ.length := by
        have := (List.getElem?_eq_some_iff.mp he).1
        rwa [List.length_set] at this
      rw [List.getElem?_set_self hl] at he
      cases he
      exact ⟨some (.ref a), List.getElem?_set_self (by rw [G.len]; exact hl), a, xs, rfl, hF, hH, r, h0⟩
    · rw [List.getElem?_set_ne z] at he
      obtain ⟨o, h1, h2⟩ := G.en j e he
      exact ⟨o, by rw [List.getElem?_set_ne z]; exact h1, h2⟩
  dj := fun p q x e e' h1 h2 m1 m2 h3 h4 => by
    have hli : ∀ {j : Nat} {e : En}, (Γ.set i (.own ds))[j]? = some e → i = j → i < σ.length := fun {j e} he z => by
      subst z
      have := (List.getElem?_eq_some_iff.mp he).1
      rw [List.length_set] at this
      rw [G.len]; exact this
    by_cases zp : i = p
    · by_cases zq : i = q
      · exact zp.symm.trans zq
      · have hl := hli h1 zp
        subst zp
        rw [List.getElem?_set_self hl] at h3
        cases h3
        rw [List.getElem?_set_ne zq] at h2 h4
        exact absurd h4 (n q e' h2 m2)
    · by_cases zq : i = q
      · have hl := hli h2 zq
        subst zq
        rw [List.getElem?_set_self hl] at h4
        cases h4
        rw [List.getElem?_set_ne zp] at h1 h3
        exact absurd h3 (n p e h1 m1)
      · rw [List.getElem?_set_ne zp] at h1 h3
        rw [List.getElem?_set_ne zq] at h2 h4
        exact G.dj p q x e e' h1 h2 m1 m2 h3 h4
/-- a loose list is frozen -/
theorem Good.freeze (G : Good c F H σ Γ) {a : Addr} {xs : List V} (n : NoSlot σ Γ a) (hF : F a = none) (hH : H a = some (.lst xs)) (h0 : c.H0 a = none) : Good c (upd F a (.lst xs)) H σ Γ := by
  have e0 : Ex F (upd F a (.lst xs)) := Ex.new hF
  refine ⟨G.ff.trans e0, fun b o q => ?_, G.hh, G.li, fun b q => ?_, G.len, fun i e he => ?_, G.dj⟩
  · by_cases z : b = a
    · subst z; rw [upd_same] at q; cases q; exact hH
    · rw [upd_ne z] at q; exact G.fh _ _ q
  · by_cases z : b = a
    · subst z; exact .inr h0
    · rw [upd_ne z] at q; exact G.nw _ q
  · obtain ⟨o, h1, h2⟩ := G.en i e he
    refine ⟨o, h1, ?_⟩
    cases e with
    | un => trivial
    | sh d =>
      obtain ⟨v, e1, r⟩ := h2
      exact ⟨v, e1, r.mono e0⟩
    | own ds =>
      obtain ⟨b, ys, e1, e2, e3, e4, e5⟩ := h2
      have nb : b ≠ a := fun z => by
        subst z
        exact n i _ he rfl (by rw [h1, e1])
      exact ⟨b, ys, e1, by rw [upd_ne nb]; exact e2, e3, e4.mono e0, e5⟩
    | lent ds =>
      obtain ⟨b, ys, e1, e2, e3, e4, e5⟩ := h2
      have nb : b ≠ a := fun z => by
        subst z
        exact n i _ he rfl (by rw [h1, e1])
      exact ⟨b, ys, e1, by rw [upd_ne nb]; exact e2, e3, e4.mono e0, e5⟩
/-- the own list of a slot is frozen: the slot is shared from now on -/
theorem Good.freezeSlot (G : Good c F H σ Γ) {i : Nat} {ds : List D} (h : Γ[i]? = some (.own ds)) : ∃ F', Ex F F' ∧ Good c F' H σ (Γ.set i (.sh (.lst ds))) := by
  obtain ⟨a, xs, e1, e2, e3, e4, e5⟩ := G.own h
  have hi : i < Γ.length := (List.getElem?_eq_some_iff.mp h).1
  have G1 : Good c F H (σ.set i (some (.ref a))) (Γ.set i .un) := G.setUn
  have es : σ.set i (some (.ref a)) = σ := by
    apply List.ext_getElem?
    intro j
    by_cases z : i = j
    · subst z; rw [List.getElem?_set_self (by rw [G.len]; exact hi), e1]
    · rw [List.getElem?_set_ne z]
  rw [es] at G1
  have n : NoSlot σ (Γ.set i .un) a := fun j e he m q => by
    by_cases z : i = j
    · subst z
      rw [List.getElem?_set_self hi] at he
      cases he; cases m
    · rw [List.getElem?_set_ne z] at he
      exact z (G.dj i j a _ _ h he rfl m e1 q)
  have G2 := G1.freeze n e2 e3 e5
  have r : Rep (upd F a (.lst xs)) (.lst ds) (.ref a) := ⟨a, xs, rfl, upd_same, e4.mono (Ex.new e2)⟩
  have G3 := G2.setSh (i := i) r
  rw [es, List.set_set] at G3
  exact ⟨_, Ex.new e2, G3⟩
/-- a mutable slot's list changes -/
theorem Good.chg (G : Good c F H σ Γ) {i : Nat} {ds es : List D} {a : Addr} {ys : List V} {e : En} (h : Γ[i]? = some e) (he : e = .own ds ∨ e = .lent ds) (e1 : σ[i]? = some (some (.ref a))) (r : Reps F es ys) :
    Good c F (upd H a (.lst ys)) σ (Γ.set i (e.put es)) := by
  have hi : i < Γ.length := (List.getElem?_eq_some_iff.mp h).1
  have hm : e.mut = true := by rcases he with rfl | rfl <;> rfl
  have info : F a = none ∧ (∃ xs, H a = some (.lst xs)) ∧ EnOk c F (upd H a (.lst ys)) i (some (.ref a)) (e.put es) ∧ (c.L a ∨ c.H0 a = none) := by
    rcases he with rfl | rfl
    · obtain ⟨b, xs, q1, q2, q3, q4, q5⟩ := G.own h
      rw [e1] at q1; cases q1
      exact ⟨q2, ⟨xs, q3⟩, ⟨a, ys, rfl, q2, upd_same, r, q5⟩, .inr q5⟩
    · obtain ⟨b, xs, q1, q2, q3, q4, q5⟩ := G.lent h
      rw [e1] at q1; cases q1
      exact ⟨q2, ⟨xs, q3⟩, ⟨a, ys, rfl, q2, upd_same, r, q5⟩, .inl ⟨i, q5⟩⟩
  obtain ⟨hF, ⟨xs, hH⟩, hen, hl⟩ := info
  have hm' : (e.put es).mut = true := by rcases he with rfl | rfl <;> rfl
  refine ⟨G.ff, fun b o q => ?_, fun b o q n => ?_, fun b l => ?_, G.nw, by rw [List.length_set]; exact G.len, fun j f hf => ?_, fun p q x f f' h1 h2 m1 m2 h3 h4 => ?_⟩
  · have nb : b ≠ a := fun z => by subst z; rw [hF] at q; cases q
    rw [upd_ne nb]; exact G.fh _ _ q
  · have nb : b ≠ a := fun z => by
      subst z
      rcases hl with l | l
      · exact n l
      · rw [l] at q; cases q
    rw [upd_ne nb]; exact G.hh _ _ q n
  · by_cases z : b = a
    · subst z; exact ⟨_, upd_same⟩
    · rw [upd_ne z]; exact G.li _ l
  · by_cases z : i = j
    · subst z
      rw [List.getElem?_set_self hi] at hf
      cases hf
      exact ⟨_, e1, hen⟩
    · rw [List.getElem?_set_ne z] at hf
      obtain ⟨o, h1, h2⟩ := G.en j f hf
      refine ⟨o, h1, ?_⟩
      cases f with
      | un => trivial
      | sh d => exact h2
      | own ds' =>
        obtain ⟨b, zs, q1, q2, q3, q4, q5⟩ := h2
        have nb : b ≠ a := fun w => by
          subst w
          exact z (G.dj i j b _ _ h hf hm rfl e1 (by rw [h1, q1]))
        exact ⟨b, zs, q1, q2, by rw [upd_ne nb]; exact q3, q4, q5⟩
      | lent ds' =>
        obtain ⟨b, zs, q1, q2, q3, q4, q5⟩ := h2
        have nb : b ≠ a := fun w => by
          subst w
          exact z (G.dj i j b _ _ h hf hm rfl e1 (by rw [h1, q1]))
        exact ⟨b, zs, q1, q2, by rw [upd_ne nb]; exact q3, q4, q5⟩
  · have back : ∀ {j : Nat} {f : En}, (Γ.set i (e.put es))[j]? = some f → f.mut = true → ∃ g, Γ[j]? = some g ∧ g.mut = true := fun {j f} hf m => by
      by_cases z : i = j
      · subst z; exact ⟨e, h, hm⟩
      · rw [List.getElem?_set_ne z] at hf; exact ⟨f, hf, m⟩
    obtain ⟨g, hg, mg⟩ := back h1 m1
    obtain ⟨g', hg', mg'⟩ := back h2 m2
    exact G.dj p q x g g' hg hg' mg mg' h3 h4
end
end DL
set_option Elab.async false
set_option linter.all false
set_option maxRecDepth 100000
set_option maxHeartbeats 4000000
/-! DL2: judgements over data: expressions (pure, fresh, with effects), tests, arguments, statements, loops, comprehensions, calls. -/
namespace DL
open PySem PySem.Spec PyProof.Rows L2
section
/-- te is the data d, nothing that stood changes -/
def EvP (te : TE) (Γ : List En) (d : D) : Prop := ∀ c F H σ, Good c F H σ Γ → ∀ Q : VK, (∀ v F' H', Stp F H F' H' → Rep F' d v → Q v H') → te σ H Q
/-- te is a new list, loose as yet -/
def EvF (te : TE) (Γ : List En) (ds : List D) : Prop := ∀ c F H σ, Good c F H σ Γ → ∀ Q : VK, (∀ a xs F' H', Stp F H F' H' → H a = none → F' a = none → H' a = some (.lst xs) → Reps F' ds xs → Q (.ref a) H') → te σ H Q
/-- what stands apart from the slots' lists stays as it is -/
def Fr (σ : L2.St) (Γ Γ' : List En) (F H F' H' : Hp) : Prop := ∀ a o, H a = some o → NoSlot σ Γ a → H' a = some o ∧ (F a = none → F' a = none) ∧ NoSlot σ Γ' a
theorem Fr.stp {σ : L2.St} {Γ : List En} {F H F' H' : Hp} (S : Stp F H F' H') : Fr σ Γ Γ F H F' H' := fun a o e n => by
  refine ⟨S.h a o e, fun f => ?_, n⟩
  cases q : F' a with
  | none => rfl
  | some u =>
    rcases S.nw a (by rw [q]; exact Option.some_ne_none _) with z | z
    · exact absurd f z
    · rw [e] at z; cases z
theorem Fr.trans {σ : L2.St} {Γ Γ1 Γ2 : List En} {F H F1 H1 F2 H2 : Hp} (x : Fr σ Γ Γ1 F H F1 H1) (y : Fr σ Γ1 Γ2 F1 H1 F2 H2) : Fr σ Γ Γ2 F H F2 H2 := fun a o e n => by
  obtain ⟨h1, h2, h3⟩ := x a o e n
  obtain ⟨k1, k2, k3⟩ := y a o h1 h3
  exact ⟨k1, fun f => k2 (h2 f), k3⟩
/-- te gives some d and turns the slots' lists to Γ', as R says -/
def EvW (te : TE) (Γ : List En) (R : D → List En → Prop) : Prop := ∀ c F H σ, Good c F H σ Γ → ∀ Q : VK, (∀ v d Γ' F' H', R d Γ' → Good c F' H' σ Γ' → Ex F F' → Fr σ Γ Γ' F H F' H' → Rep F' d v → Q v H') → te σ H Q
def EtP (tt : TT) (Γ : List En) (b : Bool) : Prop := ∀ c F H σ, Good c F H σ Γ → ∀ Q : Bool → Hp → Prop, (∀ F' H', Stp F H F' H' → Q b H') → tt σ H Q
def EtW (tt : TT) (Γ : List En) (R : Bool → List En → Prop) : Prop := ∀ c F H σ, Good c F H σ Γ → ∀ Q : Bool → Hp → Prop, (∀ b Γ' F' H', R b Γ' → Good c F' H' σ Γ' → Ex F F' → Q b H') → tt σ H Q
def EaP (ta : TA) (Γ : List En) (ds : List D) : Prop := ∀ c F H σ, Good c F H σ Γ → ∀ Q : List V → Hp → Prop, (∀ vs F' H', Stp F H F' H' → Reps F' ds vs → Q vs H') → ta σ H Q
def EoP (to : TO) (Γ : List En) (o : Option Int) : Prop := ∀ c F H σ, Good c F H σ Γ → ∀ Q : Option Int → Hp → Prop, (∀ F' H', Stp F H F' H' → Q o H') → to σ H Q
/-- an operation on two values; a call or method's rule on values -/
def RD (r : R2) (x y z : D) : Prop := ∀ F H vx vy, Ex F H → Rep F x vx → Rep F y vy → ∀ Q : VK, (∀ v F' H', Stp F H F' H' → Rep F' z v → Q v H') → r vx vy H Q
def RDF (r : R2) (x y : D) (zs : List D) : Prop := ∀ F H vx vy, Ex F H → Rep F x vx → Rep F y vy → ∀ Q : VK, (∀ a xs F' H', Stp F H F' H' → H a = none → F' a = none → H' a = some (.lst xs) → Reps F' zs xs → Q (.ref a) H') → r vx vy H Q
def RC (r : List V → Hp → VK → Prop) (ds : List D) (z : D) : Prop := ∀ F H vs, Ex F H → Reps F ds vs → ∀ Q : VK, (∀ v F' H', Stp F H F' H' → Rep F' z v → Q v H') → r vs H Q
def RCF (r : List V → Hp → VK → Prop) (ds : List D) (zs : List D) : Prop := ∀ F H vs, Ex F H → Reps F ds vs → ∀ Q : VK, (∀ a xs F' H', Stp F H F' H' → H a = none → F' a = none → H' a = some (.lst xs) → Reps F' zs xs → Q (.ref a) H') → r vs H Q
end
section
variable {K : PySem.W.Frag} {Γ Γ' : List En} {te ta tb : TE} {tt tu : TT} {d x y z : D} {ds es : List D} {R : D → List En → Prop}
theorem EvP.w (h : EvP te Γ d) (hR : R d Γ) : EvW te Γ R := fun c F H σ G Q k => h c F H σ G Q fun v F' H' S r => k v d Γ F' H' hR (G.step S) S.f (Fr.stp S) r
theorem EvP.w' (h : EvP te Γ d) : EvW te Γ (fun e Γ' => e = d ∧ Γ' = Γ) := h.w ⟨rfl, rfl⟩
theorem EvF.p (h : EvF te Γ ds) : EvP te Γ (.lst ds) := fun c F H σ G Q k => h c F H σ G Q fun a xs F' H' S n nf e r =>
  k (.ref a) (upd F' a (.lst xs)) H' ⟨S.f.trans (Ex.new nf), S.h, fun b o q => by
    by_cases z : b = a
    · subst z; rw [upd_same] at q; cases q; exact e
    · rw [upd_ne z] at q; exact S.fh _ _ q, fun b q => by
    by_cases z : b = a
    · subst z; exact .inr n
    · rw [upd_ne z] at q; exact S.nw _ q⟩ ⟨a, xs, rfl, upd_same, r.mono (Ex.new nf)⟩
theorem RC.cast {r : List V → Hp → VK → Prop} (h : RC r ds x) (e : x = y) : RC r ds y := e ▸ h
theorem EvP.cast (h : EvP te Γ x) (e : x = y) : EvP te Γ y := e ▸ h
theorem EvF.cast (h : EvF te Γ ds) (e : ds = es) : EvF te Γ es := e ▸ h
theorem EtP.cast {a b : Bool} (h : EtP tt Γ a) (e : a = b) : EtP tt Γ b := e ▸ h
/-! ### pure expressions -/
theorem ep_var {i : Nat} (h : Γ[i]? = some (.sh d)) : EvP (tVar i) Γ d := fun c F H σ G Q k => by
  obtain ⟨v, e, r⟩ := G.sh h
  exact ⟨v, e, k v F H (.refl G.fh) r⟩
theorem ep_int {i : Int} : EvP (tC (.int i)) Γ (.int i) := fun c F H σ G Q k => k _ F H (.refl G.fh) rfl
theorem ep_str {i : Str} : EvP (tC (.str i)) Γ (.str i) := fun c F H σ G Q k => k _ F H (.refl G.fh) rfl
theorem ep_bl {i : Bool} : EvP (tC (.bl i)) Γ (.bl i) := fun c F H σ G Q k => k _ F H (.refl G.fh) rfl
theorem ep_non : EvP (tC .non) Γ .non := fun c F H σ G Q k => k _ F H (.refl G.fh) rfl
theorem ep_ref {a : Addr} : EvP (tC (.ref a)) Γ (.ref a) := fun c F H σ G Q k => k _ F H (.refl G.fh) rfl
theorem ep_ty {a : String} : EvP (tC (.ty a)) Γ (.ty a) := fun c F H σ G Q k => k _ F H (.refl G.fh) rfl
theorem ep_op {r : R2} (ha : EvP ta Γ x) (hb : EvP tb Γ y) (hr : RD r x y z) : EvP (tOp r ta tb) Γ z := fun c F H σ G Q k =>
  ha c F H σ G _ fun v F1 H1 S1 r1 => hb c F1 H1 σ (G.step S1) _ fun u F2 H2 S2 r2 =>
    hr F2 H2 v u S2.fh (r1.mono S2.f) r2 Q fun w F3 H3 S3 r3 => k w F3 H3 (S1.trans (S2.trans S3)) r3
theorem ef_op {r : R2} (ha : EvP ta Γ x) (hb : EvP tb Γ y) (hr : RDF r x y ds) : EvF (tOp r ta tb) Γ ds := fun c F H σ G Q k =>
  ha c F H σ G _ fun v F1 H1 S1 r1 => hb c F1 H1 σ (G.step S1) _ fun u F2 H2 S2 r2 =>
    hr F2 H2 v u S2.fh (r1.mono S2.f) r2 Q fun a xs F3 H3 S3 n nf e r3 => k a xs F3 H3 (S1.trans (S2.trans S3)) (by
      cases q : H a with
      | none => rfl
      | some o => rw [S2.h _ _ (S1.h _ _ q)] at n; cases n) nf e r3
theorem ea_nil : EaP tNil Γ [] := fun c F H σ G Q k => k [] F H (.refl G.fh) rfl
theorem ea_cons {tr : TA} (ha : EvP ta Γ x) (hr : EaP tr Γ ds) : EaP (tCons ta tr) Γ (x :: ds) := fun c F H σ G Q k =>
  ha c F H σ G _ fun v F1 H1 S1 r1 => hr c F1 H1 σ (G.step S1) _ fun vs F2 H2 S2 r2 => k (v :: vs) F2 H2 (S1.trans S2) ⟨v, vs, rfl, r1.mono S2.f, r2⟩
theorem ep_cb {r : List V → Hp → VK → Prop} {t : TA} (ha : EaP t Γ ds) (hr : RC r ds z) : EvP (tCB r t) Γ z := fun c F H σ G Q k =>
  ha c F H σ G _ fun vs F1 H1 S1 r1 => hr F1 H1 vs S1.fh r1 Q fun v F2 H2 S2 r2 => k v F2 H2 (S1.trans S2) r2
theorem ef_cb {r : List V → Hp → VK → Prop} {t : TA} (ha : EaP t Γ ds) (hr : RCF r ds es) : EvF (tCB r t) Γ es := fun c F H σ G Q k =>
  ha c F H σ G _ fun vs F1 H1 S1 r1 => hr F1 H1 vs S1.fh r1 Q fun a xs F2 H2 S2 n nf e r2 => k a xs F2 H2 (S1.trans S2) (by
      cases q : H a with
      | none => rfl
      | some o => rw [S1.h _ _ q] at n; cases n) nf e r2
theorem ep_tup {t : TA} (ha : EaP t Γ ds) (hl : ds.length ≤ sizeLine) : EvP (tTup t) Γ (.tup ds) := fun c F H σ G Q k =>
  ha c F H σ G _ fun vs F1 H1 S1 r1 => ⟨by rw [r1.length]; exact hl, fun p hp => by
    have S2 := Stp.new S1.fh (.tup vs) hp
    exact k (.ref p) _ _ (S1.trans S2) ⟨p, vs, rfl, upd_same, r1.mono S2.f⟩⟩
theorem ef_lst {t : TA} (ha : EaP t Γ ds) (hl : ds.length ≤ sizeLine) : EvF (tLst t) Γ ds := fun c F H σ G Q k =>
  ha c F H σ G _ fun vs F1 H1 S1 r1 => ⟨by rw [r1.length]; exact hl, fun p hp => by
    have S2 := Stp.loose S1.fh (.lst vs) hp
    refine k p vs _ _ (S1.trans S2) ?_ ?_ upd_same r1
    · cases q : H p with
      | none => rfl
      | some o => rw [S1.h _ _ q] at hp; cases hp
    · cases q : F1 p with
      | none => rfl
      | some o => rw [S1.fh _ _ q] at hp; cases hp⟩
theorem ep_if {b : Bool} (ht : EtP tt Γ b) (h1 : b = true → EvP ta Γ d) (h2 : b = false → EvP tb Γ d) : EvP (tIf tt ta tb) Γ d := fun c F H σ G Q k =>
  ht c F H σ G _ fun F1 H1 S1 => by
    cases b with
    | true => rw [if_pos rfl]; exact h1 rfl c F1 H1 σ (G.step S1) Q fun v F2 H2 S2 r => k v F2 H2 (S1.trans S2) r
    | false => rw [if_neg Bool.false_ne_true]; exact h2 rfl c F1 H1 σ (G.step S1) Q fun v F2 H2 S2 r => k v F2 H2 (S1.trans S2) r
theorem ep_un {r : V → Hp → VK → Prop} (ha : EvP ta Γ x) (hr : RC (fun vs H Q => ∃ v, vs = [v] ∧ r v H Q) [x] z) : EvP (tUn r ta) Γ z := fun c F H σ G Q k =>
  ha c F H σ G _ fun v F1 H1 S1 r1 => by
    obtain ⟨u, e, q⟩ := hr F1 H1 [v] S1.fh (.one r1) Q fun w F2 H2 S2 r2 => k w F2 H2 (S1.trans S2) r2
    cases e
    exact q
/-- an attribute of an instance -/
theorem ep_fld {f : Str} {C : Addr} {fs : List (Str × D)} (ha : EvP ta Γ (.obj C fs)) (hc : Cls K C) (hn : NoAttr K C f) (hf : fs.lookup f = some d) : EvP (tFld K ta f) Γ d := fun c F H σ G Q k =>
  ha c F H σ G _ fun v F1 H1 S1 r1 => by
    obtain ⟨a, dx, xs, e, h, r⟩ := r1
    obtain ⟨u, hu, ru⟩ := r.lookup hf
    exact ⟨a, C, dx, xs, u, e, S1.fh _ _ h, hc, hn, hu, k u F1 H1 S1 ru⟩
/-! ### tests -/
theorem et_test {b : Bool} (h : EvP te Γ (.bl b)) : EtP (tTest te) Γ b := fun c F H σ G Q k => h c F H σ G _ fun v F' H' S r => ⟨b, r, k F' H' S⟩
theorem et_B {b : Bool} (h : EvP te Γ (.bl b)) : EtP (tB te) Γ b := fun c F H σ G Q k => h c F H σ G _ fun v F' H' S r => ⟨b, r, k F' H' S⟩
theorem et_and {a b : Bool} (h1 : EtP tt Γ a) (h2 : a = true → EtP tu Γ b) : EtP (tAnd tt tu) Γ (a && b) := fun c F H σ G Q k => h1 c F H σ G _ fun F1 H1 S1 => by
  cases a with
  | true => rw [if_pos rfl]; exact h2 rfl c F1 H1 σ (G.step S1) Q fun F2 H2 S2 => k F2 H2 (S1.trans S2)
  | false => rw [if_neg Bool.false_ne_true]; exact k F1 H1 S1
theorem et_or {a b : Bool} (h1 : EtP tt Γ a) (h2 : a = false → EtP tu Γ b) : EtP (tOr tt tu) Γ (a || b) := fun c F H σ G Q k => h1 c F H σ G _ fun F1 H1 S1 => by
  cases a with
  | false => rw [if_neg Bool.false_ne_true]; exact h2 rfl c F1 H1 σ (G.step S1) Q fun F2 H2 S2 => k F2 H2 (S1.trans S2)
  | true => rw [if_pos rfl]; exact k F1 H1 S1
theorem et_not {a : Bool} (h1 : EtP tt Γ a) : EtP (tNot tt) Γ (!a) := fun c F H σ G Q k => h1 c F H σ G _ fun F1 H1 S1 => k F1 H1 S1
theorem et_yes : EtP tYes Γ true := fun c F H σ G Q k => k F H (.refl G.fh)
theorem ep_andV {a b : Bool} (h1 : EvP ta Γ (.bl a)) (h2 : a = true → EvP tb Γ (.bl b)) : EvP (tAndV ta tb) Γ (.bl (a && b)) := fun c F H σ G Q k => h1 c F H σ G _ fun v F1 H1 S1 r => ⟨a, r, by
  cases a with
  | true => rw [if_pos rfl]; exact h2 rfl c F1 H1 σ (G.step S1) Q fun v F2 H2 S2 r2 => k v F2 H2 (S1.trans S2) r2
  | false => rw [if_neg Bool.false_ne_true]; exact k _ F1 H1 S1 rfl⟩
theorem ep_orV {a b : Bool} (h1 : EvP ta Γ (.bl a)) (h2 : a = false → EvP tb Γ (.bl b)) : EvP (tOrV ta tb) Γ (.bl (a || b)) := fun c F H σ G Q k => h1 c F H σ G _ fun v F1 H1 S1 r => ⟨a, r, by
  cases a with
  | false => rw [if_neg Bool.false_ne_true]; exact h2 rfl c F1 H1 σ (G.step S1) Q fun v F2 H2 S2 r2 => k v F2 H2 (S1.trans S2) r2
  | true => rw [if_pos rfl]; exact k _ F1 H1 S1 rfl⟩
theorem ep_notV {a : Bool} (h1 : EvP ta Γ (.bl a)) : EvP (tNotV ta) Γ (.bl (!a)) := fun c F H σ G Q k => h1 c F H σ G _ fun v F1 H1 S1 r => ⟨a, r, k _ F1 H1 S1 rfl⟩
/-! ### operations on ints, texts, lists -/
theorem rd_I0 {g : Int → Int → V} {i j : Int} (hz : ∀ F, Rep F z (g i j)) : RD (rI0 g) (.int i) (.int j) z := fun F H vx vy e rx ry Q k => ⟨i, j, rx, ry, k _ F H (.refl e) (hz F)⟩
theorem rd_I {C : Int → Int → Prop} {g : Int → Int → V} {i j : Int} (hc : C i j) (hz : ∀ F, Rep F z (g i j)) : RD (rI C g) (.int i) (.int j) z := fun F H vx vy e rx ry Q k => ⟨i, j, rx, ry, hc, k _ F H (.refl e) (hz F)⟩
def scalD : D → Option V
  | .non => some .non
  | .bl b => some (.bl b)
  | .int i => some (.int i)
  | .str x => some (.str x)
  | .ty n => some (.ty n)
  | _ => none
theorem scalD_rep {F : Hp} {v w : V} : ∀ {d : D}, scalD d = some w → Rep F d v → v = w
  | .non, e, r => by cases e; exact r
  | .bl _, e, r => by cases e; exact r
  | .int _, e, r => by cases e; exact r
  | .str _, e, r => by cases e; exact r
  | .ty _, e, r => by cases e; exact r
  | .ref _, e, _ => by cases e
  | .lst _, e, _ => by cases e
  | .tup _, e, _ => by cases e
  | .obj _ _, e, _ => by cases e
  | .scr _ _ _, e, _ => by cases e
  | .dct _, e, _ => by cases e
  | .dki _, e, _ => by cases e
  | .opq _, e, _ => by cases e
theorem rep_scalD {F : Hp} {w : V} : ∀ {d : D}, scalD d = some w → Rep F d w
  | .non, e => by cases e; rfl
  | .bl _, e => by cases e; rfl
  | .int _, e => by cases e; rfl
  | .str _, e => by cases e; rfl
  | .ty _, e => by cases e; rfl
  | .ref _, e => by cases e
  | .lst _, e => by cases e
  | .tup _, e => by cases e
  | .obj _ _, e => by cases e
  | .scr _ _ _, e => by cases e
  | .dct _, e => by cases e
  | .dki _, e => by cases e
  | .opq _, e => by cases e
theorem rd_eq {v w : V} {b : Bool} (hx : scalD x = some v) (hy : scalD y = some w) (hs : scal v w = true) (hb : decide (v = w) = b) : RD rEq x y (.bl b) := fun F H vx vy e rx ry Q k => by
  rw [scalD_rep hx rx, scalD_rep hy ry]
  exact ⟨hs, by rw [hb]; exact k _ F H (.refl e) rfl⟩
theorem rd_ne {v w : V} {b : Bool} (hx : scalD x = some v) (hy : scalD y = some w) (hs : scal v w = true) (hb : (!decide (v = w)) = b) : RD rNe x y (.bl b) := fun F H vx vy e rx ry Q k => by
  rw [scalD_rep hx rx, scalD_rep hy ry]
  exact ⟨hs, by rw [hb]; exact k _ F H (.refl e) rfl⟩
theorem atI_some {α : Type} {l : List α} {i : Int} {x : α} (h : atI l i = some x) : ∃ j, ixN l.length i = some j ∧ l[j]? = some x := by
  unfold atI at h
  cases q : ixN l.length i with
  | none => rw [q] at h; cases h
  | some j => rw [q] at h; exact ⟨j, rfl, h⟩
theorem atI_of {α : Type} {l : List α} {i : Int} {j : Nat} {x : α} (h : ixN l.length i = some j) (h2 : l[j]? = some x) : atI l i = some x := by
  unfold atI
  rw [h]
  exact h2
theorem Reps.atI {F : Hp} {xs : List V} {i : Int} (r : Reps F ds xs) (h : L2.atI ds i = some d) : ∃ v, L2.atI xs i = some v ∧ Rep F d v := by
  obtain ⟨j, h1, h2⟩ := atI_some h
  obtain ⟨v, e, rv⟩ := r.get h2
  exact ⟨v, atI_of (by rw [r.length]; exact h1) e, rv⟩
theorem rd_ixL {i : Int} (h : atI ds i = some d) : RD (rIxL K) (.lst ds) (.int i) d := fun F H vx vy e rx ry Q k => by
  obtain ⟨a, xs, rfl, hs, r⟩ := rx
  obtain ⟨v, hv, rv⟩ := r.atI h
  exact ⟨a, xs, i, v, rfl, ry, .inl (.inl (e _ _ hs)), hv, k v F H (.refl e) rv⟩
theorem rd_ixT {i : Int} (h : atI ds i = some d) : RD (rIxT K) (.tup ds) (.int i) d := fun F H vx vy e rx ry Q k => by
  obtain ⟨a, xs, rfl, hs, r⟩ := rx
  obtain ⟨v, hv, rv⟩ := r.atI h
  exact ⟨a, xs, i, v, rfl, ry, .inl (.inl (e _ _ hs)), hv, k v F H (.refl e) rv⟩
abbrev rAddStr : R2 := fun x y H Q => ∃ i j, x = .str i ∧ y = .str j ∧ i.length + j.length ≤ sizeLine ∧ Q (.str (i ++ j)) H
theorem rd_addS {a b : Str} (h : a.length + b.length ≤ sizeLine) : RD rAddStr (.str a) (.str b) (.str (a ++ b)) := fun F H vx vy e rx ry Q k => ⟨a, b, rx, ry, h, k _ F H (.refl e) rfl⟩
/-- + of two lists -/
theorem rdf_cat (h : ds.length + es.length ≤ sizeLine) : RDF rCat (.lst ds) (.lst es) (ds ++ es) := fun F H vx vy e rx ry Q k => by
  obtain ⟨a, xs, rfl, hs, r⟩ := rx
  obtain ⟨b, ys, rfl, hs2, r2⟩ := ry
  refine ⟨a, b, xs, ys, rfl, rfl, e _ _ hs, e _ _ hs2, by rw [r.length, r2.length]; exact h, fun p hp => ?_⟩
  refine k p _ F _ (.loose e _ hp) hp ?_ upd_same (r.append r2)
  cases q : F p with
  | none => rfl
  | some o => rw [e _ _ q] at hp; cases hp
/-! ### built-in calls -/
abbrev rLenS (K : PySem.W.Frag) : List V → Hp → VK → Prop := fun xs H Q => ∃ p ys, xs = [.ref p] ∧ (SqL K H p ys ∨ SqT K H p ys) ∧ Q (.int ys.length) H
theorem rc_len : RC (rLenS K) [.lst ds] (.int ds.length) := fun F H vs e r Q k => by
  obtain ⟨v, _, rfl, ⟨a, xs, rfl, hs, r1⟩, rfl⟩ := r
  exact ⟨a, xs, rfl, .inl (.inl (.inl (e _ _ hs))), k _ F H (.refl e) (by rw [r1.length]; rfl)⟩
theorem rc_lenT : RC (rLenS K) [.tup ds] (.int ds.length) := fun F H vs e r Q k => by
  obtain ⟨v, _, rfl, ⟨a, xs, rfl, hs, r1⟩, rfl⟩ := r
  exact ⟨a, xs, rfl, .inr (.inl (.inl (e _ _ hs))), k _ F H (.refl e) (by rw [r1.length]; rfl)⟩
/-- the script -/
def KLs (K : PySem.W.Frag) (a : Addr) (xs : List V) : Prop := ∃ (o : Obj) (its : Array Value) (n : Nat), K.lookup a = some o ∧ o.cls = .type "list" ∧ o.dict = none ∧ o.data = .seq its n ∧ its.size ≤ sizeLine ∧ Vals xs its.toList
theorem scr_sq {F H : Hp} {a : Addr} {ns : List Int} {p : Prop} {v : V} (e : Ex F H) (h : Rep F (.scr a ns p) v) (hp : p → KLs K a (ns.map V.int)) : v = .ref a ∧ SqL K H a (ns.map V.int) := by
  obtain ⟨h1, h2 | ⟨o, h2⟩ | h2⟩ := h
  · exact ⟨h1, .inl (.inl (e _ _ h2))⟩
  · exact ⟨h1, .inl (.inr ⟨o, e _ _ h2⟩)⟩
  · exact ⟨h1, .inr (hp h2)⟩
theorem rd_ixScr {a : Addr} {ns : List Int} {p : Prop} {i n : Int} (hp : p → KLs K a (ns.map V.int)) (h : atI ns i = some n) : RD (rIxL K) (.scr a ns p) (.int i) (.int n) := fun F H vx vy e rx ry Q k => by
  obtain ⟨rfl, hs⟩ := scr_sq e rx hp
  have q : atI (ns.map V.int) i = some (.int n) := by
    obtain ⟨j, h1, h2⟩ := atI_some h
    exact atI_of (by rw [List.length_map]; exact h1) (by rw [List.getElem?_map, h2]; rfl)
  exact ⟨a, _, i, .int n, rfl, ry, hs, q, k _ F H (.refl e) rfl⟩
theorem rc_lenScr {a : Addr} {ns : List Int} {p : Prop} (hp : p → KLs K a (ns.map V.int)) : RC (rLenS K) [.scr a ns p] (.int ns.length) := fun F H vs e r Q k => by
  obtain ⟨v, _, rfl, rx, rfl⟩ := r
  obtain ⟨rfl, hs⟩ := scr_sq e rx hp
  exact ⟨a, _, rfl, .inl hs, k _ F H (.refl e) (by rw [List.length_map]; rfl)⟩
/-- abs, max, min of two ints -/
theorem rc_int2 {f : Int → Int → Int} {i j : Int} : RC (fun vs H Q => ∃ i j, vs = [.int i, .int j] ∧ Q (.int (f i j)) H) [.int i, .int j] (.int (f i j)) := fun F H vs e rr Q k => by
  obtain ⟨v, _, rfl, rv, v2, _, rfl, rv2, rfl⟩ := rr
  have rv' : v = .int i := rv
  have rv2' : v2 = .int j := rv2
  subst rv' rv2'
  exact ⟨i, j, rfl, k _ F H (.refl e) rfl⟩
theorem rc_int1 {f : Int → Int} {i : Int} : RC (fun vs H Q => ∃ i, vs = [.int i] ∧ Q (.int (f i)) H) [.int i] (.int (f i)) := fun F H vs e rr Q k => by
  obtain ⟨v, _, rfl, rv, rfl⟩ := rr
  have rv' : v = .int i := rv
  subst rv'
  exact ⟨i, rfl, k _ F H (.refl e) rfl⟩
end
end DL
set_option Elab.async false
set_option linter.all false
set_option maxRecDepth 100000
set_option maxHeartbeats 4000000
/-! DL3: statements, loops, comprehensions, calls. -/
namespace DL
open PySem PySem.Spec PyProof.Rows L2
/-- what is wanted behind a statement -/
structure Po where
  nx : List En → Prop
  rt : D → List En → Prop
  bk : List En → Prop := fun _ => False
  ct : List En → Prop := fun _ => False
def SW (ts : TS) (Γ : List En) (P : Po) : Prop := ∀ c F H σ, Good c F H σ Γ → ∀ D : Ends,
  (∀ Γ' F' H' σ', P.nx Γ' → Good c F' H' σ' Γ' → Ex F F' → D.nx σ' H') →
  (∀ v d Γ' F' H' σ', P.rt d Γ' → Good c F' H' σ' Γ' → Ex F F' → Rep F' d v → D.rt v H') →
  (∀ Γ' F' H' σ', P.bk Γ' → Good c F' H' σ' Γ' → Ex F F' → D.bk σ' H') →
  (∀ Γ' F' H' σ', P.ct Γ' → Good c F' H' σ' Γ' → Ex F F' → D.ct σ' H') → ts D σ H
/-- a binding target -/
def GtP (g : TG) (d : D) (Γ Γ' : List En) : Prop := ∀ c F H σ v, Good c F H σ Γ → Rep F d v → ∀ Q : L2.St → Hp → Prop, (∀ σ', Good c F H σ' Γ' → Q σ' H) → g v σ H Q
section
variable {K : PySem.W.Frag} {Γ Γ' : List En} {te ta tb : TE} {tt tu : TT} {t u w : TS} {d x y z : D} {ds es : List D} {R : D → List En → Prop} {P : Po} {g : TG}
theorem SW.imp {P' : Po} (h : SW t Γ P) (h1 : ∀ G, P.nx G → P'.nx G) (h2 : ∀ d G, P.rt d G → P'.rt d G) (h3 : ∀ G, P.bk G → P'.bk G) (h4 : ∀ G, P.ct G → P'.ct G) : SW t Γ P' :=
  fun c F H σ G D a b e f => h c F H σ G D (fun Γ' F' H' σ' p => a Γ' F' H' σ' (h1 _ p)) (fun v d Γ' F' H' σ' p => b v d Γ' F' H' σ' (h2 _ _ p)) (fun Γ' F' H' σ' p => e Γ' F' H' σ' (h3 _ p)) (fun Γ' F' H' σ' p => f Γ' F' H' σ' (h4 _ p))
theorem gt_name {i : Nat} : GtP (gName i) d Γ (Γ.set i (.sh d)) := fun c F H σ v G r Q k => k _ (G.setSh r)
theorem gt_tup2 {i j : Nat} : GtP (gTup K 2 (gCons (gName i) (gCons (gName j) gNil))) (.tup [x, y]) Γ ((Γ.set i (.sh x)).set j (.sh y)) := fun c F H σ v G r Q k => by
  obtain ⟨a, xs, rfl, ha, u1, r1, rfl, h1, u2, r2, rfl, h2, rfl⟩ := r
  exact ⟨a, [u1, u2], rfl, .inl (.inl (G.exH ha)), rfl, u1, [u2], rfl, u2, [], rfl, rfl, k _ ((G.setSh h1).setSh h2)⟩
theorem gt_tup3 {i j l : Nat} : GtP (gTup K 3 (gCons (gName i) (gCons (gName j) (gCons (gName l) gNil)))) (.tup [x, y, z]) Γ (((Γ.set i (.sh x)).set j (.sh y)).set l (.sh z)) := fun c F H σ v G r Q k => by
  obtain ⟨a, xs, rfl, ha, u1, r1, rfl, h1, u2, r2, rfl, h2, u3, r3, rfl, h3, rfl⟩ := r
  exact ⟨a, [u1, u2, u3], rfl, .inl (.inl (G.exH ha)), rfl, u1, [u2, u3], rfl, u2, [u3], rfl, u3, [], rfl, rfl, k _ (((G.setSh h1).setSh h2).setSh h3)⟩
theorem sw_next (h : P.nx Γ) : SW tNext Γ P := fun c F H σ G D a b e f => a Γ F H σ h G (Ex.refl F)
theorem sw_brk (h : P.bk Γ) : SW tBreak Γ P := fun c F H σ G D a b e f => e Γ F H σ h G (Ex.refl F)
theorem sw_cont (h : P.ct Γ) : SW tCont Γ P := fun c F H σ G D a b e f => f Γ F H σ h G (Ex.refl F)
theorem sw_seq (M : List En → Prop) (h1 : SW t Γ ⟨M, P.rt, P.bk, P.ct⟩) (h2 : ∀ Γ', M Γ' → SW u Γ' P) : SW (tSeq t u) Γ P := fun c F H σ G D a b e f =>
  h1 c F H σ G { D with nx := u D } (fun Γ' F' H' σ' m G' x => h2 Γ' m c F' H' σ' G' D (fun Γ'' F'' H'' σ'' p G'' y => a Γ'' F'' H'' σ'' p G'' (x.trans y)) (fun v d Γ'' F'' H'' σ'' p G'' y => b v d Γ'' F'' H'' σ'' p G'' (x.trans y))
    (fun Γ'' F'' H'' σ'' p G'' y => e Γ'' F'' H'' σ'' p G'' (x.trans y)) (fun Γ'' F'' H'' σ'' p G'' y => f Γ'' F'' H'' σ'' p G'' (x.trans y))) b e f
theorem sw_seq1 (h1 : SW t Γ ⟨(· = Γ'), P.rt, P.bk, P.ct⟩) (h2 : SW u Γ' P) : SW (tSeq t u) Γ P := sw_seq (· = Γ') h1 fun _ e => e ▸ h2
theorem sw_ret (h : EvP te Γ d) (hr : P.rt d Γ) : SW (tRet te) Γ P := fun c F H σ G D a b e f => h c F H σ G _ fun v F' H' S r => b v d Γ F' H' σ hr (G.step S) S.f r
theorem sw_retW (h : EvW te Γ P.rt) : SW (tRet te) Γ P := fun c F H σ G D a b e f => h c F H σ G _ fun v d Γ' F' H' hr G' x _ r => b v d Γ' F' H' σ hr G' x r
theorem sw_asg {i : Nat} (h : EvP te Γ d) (hn : P.nx (Γ.set i (.sh d))) : SW (tAsg te (gName i)) Γ P := fun c F H σ G D a b e f => h c F H σ G _ fun v F' H' S r => a _ F' H' _ hn ((G.step S).setSh r) S.f
theorem sw_asgG (h : EvP te Γ d) (hg : GtP g d Γ Γ') (hn : P.nx Γ') : SW (tAsg te g) Γ P := fun c F H σ G D a b e f => h c F H σ G _ fun v F' H' S r => hg c F' H' σ v (G.step S) r _ fun σ' G' => a _ F' H' _ hn G' S.f
theorem sw_asgF {i : Nat} (h : EvF te Γ ds) (hn : P.nx (Γ.set i (.own ds))) : SW (tAsg te (gName i)) Γ P := fun c F H σ G D a b e f => h c F H σ G _ fun p xs F' H' S n nf eq r =>
  a _ F' H' _ hn ((G.step S).setOwn (G.noSlot n) nf eq r (G.fresh n)) S.f
theorem sw_asgW {i : Nat} (h : EvW te Γ R) (hn : ∀ d Γ', R d Γ' → P.nx (Γ'.set i (.sh d))) : SW (tAsg te (gName i)) Γ P := fun c F H σ G D a b e f => h c F H σ G _ fun v d Γ' F' H' hr G' x _ r => a _ F' H' _ (hn d Γ' hr) (G'.setSh r) x
theorem sw_drop (h : EvP te Γ d) (hn : P.nx Γ) : SW (tDrop te) Γ P := fun c F H σ G D a b e f => h c F H σ G _ fun v F' H' S r => a _ F' H' _ hn (G.step S) S.f
theorem sw_dropW (h : EvW te Γ R) (hn : ∀ d Γ', R d Γ' → P.nx Γ') : SW (tDrop te) Γ P := fun c F H σ G D a b e f => h c F H σ G _ fun v d Γ' F' H' hr G' x _ r => a _ F' H' _ (hn d Γ' hr) G' x
theorem sw_if {b : Bool} (h : EtP tt Γ b) (h1 : b = true → SW t Γ P) (h2 : b = false → SW u Γ P) : SW (tIfS tt t u) Γ P := fun c F H σ G D a b' e f => h c F H σ G _ fun F1 H1 S => by
  cases b with
  | true =>
    rw [if_pos rfl]
    exact h1 rfl c F1 H1 σ (G.step S) D (fun Γ' F' H' σ' p G' x => a Γ' F' H' σ' p G' (S.f.trans x)) (fun v d Γ' F' H' σ' p G' x => b' v d Γ' F' H' σ' p G' (S.f.trans x)) (fun Γ' F' H' σ' p G' x => e Γ' F' H' σ' p G' (S.f.trans x)) (fun Γ' F' H' σ' p G' x => f Γ' F' H' σ' p G' (S.f.trans x))
  | false =>
    rw [if_neg Bool.false_ne_true]
    exact h2 rfl c F1 H1 σ (G.step S) D (fun Γ' F' H' σ' p G' x => a Γ' F' H' σ' p G' (S.f.trans x)) (fun v d Γ' F' H' σ' p G' x => b' v d Γ' F' H' σ' p G' (S.f.trans x)) (fun Γ' F' H' σ' p G' x => e Γ' F' H' σ' p G' (S.f.trans x)) (fun Γ' F' H' σ' p G' x => f Γ' F' H' σ' p G' (S.f.trans x))
theorem sw_ifW {R : Bool → List En → Prop} (h : EtW tt Γ R) (h1 : ∀ Γ', R true Γ' → SW t Γ' P) (h2 : ∀ Γ', R false Γ' → SW u Γ' P) : SW (tIfS tt t u) Γ P := fun c F H σ G D a b' e f => h c F H σ G _ fun b Γ1 F1 H1 hr G1 x1 => by
  cases b with
  | true =>
    rw [if_pos rfl]
    exact h1 _ hr c F1 H1 σ G1 D (fun Γ' F' H' σ' p G' x => a Γ' F' H' σ' p G' (x1.trans x)) (fun v d Γ' F' H' σ' p G' x => b' v d Γ' F' H' σ' p G' (x1.trans x)) (fun Γ' F' H' σ' p G' x => e Γ' F' H' σ' p G' (x1.trans x)) (fun Γ' F' H' σ' p G' x => f Γ' F' H' σ' p G' (x1.trans x))
  | false =>
    rw [if_neg Bool.false_ne_true]
    exact h2 _ hr c F1 H1 σ G1 D (fun Γ' F' H' σ' p G' x => a Γ' F' H' σ' p G' (x1.trans x)) (fun v d Γ' F' H' σ' p G' x => b' v d Γ' F' H' σ' p G' (x1.trans x)) (fun Γ' F' H' σ' p G' x => e Γ' F' H' σ' p G' (x1.trans x)) (fun Γ' F' H' σ' p G' x => f Γ' F' H' σ' p G' (x1.trans x))
/-- an own list is shared from here on -/
theorem sw_frz {i : Nat} (h : Γ[i]? = some (.own ds)) (k : SW t (Γ.set i (.sh (.lst ds))) P) : SW t Γ P := fun c F H σ G D a b e f => by
  obtain ⟨F1, x1, G1⟩ := G.freezeSlot h
  exact k c F1 H σ G1 D (fun Γ' F' H' σ' p G' x => a Γ' F' H' σ' p G' (x1.trans x)) (fun v d Γ' F' H' σ' p G' x => b v d Γ' F' H' σ' p G' (x1.trans x)) (fun Γ' F' H' σ' p G' x => e Γ' F' H' σ' p G' (x1.trans x)) (fun Γ' F' H' σ' p G' x => f Γ' F' H' σ' p G' (x1.trans x))
/-! ### a mutable list of a slot: read, put, appended to, popped from -/
def Mt (Γ : List En) (i : Nat) (ds : List D) : Prop := Γ[i]? = some (.own ds) ∨ Γ[i]? = some (.lent ds)
theorem Good.mt {c : Ct} {F H : Hp} {σ : L2.St} (G : Good c F H σ Γ) {i : Nat} (h : Mt Γ i ds) : ∃ a xs e, σ[i]? = some (some (.ref a)) ∧ H a = some (.lst xs) ∧ Reps F ds xs ∧ F a = none ∧ Γ[i]? = some e ∧ (e = .own ds ∨ e = .lent ds) := by
  rcases h with h | h
  · obtain ⟨a, xs, h1, h2, h3, h4, _⟩ := G.own h
    exact ⟨a, xs, _, h1, h3, h4, h2, h, .inl rfl⟩
  · obtain ⟨a, xs, h1, h2, h3, h4, _⟩ := G.lent h
    exact ⟨a, xs, _, h1, h3, h4, h2, h, .inr rfl⟩
/-- the slot's list is now es -/
def pt (Γ : List En) (i : Nat) (es : List D) : List En := Γ.set i ((Γ[i]?.getD .un).put es)
theorem Good.pt {c : Ct} {F H : Hp} {σ : L2.St} (G : Good c F H σ Γ) {i : Nat} {a : Addr} {ys : List V} (h : Mt Γ i ds) (e1 : σ[i]? = some (some (.ref a))) (r : Reps F es ys) : Good c F (upd H a (.lst ys)) σ (DL.pt Γ i es) := by
  unfold DL.pt
  rcases h with h | h
  · rw [h]; exact G.chg (ds := ds) h (.inl rfl) e1 r
  · rw [h]; exact G.chg (ds := ds) h (.inr rfl) e1 r
/-- x[e], x a mutable list -/
theorem ep_ixM {i : Nat} {n : Int} (h : Mt Γ i ds) (he : EvP te Γ (.int n)) (hx : atI ds n = some d) : EvP (tOp (rIxL K) (tVar i) te) Γ d := fun c F H σ G Q k => by
  obtain ⟨a, xs, e, h1, h2, h3, h4, h5, h6⟩ := G.mt h
  refine ⟨_, h1, he c F H σ G _ fun v F' H' S r => ?_⟩
  obtain ⟨u, hu, ru⟩ := (h3.mono S.f).atI hx
  exact ⟨a, xs, n, u, rfl, r, .inl (.inl (S.h _ _ h2)), hu, k u F' H' S ru⟩
theorem ep_lenM {i : Nat} (h : Mt Γ i ds) : EvP (tCB (rLenS K) (tCons (tVar i) tNil)) Γ (.int ds.length) := fun c F H σ G Q k => by
  obtain ⟨a, xs, e, h1, h2, h3, h4, h5, h6⟩ := G.mt h
  exact ⟨_, h1, a, xs, rfl, .inl (.inl (.inl h2)), k _ F H (.refl G.fh) (by rw [h3.length]; rfl)⟩
/-- x[e1] = e2 -/
theorem sw_setM {i : Nat} {n : Int} {j : Nat} {tn : TE} (hv : EvP te Γ d) (h : Mt Γ i ds) (hi : EvP tn Γ (.int n)) (hj : ixN ds.length n = some j) (hn : P.nx (pt Γ i (ds.set j d))) : SW (tAsg te (gSub (tVar i) tn rSetL)) Γ P := fun c F H σ G D a b e f =>
  hv c F H σ G _ fun v F1 H1 S1 r1 => by
    have G1 := G.step S1
    obtain ⟨p, xs, e', h1, h2, h3, h4, h5, h6⟩ := G1.mt h
    refine ⟨_, h1, hi c F1 H1 σ G1 _ fun w F2 H2 S2 r2 => ?_⟩
    have G2 := G1.step S2
    exact ⟨p, xs, n, j, rfl, r2, S2.h _ _ h2, by rw [h3.length]; exact hj, a _ F2 _ σ hn (G2.pt h h1 (((h3.mono S2.f)).set (r1.mono S2.f) j)) (S1.f.trans S2.f)⟩
/-- x.append(e) -/
theorem sw_app {i : Nat} (h : Mt Γ i ds) (hv : EvP te Γ d) (hl : ds.length < sizeLine) (hn : P.nx (pt Γ i (ds ++ [d]))) : SW (tDrop (tBM K "list" rAppend (tVar i) (tCons te tNil))) Γ P := fun c F H σ G D a b e f => by
  obtain ⟨p, xs, e', h1, h2, h3, h4, h5, h6⟩ := G.mt h
  refine ⟨_, h1, .inl ⟨rfl, _, SqL.of h2⟩, hv c F H σ G _ fun v F1 H1 S1 r1 => ?_⟩
  have G1 := G.step S1
  exact ⟨p, xs, v, rfl, rfl, S1.h _ _ h2, by rw [h3.length]; exact hl, a _ F1 _ σ hn (G1.pt h h1 ((h3.mono S1.f).append (.one r1))) S1.f⟩
/-- x.append(e), e with effects (x keeps its list meanwhile) -/
theorem sw_appW {i : Nat} (h : Mt Γ i ds) (hv : EvW te Γ R) (hR : ∀ d Γ', R d Γ' → Mt Γ' i ds ∧ P.nx (pt Γ' i (ds ++ [d]))) (hl : ds.length < sizeLine) : SW (tDrop (tBM K "list" rAppend (tVar i) (tCons te tNil))) Γ P := fun c F H σ G D a b e f => by
  obtain ⟨p, xs, e', h1, h2, h3, h4, h5, h6⟩ := G.mt h
  refine ⟨_, h1, .inl ⟨rfl, _, SqL.of h2⟩, hv c F H σ G _ fun v d Γ' F1 H1 hr G1 x1 _ r1 => ?_⟩
  obtain ⟨m, hn⟩ := hR d Γ' hr
  obtain ⟨p', xs', e'', k1, k2, k3, k4, k5, k6⟩ := G1.mt m
  rw [h1] at k1
  cases k1
  exact ⟨p, xs', v, rfl, rfl, k2, by rw [k3.length]; exact hl, a _ F1 _ σ hn (G1.pt m h1 (k3.append (.one r1))) x1⟩
/-! ### loops -/
/-- what is walked is the list ds -/
def WiP (wi : TI) (Γ : List En) (ds : List D) : Prop := ∀ c F H σ, Good c F H σ Γ → ∀ R : It → Hp → Prop,
  (∀ J F' H' (Gd : Hp → Prop) (Y : Nat → Hp → V → Hp → Prop), Stp F H F' H' → Walk J ds.length Gd Y → (∀ H2, Ex F' H2 → Gd H2) →
    (∀ i H1 v H2 F1, i < ds.length → Ex F' F1 → Ex F1 H1 → Y i H1 v H2 → ∃ F2 d, ds[i]? = some d ∧ Stp F1 H1 F2 H2 ∧ Rep F2 d v) → R J H') → wi σ H R
theorem wi_list (h : EvP te Γ (.lst ds)) : WiP (iList K te) Γ ds := fun c F H σ G R k => h c F H σ G _ fun v F1 H1 S1 r1 => by
  obtain ⟨a, xs, rfl, ha, r⟩ := r1
  refine ⟨a, rfl, ⟨xs, .inl (.inl (S1.fh _ _ ha))⟩, k _ F1 H1 (fun H => SqL K H a xs) (YAt xs) S1 (r.length ▸ walk_list) (fun H2 e => .inl (.inl (e _ _ ha))) fun i H1' v H2 F2 hi x1 x2 y => ?_⟩
  obtain ⟨rfl, hv⟩ := y
  obtain ⟨d, hd, rd⟩ := r.get' hv
  exact ⟨F2, d, hd, .refl x2, rd.mono x1⟩
theorem wi_tup (h : EvP te Γ (.tup ds)) : WiP (iTup K te) Γ ds := fun c F H σ G R k => h c F H σ G _ fun v F1 H1 S1 r1 => by
  obtain ⟨a, xs, rfl, ha, r⟩ := r1
  refine ⟨a, rfl, ⟨xs, .inl (.inl (S1.fh _ _ ha))⟩, k _ F1 H1 (fun H => SqT K H a xs) (YAt xs) S1 (r.length ▸ walk_tup) (fun H2 e => .inl (.inl (e _ _ ha))) fun i H1' v H2 F2 hi x1 x2 y => ?_⟩
  obtain ⟨rfl, hv⟩ := y
  obtain ⟨d, hd, rd⟩ := r.get' hv
  exact ⟨F2, d, hd, .refl x2, rd.mono x1⟩
def rgD (lo : Int) (n : Nat) : List D := (List.range n).map fun (i : Nat) => D.int (lo + (i : Int))
theorem rgD_len {lo : Int} {n : Nat} : (rgD lo n).length = n := by simp [rgD]
theorem rgD_get {lo : Int} {n i : Nat} (h : i < n) : (rgD lo n)[i]? = some (.int (lo + (i : Nat))) := by simp [rgD, h]
theorem wi_rng1 {ta : TA} {n : Int} (h : EaP ta Γ [.int n]) (h1 : -(2 ^ 62) ≤ n) (h2 : n < 2 ^ 62) : WiP (iRng1 ta) Γ (rgD 0 n.toNat) := fun c F H σ G R k => h c F H σ G _ fun vs F1 H1 S1 r1 => by
  obtain ⟨v, _, rfl, rv, rfl⟩ := r1
  have rv' : v = .int n := rv
  subst rv'
  refine ⟨n, rfl, h1, h2, k _ F1 H1 (fun _ => True) (YFn fun i => .int (0 + i)) S1 (by rw [rgD_len]; exact walk_range) (fun _ _ => trivial) fun i H1' v H2 F2 hi x1 x2 y => ?_⟩
  obtain ⟨rfl, rfl⟩ := y
  rw [rgD_len] at hi
  exact ⟨F2, _, rgD_get hi, .refl x2, rfl⟩
theorem wi_rng2 {ta : TA} {m n : Int} (h : EaP ta Γ [.int m, .int n]) (hb : -(2 ^ 62) ≤ m ∧ m < 2 ^ 62 ∧ -(2 ^ 62) ≤ n ∧ n < 2 ^ 62) : WiP (iRng2 ta) Γ (rgD m (n - m).toNat) := fun c F H σ G R k => h c F H σ G _ fun vs F1 H1 S1 r1 => by
  obtain ⟨v, _, rfl, rv, v2, _, rfl, rv2, rfl⟩ := r1
  have rv' : v = .int m := rv
  have rv2' : v2 = .int n := rv2
  subst rv' rv2'
  refine ⟨m, n, rfl, hb, k _ F1 H1 (fun _ => True) (YFn fun i => .int (m + i)) S1 (by rw [rgD_len]; exact walk_range) (fun _ _ => trivial) fun i H1' v H2 F2 hi x1 x2 y => ?_⟩
  obtain ⟨rfl, rfl⟩ := y
  rw [rgD_len] at hi
  exact ⟨F2, _, rgD_get hi, .refl x2, rfl⟩
def enD (ds : List D) : List D := (List.range ds.length).map fun (i : Nat) => D.tup [.int (i : Int), ds.getD i .non]
theorem enD_len : (enD ds).length = ds.length := by simp [enD]
theorem wi_enum {ta : TA} (h : EaP ta Γ [.lst ds]) : WiP (iEnum K ta) Γ (enD ds) := fun c F H σ G R k => h c F H σ G _ fun vs F1 H1 S1 r1 => by
  obtain ⟨v, _, rfl, ⟨a, xs, rfl, ha, r⟩, rfl⟩ := r1
  refine ⟨a, xs, rfl, .inl (.inl (S1.fh _ _ ha)), k _ F1 H1 (fun H => SqL K H a xs) _ S1 (by rw [enD_len, ← r.length]; exact walk_enum) (fun H2 e => .inl (.inl (e _ _ ha))) fun i H1' v H2 F2 hi x1 x2 y => ?_⟩
  obtain ⟨T, p, q, rfl, hT, rfl, hp, hq⟩ := y
  obtain ⟨d, hd, rd⟩ := r.get' hq
  rw [enD_len] at hi
  refine ⟨_, .tup [.int (i : Nat), d], by simp [enD, hi]; exact (List.getElem?_eq_some_iff.mp hd).2, Stp.new x2 _ hT, T, _, rfl, upd_same, _, _, rfl, ?_, _, _, rfl, (rd.mono x1).mono (Stp.new x2 (HO.tup [p, q]) hT).f, rfl⟩
  exact (Option.some.inj hp).symm
def zpD : List D → List D → List D
  | x :: xs, y :: ys => .tup [x, y] :: zpD xs ys
  | _, _ => []
theorem zpD_len : ∀ {xs ys : List D}, (zpD xs ys).length = min xs.length ys.length
  | [], _ => by simp [zpD]
  | _ :: _, [] => by simp [zpD]
  | _ :: xs, _ :: ys => by simp only [zpD, List.length_cons, zpD_len (xs := xs) (ys := ys)]; omega
theorem zpD_get : ∀ {xs ys : List D} {i : Nat} {x y : D}, xs[i]? = some x → ys[i]? = some y → (zpD xs ys)[i]? = some (.tup [x, y])
  | [], _, _, _, _, h, _ => by simp at h
  | _ :: _, [], _, _, _, _, h => by simp at h
  | _ :: _, _ :: _, 0, _, _, h, h2 => by simp at h h2; subst h h2; rfl
  | _ :: xs, _ :: ys, i + 1, _, _, h, h2 => by simpa [zpD] using zpD_get (xs := xs) (ys := ys) (i := i) (by simpa using h) (by simpa using h2)
theorem wi_zip {ta : TA} (h : EaP ta Γ [.lst ds, .lst es]) : WiP (iZip K ta) Γ (zpD ds es) := fun c F H σ G R k => h c F H σ G _ fun vs F1 H1 S1 r1 => by
  obtain ⟨v, _, rfl, ⟨a, xs, rfl, ha, r⟩, v2, _, rfl, ⟨b, ys, rfl, hb, r2⟩, rfl⟩ := r1
  refine ⟨a, b, xs, ys, rfl, .inl (.inl (S1.fh _ _ ha)), .inl (.inl (S1.fh _ _ hb)), k _ F1 H1 (fun H => SqL K H a xs ∧ SqL K H b ys) _ S1 (walk_zip (by rw [zpD_len, r.length, r2.length])) (fun H2 e => ⟨.inl (.inl (e _ _ ha)), .inl (.inl (e _ _ hb))⟩) fun i H1' v H2 F2 hi x1 x2 y => ?_⟩
  obtain ⟨T, p, q, rfl, hT, rfl, hp, hq⟩ := y
  obtain ⟨d, hd, rd⟩ := r.get' hp
  obtain ⟨d2, hd2, rd2⟩ := r2.get' hq
  exact ⟨_, _, zpD_get hd hd2, Stp.new x2 _ hT, T, _, rfl, upd_same, _, _, rfl, (rd.mono x1).mono (Stp.new x2 (HO.tup [p, q]) hT).f, _, _, rfl, (rd2.mono x1).mono (Stp.new x2 (HO.tup [p, q]) hT).f, rfl⟩
/-- for .. in ..: I by the turn and the slots -/
theorem sw_for {wi : TI} (I : Nat → List En → Prop) (h : WiP wi Γ ds) (h0 : I 0 Γ) (hs : ∀ i d Γi, ds[i]? = some d → I i Γi → ∃ Γ', GtP g d Γi Γ' ∧ SW t Γ' ⟨I (i + 1), P.rt, P.nx, I (i + 1)⟩) (hd : ∀ Γ', I ds.length Γ' → P.nx Γ') :
    SW (tFor wi g t) Γ P := fun c F H σ G D a b e f => h c F H σ G _ fun J F1 H1 Gd Y S w hG hY => by
  refine for_it w (fun i σ' H' => ∃ Γi F', I i Γi ∧ Good c F' H' σ' Γi ∧ Ex F1 F') ⟨Γ, F1, h0, G.step S, Ex.refl _⟩ (fun i σ' H' _ ⟨_, _, _, G', x⟩ => hG _ (x.trans G'.fh)) ?_ ?_
  · rintro i v σ1 H2 H3 hi ⟨Γi, F2, p, G2, x2⟩ y
    obtain ⟨F3, d, hd', S3, r3⟩ := hY i H2 v H3 F2 hi x2 G2.fh y
    obtain ⟨Γ', hg, hb⟩ := hs i d Γi hd' p
    refine hg c F3 H3 σ1 v (G2.step S3) r3 _ fun σ2 G3 => ?_
    exact hb c F3 H3 σ2 G3 _ (fun Γ'' F' H' σ' q G' x => ⟨Γ'', F', q, G', (x2.trans S3.f).trans x⟩) (fun v d Γ'' F' H' σ' q G' x => b v d Γ'' F' H' σ' q G' ((S.f.trans (x2.trans S3.f)).trans x))
      (fun Γ'' F' H' σ' q G' x => a Γ'' F' H' σ' q G' ((S.f.trans (x2.trans S3.f)).trans x)) (fun Γ'' F' H' σ' q G' x => ⟨Γ'', F', q, G', (x2.trans S3.f).trans x⟩)
  · rintro σ1 H2 ⟨Γi, F2, p, G2, x2⟩
    exact a Γi F2 H2 σ1 (hd _ p) G2 (S.f.trans x2)
/-- while: I by the slots, μ falls -/
theorem sw_while (I : Nat → List En → Prop) (m0 : Nat) (h0 : I m0 Γ) (hs : ∀ m Γi, I m Γi → ∃ b, EtP tt Γi b ∧ (b = true → SW t Γi ⟨fun Γ' => ∃ m', m' < m ∧ I m' Γ', P.rt, P.nx, fun Γ' => ∃ m', m' < m ∧ I m' Γ'⟩) ∧ (b = false → P.nx Γi)) :
    SW (tWhile tt t) Γ P := fun c F H σ G D a b e f => by
  refine ⟨fun m σ' H' => ∃ Γi F', I m Γi ∧ Good c F' H' σ' Γi ∧ Ex F F', ⟨m0, Γ, F, h0, G, Ex.refl _⟩, ?_⟩
  rintro m σ1 H1 ⟨Γi, F1, p, G1, x1⟩
  obtain ⟨v, ht, h1, h2⟩ := hs m Γi p
  refine ht c F1 H1 σ1 G1 _ fun F2 H2 S => ?_
  cases v with
  | true =>
    rw [if_pos rfl]
    refine ⟨fun σ' H' => ∃ Γ' F', (∃ m', m' < m ∧ I m' Γ') ∧ Good c F' H' σ' Γ' ∧ Ex F F', fun σ' H' ⟨Γ', F', ⟨m', hm, q⟩, G', x⟩ => ⟨m', hm, Γ', F', q, G', x⟩, ?_⟩
    exact h1 rfl c F2 H2 σ1 (G1.step S) _ (fun Γ'' F' H' σ' q G' x => ⟨Γ'', F', q, G', (x1.trans S.f).trans x⟩) (fun v d Γ'' F' H' σ' q G' x => b v d Γ'' F' H' σ' q G' ((x1.trans S.f).trans x))
      (fun Γ'' F' H' σ' q G' x => a Γ'' F' H' σ' q G' ((x1.trans S.f).trans x)) (fun Γ'' F' H' σ' q G' x => ⟨Γ'', F', q, G', (x1.trans S.f).trans x⟩)
  | false =>
    rw [if_neg Bool.false_ne_true]
    exact a Γi F2 H2 σ1 (h2 rfl) (G1.step S) (x1.trans S.f)
end
end DL
set_option Elab.async false
set_option linter.all false
set_option maxRecDepth 100000
set_option maxHeartbeats 4000000
/-! DL4: comprehensions, calls, a def. -/
namespace DL
open PySem PySem.Spec PyProof.Rows L2
/-! ### comprehensions -/
theorem wipe_at (σ : L2.St) : ∀ (vs : List Nat) (j : Nat), (wipe σ vs)[j]? = if j ∈ vs then σ[j]?.map (fun _ => none) else σ[j]?
  | [], j => by simp [wipe]
  | v :: vs, j => by
    unfold wipe
    by_cases z : v = j
    · subst z
      rw [List.getElem?_set]
      simp [wipe_length]
      split <;> rename_i h <;> simp [h]
    · rw [List.getElem?_set_ne z, wipe_at σ vs j]
      have e : (j ∈ v :: vs) ↔ j ∈ vs := by simp [Ne.symm z]
      simp [e]
theorem wipe_eq {σ τ : L2.St} {vs : List Nat} (h : ∀ j, j ∉ vs → τ[j]? = σ[j]?) (hl : τ.length = σ.length) : wipe τ vs = wipe σ vs := by
  apply List.ext_getElem?
  intro j
  rw [wipe_at, wipe_at]
  by_cases z : j ∈ vs
  · simp only [if_pos z]
    by_cases q : j < σ.length
    · rw [List.getElem?_eq_getElem q, List.getElem?_eq_getElem (hl ▸ q)]; rfl
    · rw [List.getElem?_eq_none (by omega), List.getElem?_eq_none (by omega)]
  · simp only [if_neg z]; exact h j z
def wipG (Γ : List En) : List Nat → List En
  | [] => Γ
  | v :: vs => (wipG Γ vs).set v .un
theorem Good.wip {c : Ct} {F H : Hp} {σ : L2.St} {Γ : List En} (G : Good c F H σ Γ) : ∀ vs : List Nat, Good c F H (wipe σ vs) (wipG Γ vs)
  | [] => G
  | v :: vs => (G.wip vs).setUn
/-- a target that binds the comprehension's own names vs -/
def GtV (g : TG) (d : D) (vs : List Nat) (Γ Γ' : List En) : Prop := ∀ c F H σ v, Good c F H σ Γ → Rep F d v → ∀ Q : L2.St → Hp → Prop, (∀ σ', Good c F H σ' Γ' → (∀ j, j ∉ vs → σ'[j]? = σ[j]?) → σ'.length = σ.length → Q σ' H) → g v σ H Q
section
variable {K : PySem.W.Frag} {Γ Γ' : List En} {te ta tb : TE} {tt tu : TT} {t u w : TS} {d x y z : D} {ds es : List D} {R R' : D → List En → Prop} {P : Po} {g : TG}
theorem gv_name {i : Nat} {vs : List Nat} (hi : i ∈ vs) : GtV (gName i) d vs Γ (Γ.set i (.sh d)) := fun c F H σ v G r Q k => k _ (G.setSh r) (fun j hj => List.getElem?_set_ne fun (z : i = j) => hj (z ▸ hi)) (List.length_set ..)
theorem gv_tup2 {i j : Nat} {vs : List Nat} (hi : i ∈ vs) (hj : j ∈ vs) : GtV (gTup K 2 (gCons (gName i) (gCons (gName j) gNil))) (.tup [x, y]) vs Γ ((Γ.set i (.sh x)).set j (.sh y)) := fun c F H σ v G r Q k => by
  obtain ⟨a, xs, rfl, ha, u1, r1, rfl, h1, u2, r2, rfl, h2, rfl⟩ := r
  refine ⟨a, [u1, u2], rfl, .inl (.inl (G.exH ha)), rfl, u1, [u2], rfl, u2, [], rfl, rfl, k _ ((G.setSh h1).setSh h2) (fun l hl => ?_) (by rw [List.length_set, List.length_set])⟩
  rw [List.getElem?_set_ne fun (z : j = l) => hl (z ▸ hj), List.getElem?_set_ne fun (z : i = l) => hl (z ▸ hi)]
theorem filterMap_snoc {α β : Type} (f : α → Option β) {xs : List α} {i : Nat} {x : α} (h : xs[i]? = some x) : (xs.take (i + 1)).filterMap f = (xs.take i).filterMap f ++ (f x).toList := by
  have hi := (List.getElem?_eq_some_iff.mp h).1
  have e : xs.take (i + 1) = xs.take i ++ [x] := by
    rw [List.take_succ, h]; rfl
  rw [e, List.filterMap_append]
  cases q : f x <;> simp [q]
/-- [te for g in wi if tt], pure -/
theorem ef_lc {α : Type} {wi : TI} {vs : List Nat} (xs : List α) (f : α → D) (o : α → Option D) (h : WiP wi Γ (xs.map f)) (hl : xs.length < sizeLine)
    (hs : ∀ x ∈ xs, ∃ Γ', GtV g (f x) vs (wipG Γ vs) Γ' ∧ EtP tt Γ' (o x).isSome ∧ ∀ e, o x = some e → EvP te Γ' e) : EvF (tLc wi g tt te vs) Γ (xs.filterMap o) := fun c F H σ G Q k => h c F H σ G _ fun J F1 H1 Gd Y S w hG hY => by
  intro Dl nD
  have nF1 : F1 Dl = none := by
    cases q : F1 Dl with
    | none => rfl
    | some u => rw [S.fh _ _ q] at nD; cases nD
  rw [List.length_map] at w
  have G1 := G.step S
  have fD : ∀ {F2 H2 F3 H3 : Hp} {u : HO}, Stp F2 H2 F3 H3 → F2 Dl = none → H2 Dl = some u → F3 Dl = none := fun {F2 H2 F3 H3 u} S2 hf he => by
    cases q : F3 Dl with
    | none => rfl
    | some v =>
      rcases S2.nw Dl (by rw [q]; exact Option.some_ne_none _) with z | z
      · exact absurd hf z
      · rw [he] at z; cases z
  refine lc_it w (fun i H2 => ∃ F2 acc, Stp F1 H1 F2 H2 ∧ F2 Dl = none ∧ H2 Dl = some (.lst acc) ∧ Reps F2 ((xs.take i).filterMap o) acc) ⟨F1, [], .loose S.fh _ nD, nF1, upd_same, rfl⟩ (fun i H2 _ ⟨F2, acc, S2, _⟩ => hG _ (S2.f.trans S2.fh)) ?_ ?_
  · rintro i v H2 H3 hi ⟨F2, acc, S2, f2, e2, r2⟩ y
    obtain ⟨F3, d, hd, S3, r3⟩ := hY i H2 v H3 F2 (by rw [List.length_map]; exact hi) S2.f S2.fh y
    have hx : xs[i]? = some xs[i] := List.getElem?_eq_getElem hi
    have ed : d = f xs[i] := by
      rw [List.getElem?_map, hx] at hd
      exact (Option.some.inj hd).symm
    subst ed
    obtain ⟨Γ', hg, ht, he⟩ := hs _ (List.getElem_mem hi)
    have S23 := S2.trans S3
    refine hg c F3 H3 _ v ((G1.step S23).wip vs) r3 _ fun σ2 G3 q1 q2 => ⟨?_, ?_⟩
    · refine wipe_eq (fun j hj => ?_) ?_
      · rw [q1 j hj, wipe_at, if_neg hj]
      · rw [q2, wipe_length]
    · refine ht c F3 H3 σ2 G3 _ fun F4 H4 S4 => ?_
      have f3 := fD S3 f2 e2
      have e3 := S3.h _ _ e2
      have f4 := fD S4 f3 e3
      have e4 := S4.h _ _ e3
      cases q : o xs[i] with
      | none =>
        rw [Option.isSome_none, if_neg Bool.false_ne_true]
        refine ⟨F4, acc, S23.trans S4, f4, e4, ?_⟩
        rw [filterMap_snoc o hx, q]
        exact ((r2.mono S3.f).mono S4.f).append (ds := _) (es := []) rfl |> fun z => by simpa using z
      | some e =>
        rw [Option.isSome_some, if_pos rfl]
        refine he e q c F4 H4 σ2 (G3.step S4) _ fun u F5 H5 S5 r5 => ?_
        have f5 := fD S5 f4 e4
        have e5 := S5.h _ _ e4
        have hz : acc.length < sizeLine := by
          rw [r2.length]
          refine Nat.lt_of_le_of_lt (List.length_filterMap_le ..) ?_
          rw [List.length_take]
          omega
        have S5' := (S23.trans S4).trans S5
        refine ⟨acc, e5, hz, F5, acc ++ [u], ⟨S5'.f, fun a w q => ?_, fun a w q => ?_, S5'.nw⟩, f5, upd_same, ?_⟩
        · have na : a ≠ Dl := fun z => by subst z; rw [nD] at q; cases q
          rw [upd_ne na]; exact S5'.h _ _ q
        · have na : a ≠ Dl := fun z => by subst z; rw [f5] at q; cases q
          rw [upd_ne na]; exact S5'.fh _ _ q
        · rw [filterMap_snoc o hx, q]
          exact (((r2.mono S3.f).mono S4.f).mono S5.f).append (.one r5)
  · rintro H2 ⟨F2, acc, S2, f2, e2, r2⟩
    rw [List.take_length] at r2
    refine k Dl acc F2 H2 (S.trans S2) ?_ f2 e2 r2
    cases q : H Dl with
    | none => rfl
    | some u => rw [S.h _ _ q] at nD; cases nD
theorem ef_map {α : Type} {wi : TI} {vs : List Nat} (xs : List α) (f : α → D) (o : α → D) (h : WiP wi Γ (xs.map f)) (hl : xs.length < sizeLine)
    (hs : ∀ x ∈ xs, ∃ Γ', GtV g (f x) vs (wipG Γ vs) Γ' ∧ EvP te Γ' (o x)) : EvF (tLc wi g tYes te vs) Γ (xs.map o) := by
  have q := ef_lc (tt := tYes) xs f (fun x => some (o x)) h hl (te := te) (g := g) (vs := vs) fun x hx => by
    obtain ⟨Γ', h1, h2⟩ := hs x hx
    exact ⟨Γ', h1, et_yes, fun e z => by cases z; exact h2⟩
  rwa [List.filterMap_eq_map'] at q
/-! ### calls -/
abbrev Cn := List En → (D → List En → Prop) → Prop
def argOk : List En → Prop
  | [] => True
  | .sh _ :: r => argOk r
  | .lent _ :: r => argOk r
  | _ :: _ => False
/-- a def's promise, by data -/
def spE (C : Cn) : Sp := fun vs H Q _ => ∃ c F Γ R, Good c F H (vs.map some) Γ ∧ argOk Γ ∧ C Γ R ∧ ∀ v d Γ' F' H', R d Γ' → Good c F' H' (vs.map some) Γ' → Ex F F' → Rep F' d v → Q v H'
theorem reps_slots {F : Hp} : ∀ {es : List D} {vs : List V}, Reps F es vs → ∀ (i : Nat) (e : En), (es.map En.sh)[i]? = some e → ∃ d v, e = .sh d ∧ (vs.map some)[i]? = some (some v) ∧ Rep F d v
  | [], _, _, i, e, h => by simp at h
  | _ :: _, _, ⟨v, r, h1, h2, h3⟩, 0, e, h => by cases h1; simp at h; exact ⟨_, v, h.symm, rfl, h2⟩
  | _ :: _, _, ⟨v, r, h1, h2, h3⟩, i + 1, e, h => by
    cases h1
    obtain ⟨d, u, q1, q2, q3⟩ := reps_slots h3 i e (by simpa using h)
    exact ⟨d, u, q1, by simpa using q2, q3⟩
theorem good_args {F H : Hp} {es : List D} {vs : List V} (x : Ex F H) (r : Reps F es vs) : Good ⟨F, H, fun _ => none⟩ F H (vs.map some) (es.map .sh) where
  ff := Ex.refl _
  fh := x
  hh := fun _ _ e _ => e
  li := fun a ⟨_, e⟩ => by cases e
  nw := fun _ e => .inl e
  len := by rw [List.length_map, List.length_map, r.length]
  en := fun i e he => by
    obtain ⟨d, v, rfl, h2, h3⟩ := reps_slots r i e he
    exact ⟨_, h2, v, rfl, h3⟩
  dj := fun i j a e e' h1 h2 m1 => by
    obtain ⟨d, v, rfl, _, _⟩ := reps_slots r i e h1
    cases m1
theorem argOk_sh : ∀ es : List D, argOk (es.map En.sh)
  | [] => trivial
  | _ :: es => argOk_sh es
/-- a call of a def that changes none of its arguments -/
theorem ep_call {C : Cn} {ta : TA} (ha : EaP ta Γ es) (hc : C (es.map .sh) R) (hR : ∀ e Γ', R e Γ' → e = z) : EvP (tCall (spE C) [] E0 ta) Γ z := fun c F H σ G Q k => ha c F H σ G _ fun vs F1 H1 S1 r1 => by
  show spE C (vs ++ []) H1 Q E0
  rw [List.append_nil]
  refine ⟨_, F1, _, R, good_args S1.fh r1, argOk_sh es, hc, fun v d Γ' F' H' hr G' x r => ?_⟩
  have e := hR d Γ' hr
  subst e
  exact k v F' H' (S1.trans ⟨x, fun a o q => G'.hh a o q (fun ⟨_, z⟩ => by cases z), G'.fh, G'.nw⟩) r
theorem ew_callP {C : Cn} {ta : TA} (ha : EaP ta Γ es) (hc : C (es.map .sh) R') (hR : ∀ e Γ', R' e Γ' → R e Γ) : EvW (tCall (spE C) [] E0 ta) Γ R := fun c F H σ G Q k => ha c F H σ G _ fun vs F1 H1 S1 r1 => by
  show spE C (vs ++ []) H1 Q E0
  rw [List.append_nil]
  refine ⟨_, F1, _, R', good_args S1.fh r1, argOk_sh es, hc, fun v d Γ' F' H' hr G' x r => ?_⟩
  have S2 : Stp F1 H1 F' H' := ⟨x, fun a o q => G'.hh a o q (fun ⟨_, z⟩ => by cases z), G'.fh, G'.nw⟩
  exact k v d Γ F' H' (hR d Γ' hr) (G.step (S1.trans S2)) (S1.trans S2).f (Fr.stp (S1.trans S2)) r
/-- a call whose first argument is a mutable list of slot i, lent -/
theorem ew_call1 {C : Cn} {ta : TA} {i : Nat} (hm : Mt Γ i ds) (ha : EaP ta Γ es) (hc : C (.lent ds :: es.map .sh) R') (hR : ∀ e Γ', R' e Γ' → ∃ ds', Γ'[0]? = some (.lent ds') ∧ R e (pt Γ i ds')) : EvW (tCall (spE C) [] E0 (tCons (tVar i) ta)) Γ R := fun c F H σ G Q k => by
  obtain ⟨a, xs, e0, h1, h2, h3, h4, h5, h6⟩ := G.mt hm
  refine ⟨_, h1, ha c F H σ G _ fun vs F1 H1 S1 r1 => ?_⟩
  show spE C ((.ref a :: vs) ++ []) H1 Q E0
  rw [List.append_nil]
  have G1 := G.step S1
  have f1 : F1 a = none := by
    obtain ⟨a', xs', e', k1, k2, k3, k4, _⟩ := G1.mt hm
    rw [h1] at k1; cases k1; exact k4
  have e1 := S1.h _ _ h2
  have Ga := good_args S1.fh r1
  have Gc : Good ⟨F1, H1, fun j => if j = 0 then some a else none⟩ F1 H1 ((V.ref a :: vs).map some) (.lent ds :: es.map .sh) := by
    refine ⟨Ex.refl _, S1.fh, fun _ _ e _ => e, fun b ⟨j, e⟩ => ?_, fun _ e => .inl e, by simp [r1.length], fun j e he => ?_, fun p q x e e' k1 k2 m1 m2 k3 k4 => ?_⟩
    · dsimp only at e
      by_cases z : j = 0
      · rw [if_pos z] at e; cases e; exact ⟨_, e1⟩
      · rw [if_neg z] at e; cases e
    · cases j with
      | zero => simp at he; subst he; exact ⟨some (.ref a), rfl, a, xs, rfl, f1, e1, h3.mono S1.f, (if_pos rfl : (if (0 : Nat) = 0 then some a else none) = some a)⟩
      | succ j =>
        obtain ⟨d, v, rfl, q1, q2⟩ := reps_slots r1 j e (by simpa using he)
        exact ⟨some v, by simpa using q1, v, rfl, q2⟩
    · have f : ∀ {j : Nat} {e : En}, (En.lent ds :: es.map En.sh)[j]? = some e → e.mut = true → j = 0 := fun {j e} he m => by
        cases j with
        | zero => rfl
        | succ j =>
          obtain ⟨d, v, rfl, _, _⟩ := reps_slots r1 j e (by simpa using he)
          cases m
      rw [f k1 m1, f k2 m2]
  refine ⟨_, F1, _, R', Gc, argOk_sh es, hc, fun v d Γ' F' H' hr G' x r => ?_⟩
  obtain ⟨ds', hl, hr'⟩ := hR d Γ' hr
  obtain ⟨b, ys, q1, q2, q3, q4, q5⟩ := G'.lent hl
  have eb : b = a := by simpa using q1.symm
  subst eb
  have m1 : Mt Γ i ds := hm
  -- the rest of the step first, then the list changes
  have S2 : Stp F1 H1 F' (upd H' b (.lst xs)) := by
    refine ⟨x, fun p o q => ?_, fun p o q => ?_, G'.nw⟩
    · by_cases z : p = b
      · subst z; rw [e1] at q; cases q; exact upd_same
      · rw [upd_ne z]
        exact G'.hh p o q fun ⟨j, e⟩ => by
          dsimp only at e
          by_cases w : j = 0
          · rw [if_pos w] at e; cases e; exact z rfl
          · rw [if_neg w] at e; cases e
    · have np : p ≠ b := fun z => by subst z; rw [q2] at q; cases q
      rw [upd_ne np]; exact G'.fh p o q
  have G3 := (G1.step S2).pt m1 h1 q4
  have eH : upd (upd H' b (.lst xs)) b (.lst ys) = H' := by
    rw [upd_upd]
    funext p
    by_cases z : p = b
    · subst z; rw [upd_same, q3]
    · rw [upd_ne z]
  rw [eH] at G3
  refine k v d _ F' H' hr' G3 (S1.f.trans x) (fun p o e n => ?_) r
  have np : p ≠ b := fun z => by
    subst z
    rcases hm with hm | hm
    · exact n i _ hm rfl h1
    · exact n i _ hm rfl h1
  obtain ⟨t1, t2, t3⟩ := Fr.stp (S1.trans S2) p o e n
  rw [upd_ne np] at t1
  refine ⟨t1, t2, fun j e' he m q => ?_⟩
  unfold pt at he
  by_cases z : i = j
  · subst z; rw [h1] at q; cases q; exact np rfl
  · rw [List.getElem?_set_ne z] at he; exact n j e' he m q
end
end DL
set_option Elab.async false
set_option linter.all false
set_option maxRecDepth 100000
set_option maxHeartbeats 4000000
/-! DL5: a def. -/
namespace DL
open PySem PySem.Spec PyProof.Rows L2
/-- the arguments' entries behind the def: the lent ones as they are now -/
def outG : List En → List En → List En
  | [], _ => []
  | .lent ds :: r, Γ' => (Γ'.headD .un) :: outG r Γ'.tail
  | e :: r, Γ' => e :: outG r Γ'.tail
def lentOk : List En → List En → Prop
  | [], _ => True
  | .lent _ :: r, .lent _ :: r' => lentOk r r'
  | .lent _ :: _, _ => False
  | _ :: r, _ :: r' => lentOk r r'
  | _ :: r, [] => False
theorem outG_len : ∀ {Γ Γ' : List En}, (outG Γ Γ').length = Γ.length
  | [], _ => rfl
  | .un :: r, Γ' => by simp [outG, outG_len (Γ := r)]
  | .sh _ :: r, Γ' => by simp [outG, outG_len (Γ := r)]
  | .own _ :: r, Γ' => by simp [outG, outG_len (Γ := r)]
  | .lent _ :: r, Γ' => by simp [outG, outG_len (Γ := r)]
theorem outG_get : ∀ {Γ Γ' : List En} {i : Nat} {e : En}, argOk Γ → lentOk Γ Γ' → (outG Γ Γ')[i]? = some e → (∃ d, e = .sh d ∧ Γ[i]? = some (.sh d)) ∨ (∃ ds ds', e = .lent ds' ∧ Γ[i]? = some (.lent ds) ∧ Γ'[i]? = some (.lent ds'))
  | [], _, _, _, _, _, h => by simp [outG] at h
  | .sh d :: r, [], _, _, _, l, _ => by simp [lentOk] at l
  | .sh d :: r, _ :: r', 0, e, _, _, h => by simp [outG] at h; exact .inl ⟨d, h.symm, rfl⟩
  | .sh d :: r, _ :: r', i + 1, e, a, l, h => by
    have q := outG_get (Γ := r) (Γ' := r') (i := i) (e := e) (by simpa [argOk] using a) (by simpa [lentOk] using l) (by simpa [outG] using h)
    simpa using q
  | .lent d :: r, .lent d' :: r', 0, e, _, _, h => by simp [outG] at h; exact .inr ⟨d, d', h.symm, rfl, rfl⟩
  | .lent d :: r, .lent d' :: r', i + 1, e, a, l, h => by
    have q := outG_get (Γ := r) (Γ' := r') (i := i) (e := e) (by simpa [argOk] using a) (by simpa [lentOk] using l) (by simpa [outG] using h)
    simpa using q
  | .lent d :: r, [], _, _, _, l, _ => by simp [lentOk] at l
  | .lent d :: r, .un :: _, _, _, _, l, _ => by simp [lentOk] at l
  | .lent d :: r, .sh _ :: _, _, _, _, l, _ => by simp [lentOk] at l
  | .lent d :: r, .own _ :: _, _, _, _, l, _ => by simp [lentOk] at l
  | .un :: _, _, _, _, a, _, _ => by simp [argOk] at a
  | .own _ :: _, _, _, _, a, _, _ => by simp [argOk] at a
section
variable {c : Ct} {F F' H H' : Hp} {σ : L2.St} {Γ Γ' : List En}
theorem Good.start (G : Good c F H σ Γ) (n : Nat) : Good c F H (σ ++ List.replicate n none) (Γ ++ List.replicate n .un) where
  ff := G.ff
  fh := G.fh
  hh := G.hh
  li := G.li
  nw := G.nw
  len := by simp [G.len]
  en := fun i e he => by
    by_cases z : i < Γ.length
    · rw [List.getElem?_append_left z] at he
      obtain ⟨o, h1, h2⟩ := G.en i e he
      exact ⟨o, by rw [List.getElem?_append_left (by rw [G.len]; exact z)]; exact h1, h2⟩
    · have hi : i < Γ.length + n := by
        have := (List.getElem?_eq_some_iff.mp he).1
        simpa using this
      rw [List.getElem?_append_right (by omega), List.getElem?_replicate, if_pos (by omega)] at he
      cases he
      exact ⟨none, by rw [List.getElem?_append_right (by rw [G.len]; omega), List.getElem?_replicate, if_pos (by rw [G.len]; omega)], trivial⟩
  dj := fun i j a e e' h1 h2 m1 m2 h3 h4 => by
    have f : ∀ {j : Nat} {e : En}, (Γ ++ List.replicate n En.un)[j]? = some e → e.mut = true → j < Γ.length := fun {j e} he m => by
      by_cases z : j < Γ.length
      · exact z
      · have hi : j < Γ.length + n := by
          have := (List.getElem?_eq_some_iff.mp he).1
          simpa using this
        rw [List.getElem?_append_right (by omega), List.getElem?_replicate, if_pos (by omega)] at he
        cases he; cases m
    have z1 := f h1 m1
    have z2 := f h2 m2
    rw [List.getElem?_append_left z1] at h1
    rw [List.getElem?_append_left z2] at h2
    rw [List.getElem?_append_left (by rw [G.len]; exact z1)] at h3
    rw [List.getElem?_append_left (by rw [G.len]; exact z2)] at h4
    exact G.dj i j a e e' h1 h2 m1 m2 h3 h4
/-- behind the def: the arguments again -/
theorem Good.back (G : Good c F H σ Γ) {σ' : L2.St} (G' : Good c F' H' σ' Γ') (x : Ex F F') (a : argOk Γ) (l : lentOk Γ Γ') : Good c F' H' σ (outG Γ Γ') where
  ff := G'.ff
  fh := G'.fh
  hh := G'.hh
  li := G'.li
  nw := G'.nw
  len := by rw [outG_len]; exact G.len
  en := fun i e he => by
    rcases outG_get a l he with ⟨d, rfl, h1⟩ | ⟨ds, ds', rfl, h1, h2⟩
    · obtain ⟨v, e1, r⟩ := G.sh h1
      exact ⟨some v, e1, v, rfl, r.mono x⟩
    · obtain ⟨p, xs, e1, _, _, _, e2⟩ := G.lent h1
      obtain ⟨q, ys, k1, k2, k3, k4, k5⟩ := G'.lent h2
      rw [e2] at k5
      cases k5
      exact ⟨some (.ref p), e1, p, ys, rfl, k2, k3, k4, e2⟩
  dj := fun i j p e e' h1 h2 m1 m2 h3 h4 => by
    rcases outG_get a l h1 with ⟨d, rfl, _⟩ | ⟨ds, ds', rfl, k1, _⟩
    · cases m1
    · rcases outG_get a l h2 with ⟨d, rfl, _⟩ | ⟨es, es', rfl, k2, _⟩
      · cases m2
      · exact G.dj i j p _ _ k1 k2 rfl rfl h3 h4
end
section
variable {P : Program} {w : World} {K : PySem.W.Frag} {mg : Str → Option Value} {base : Heap} {x qual : Str} {params : Arguments} {body : List Stmt} {scope : Scope} {f : Addr} {fd : FuncData} {N ps : List Str} {k : Nat} {C : Cn}
/-- THE RULE for a def over data: its reading t and, for each Γ and R that the contract allows, the run of t -/
theorem fn_ok (F : FunD K x qual params body scope [] [] f fd) (S : FnScope N ps scope) (hlen : ∀ Γ R, C Γ R → Γ.length = ps.length)
    (hb : ∀ (cdv : Value) (A : Around) (outer : List Env) (s : Shared) (H : Hp) (E : XK), Room k (A.deeper (envOfC qual scope s.heap.objs.size f cdv)) →
      ∃ t, PSs (cxOf CX0 P w K mg base N qual scope f cdv A outer s H E).nox body t ∧
        ∀ Γ R, C Γ R → argOk Γ → SW t (Γ ++ List.replicate (N.length - ps.length) .un) ⟨fun Γ' => R .non (outG Γ Γ') ∧ lentOk Γ Γ', fun d Γ' => R d (outG Γ Γ') ∧ lentOk Γ Γ', fun _ => False, fun _ => False⟩) :
    FnOk P w K mg base CX0 (k + 1) f fd ps (spE C) := by
  have ln : ∀ vs H Q E, spE C vs H Q E → vs.length = ps.length := fun vs H Q E ⟨c, F, Γ, R, G, a, hC, q⟩ => by
    have e := G.len
    rw [List.length_map] at e
    rw [e, hlen _ _ hC]
  refine F.ok S ln fun cdv A outer s H vs Q E hr h => ?_
  obtain ⟨t, h1, h2⟩ := hb cdv A outer s H E hr
  refine ⟨t, PSs.nox h1, ?_⟩
  have lv := ln vs H Q E h
  obtain ⟨c, F0, Γ, R, G, a, hC, q⟩ := h
  show t _ (vs.map some ++ List.replicate (N.length - vs.length) none) H
  rw [lv]
  refine h2 Γ R hC a c F0 H _ (G.start _) _ (fun Γ' F' H' σ' p G' x => ?_) (fun v d Γ' F' H' σ' p G' x r => ?_) (fun _ _ _ _ z => z.elim) (fun _ _ _ _ z => z.elim)
  · exact q .non .non _ F' H' p.1 (G.back G' x a p.2) x rfl
  · exact q v d _ F' H' p.1 (G.back G' x a p.2) x r
end
end DL
set_option Elab.async false
set_option linter.all false
set_option maxRecDepth 100000
set_option maxHeartbeats 4000000
/-! DL6: operations in the forms that unify. -/
namespace DL
open PySem PySem.Spec PyProof.Rows L2
def CPowW (i j : Int) : Prop := 0 ≤ j ∧ (Builtin.Int.intBits i : Int) * j ≤ 2 ^ 27
theorem op_powW {X : Cx} : OpR X (binaryOp .Pow) (rI CPowW fun i j => .int (i ^ j.toNat)) := opI fun _ _ _ _ _ _ _ hc q => pow_int hc.1 hc.2 q
section
variable {K : PySem.W.Frag} {Γ Γ' : List En} {te ta tb : TE} {tt tu : TT} {t u w : TS} {d x y z : D} {ds es : List D} {R : D → List En → Prop} {P : Po} {g : TG}
theorem rd_I0i {g : Int → Int → Int} {i j : Int} : RD (rI0 fun i j => .int (g i j)) (.int i) (.int j) (.int (g i j)) := rd_I0 fun _ => rfl
theorem rd_I0b {g : Int → Int → Bool} {i j : Int} : RD (rI0 fun i j => .bl (g i j)) (.int i) (.int j) (.bl (g i j)) := rd_I0 fun _ => rfl
theorem rd_Ii {C : Int → Int → Prop} {g : Int → Int → Int} {i j : Int} (h : C i j) : RD (rI C fun i j => .int (g i j)) (.int i) (.int j) (.int (g i j)) := rd_I h fun _ => rfl
theorem rd_eqI {i j : Int} : RD rEq (.int i) (.int j) (.bl (decide (i = j))) := rd_eq rfl rfl rfl (by by_cases h : i = j <;> simp [h])
theorem rd_neI {i j : Int} : RD rNe (.int i) (.int j) (.bl (!decide (i = j))) := rd_ne rfl rfl rfl (by by_cases h : i = j <;> simp [h])
theorem rd_eqS {i j : Str} : RD rEq (.str i) (.str j) (.bl (decide (i = j))) := rd_eq rfl rfl rfl (by by_cases h : i = j <;> simp [h])
theorem rd_neS {i j : Str} : RD rNe (.str i) (.str j) (.bl (!decide (i = j))) := rd_ne rfl rfl rfl (by by_cases h : i = j <;> simp [h])
/-- an if that leaves -/
theorem sw_guard {b : Bool} (h : EtP tt Γ b) (h1 : b = true → SW t Γ ⟨fun _ => False, P.rt, P.bk, P.ct⟩) (h2 : b = false → SW u Γ P) : SW (tSeq (tIfS tt t tNext) u) Γ P := by
  refine sw_seq (fun G' => b = false ∧ G' = Γ) (sw_if h (fun e => (h1 e).imp (fun _ z => z.elim) (fun _ _ z => z) (fun _ z => z) (fun _ z => z)) fun e => sw_next ⟨e, rfl⟩) ?_
  rintro _ ⟨e, rfl⟩
  exact h2 e
theorem sw_guardW {Rb : Bool → List En → Prop} (h : EtW tt Γ Rb) (h1 : ∀ Γ', Rb true Γ' → SW t Γ' ⟨fun _ => False, P.rt, P.bk, P.ct⟩) (h2 : ∀ Γ', Rb false Γ' → SW u Γ' P) : SW (tSeq (tIfS tt t tNext) u) Γ P := by
  refine sw_seq (fun G' => Rb false G') (sw_ifW h (fun G' e => (h1 G' e).imp (fun _ z => z.elim) (fun _ _ z => z) (fun _ z => z) (fun _ z => z)) fun G' e => sw_next e) ?_
  intro G' e
  exact h2 G' e
theorem q_asg {i : Nat} (h : EvP te Γ d) (k : SW u (Γ.set i (.sh d)) P) : SW (tSeq (tAsg te (gName i)) u) Γ P := sw_seq1 (sw_asg h rfl) k
theorem q_asgF {i : Nat} (h : EvF te Γ ds) (k : SW u (Γ.set i (.own ds)) P) : SW (tSeq (tAsg te (gName i)) u) Γ P := sw_seq1 (sw_asgF h rfl) k
theorem q_asgW {i : Nat} (h : EvW te Γ R) (k : ∀ d Γ', R d Γ' → SW u (Γ'.set i (.sh d)) P) : SW (tSeq (tAsg te (gName i)) u) Γ P :=
  sw_seq (fun G' => ∃ d Γ', R d Γ' ∧ G' = Γ'.set i (.sh d)) (sw_asgW h fun d Γ' r => ⟨d, Γ', r, rfl⟩) fun G' ⟨d, Γ', r, e⟩ => e ▸ k d Γ' r
theorem q_setM {i : Nat} {n : Int} {j : Nat} {tn : TE} (hv : EvP te Γ d) (h : Mt Γ i ds) (hi : EvP tn Γ (.int n)) (hj : ixN ds.length n = some j) (k : SW u (pt Γ i (ds.set j d)) P) : SW (tSeq (tAsg te (gSub (tVar i) tn rSetL)) u) Γ P := sw_seq1 (sw_setM hv h hi hj rfl) k
theorem q_app {i : Nat} (h : Mt Γ i ds) (hv : EvP te Γ d) (hl : ds.length < sizeLine) (k : SW u (pt Γ i (ds ++ [d])) P) : SW (tSeq (tDrop (tBM K "list" rAppend (tVar i) (tCons te tNil))) u) Γ P := sw_seq1 (sw_app h hv hl rfl) k
theorem q_drop (h : EvP te Γ d) (k : SW u Γ P) : SW (tSeq (tDrop te) u) Γ P := sw_seq1 (sw_drop h rfl) k
/-! ### built-in calls on ints -/
theorem rc_of {r : List V → Hp → VK → Prop} {ds : List D} {w : V} (h : ∀ F H vs, Reps F ds vs → ∀ Q : VK, Q w H → r vs H Q) (hz : ∀ F, Rep F z w) : RC r ds z := fun F H vs e rs Q k => h F H vs rs Q (k w F H (.refl e) (hz F))
end
end DL
set_option Elab.async false
set_option linter.all false
set_option maxRecDepth 100000
set_option maxHeartbeats 4000000
/-! DL7: expressions with effects; more operations. -/
namespace DL
open PySem PySem.Spec PyProof.Rows L2
section
variable {K : PySem.W.Frag} {Γ Γ' : List En} {te ta tb tc : TE} {tt tu : TT} {t u w : TS} {d x y z : D} {ds es : List D} {R R' : D → List En → Prop} {P : Po} {g : TG}
theorem EvW.imp (h : EvW te Γ R') (k : ∀ d Γ', R' d Γ' → R d Γ') : EvW te Γ R := fun c F H σ G Q q => h c F H σ G Q fun v d Γ' F' H' hr => q v d Γ' F' H' (k d Γ' hr)
theorem ew_op {r : R2} (ha : EvP ta Γ x) (hb : EvW tb Γ R') (hr : ∀ y Γ', R' y Γ' → ∃ z, RD r x y z ∧ R z Γ') : EvW (tOp r ta tb) Γ R := fun c F H σ G Q k =>
  ha c F H σ G _ fun v F1 H1 S1 r1 => hb c F1 H1 σ (G.step S1) _ fun u y Γ' F2 H2 hy G2 x2 f2 r2 => by
    obtain ⟨z, hz, hR⟩ := hr y Γ' hy
    exact hz F2 H2 v u G2.fh (r1.mono x2) r2 Q fun w F3 H3 S3 r3 => k w z Γ' F3 H3 hR (G2.step S3) (S1.f.trans (x2.trans S3.f)) (((Fr.stp S1).trans f2).trans (Fr.stp S3)) r3
theorem ew_opL {r : R2} (ha : EvW ta Γ R') (hb : ∀ x Γ', R' x Γ' → ∃ y z, EvP tb Γ' y ∧ RD r x y z ∧ R z Γ') : EvW (tOp r ta tb) Γ R := fun c F H σ G Q k =>
  ha c F H σ G _ fun v x Γ' F1 H1 hx G1 x1 f1 r1 => by
    obtain ⟨y, z, hy, hz, hR⟩ := hb x Γ' hx
    exact hy c F1 H1 σ G1 _ fun u F2 H2 S2 r2 => hz F2 H2 v u S2.fh (r1.mono S2.f) r2 Q fun w F3 H3 S3 r3 =>
      k w z Γ' F3 H3 hR ((G1.step S2).step S3) ((x1.trans S2.f).trans S3.f) ((f1.trans (Fr.stp S2)).trans (Fr.stp S3)) r3
/-- (a, b), b with effects -/
theorem ew_tup2 (ha : EvP ta Γ x) (hb : EvW tb Γ R') (hr : ∀ y Γ', R' y Γ' → R (.tup [x, y]) Γ') : EvW (tTup (tCons ta (tCons tb tNil))) Γ R := fun c F H σ G Q k =>
  ha c F H σ G _ fun v F1 H1 S1 r1 => hb c F1 H1 σ (G.step S1) _ fun u y Γ' F2 H2 hy G2 x2 f2 r2 => ⟨(by show 2 ≤ sizeLine; decide), fun p hp => by
    have S3 := Stp.new G2.fh (.tup [v, u]) hp
    exact k (.ref p) _ Γ' _ _ (hr y Γ' hy) (G2.step S3) (S1.f.trans (x2.trans S3.f)) (((Fr.stp S1).trans f2).trans (Fr.stp S3)) ⟨p, [v, u], rfl, upd_same, ⟨v, [u], rfl, (r1.mono x2).mono S3.f, u, [], rfl, r2.mono S3.f, rfl⟩⟩⟩
/-- a pure call whose one argument has effects -/
theorem ew_callA1 {C : Cn} (ha : EvW ta Γ R') (hc : ∀ x Γ', R' x Γ' → ∃ R'', C [.sh x] R'' ∧ ∀ e G, R'' e G → R e Γ') : EvW (tCall (spE C) [] E0 (tCons ta tNil)) Γ R := fun c F H σ G Q k =>
  ha c F H σ G _ fun v x Γ' F1 H1 hx G1 x1 f1 r1 => by
    obtain ⟨R'', hC, hR⟩ := hc x Γ' hx
    show spE C ([v] ++ []) H1 Q E0
    rw [List.append_nil]
    refine ⟨_, F1, [.sh x], R'', good_args (es := [x]) G1.fh (.one r1), argOk_sh [x], hC, fun w e G' F' H' hr Gz x' r => ?_⟩
    have S2 : Stp F1 H1 F' H' := ⟨x', fun a o q => Gz.hh a o q (fun ⟨_, z⟩ => by cases z), Gz.fh, Gz.nw⟩
    exact k w e Γ' F' H' (hR e G' hr) (G1.step S2) (x1.trans S2.f) (f1.trans (Fr.stp S2)) r
theorem etw_test {Rb : Bool → List En → Prop} (h : EvW te Γ R) (hr : ∀ e Γ', R e Γ' → ∃ b, e = .bl b ∧ Rb b Γ') : EtW (tTest te) Γ Rb := fun c F H σ G Q k => h c F H σ G _ fun v e Γ' F' H' he G' x _ r => by
  obtain ⟨b, rfl, hb⟩ := hr e Γ' he
  exact ⟨b, r, k b Γ' F' H' hb G' x⟩
theorem etw_B {Rb : Bool → List En → Prop} (h : EvW te Γ R) (hr : ∀ e Γ', R e Γ' → ∃ b, e = .bl b ∧ Rb b Γ') : EtW (tB te) Γ Rb := fun c F H σ G Q k => h c F H σ G _ fun v e Γ' F' H' he G' x _ r => by
  obtain ⟨b, rfl, hb⟩ := hr e Γ' he
  exact ⟨b, r, k b Γ' F' H' hb G' x⟩
theorem etw_not {Rb Rb' : Bool → List En → Prop} (h : EtW tt Γ Rb) (hr : ∀ b Γ', Rb b Γ' → Rb' (!b) Γ') : EtW (tNot tt) Γ Rb' := fun c F H σ G Q k => h c F H σ G _ fun b Γ' F' H' hb G' x => k _ Γ' F' H' (hr b Γ' hb) G' x
/-- x.pop(e) of a mutable list, e with effects -/
theorem ew_popAt {i : Nat} (hm : Mt Γ i ds) (he : EvW te Γ R') (hr : ∀ e Γ', R' e Γ' → ∃ (n : Nat) (d : D), e = .int n ∧ ds[n]? = some d ∧ n < 1000000 ∧ Mt Γ' i ds ∧ R d (pt Γ' i (ds.eraseIdx n))) :
    EvW (tBM K "list" rPopAt (tVar i) (tCons te tNil)) Γ R := fun c F H σ G Q k => by
  obtain ⟨p, xs, e0, h1, h2, h3, h4, h5, h6⟩ := G.mt hm
  refine ⟨_, h1, .inl ⟨rfl, _, SqL.of h2⟩, he c F H σ G _ fun v e Γ' F1 H1 hx G1 x1 f1 r1 => ?_⟩
  obtain ⟨n, d, rfl, hd, hn, m1, hR⟩ := hr e Γ' hx
  obtain ⟨p', ys, e1, k1, k2, k3, k4, k5, k6⟩ := G1.mt m1
  rw [h1] at k1; cases k1
  have hv : v = .int n := r1
  subst hv
  obtain ⟨y, hy, ry⟩ := k3.get hd
  have hlen : n < ys.length := (List.getElem?_eq_some_iff.mp hy).1
  refine ⟨p, ys, (n : Int), n, y, rfl, rfl, k2, by omega, by omega, ?_, hy, k y d _ F1 _ hR (G1.pt m1 h1 (k3.eraseIdx n)) x1 (fun a o ea na => ?_) ry⟩
  · unfold seqIndex?
    simp
    omega
  · have nap : a ≠ p := fun z => by
      subst z
      rcases hm with hm | hm
      · exact na i _ hm rfl h1
      · exact na i _ hm rfl h1
    obtain ⟨t1, t2, t3⟩ := f1 a o ea na
    refine ⟨by rw [upd_ne nap]; exact t1, t2, fun j e' hj m q => ?_⟩
    unfold pt at hj
    by_cases z : i = j
    · subst z; rw [h1] at q; cases q; exact nap rfl
    · rw [List.getElem?_set_ne z] at hj; exact t3 j e' hj m q
/-- a, b, c = [..], e, f with f having effects -/
theorem sw_par3F {i j l : Nat} (ha : EvF ta Γ ds) (hb : EvP tb Γ x) (hc : EvW tc Γ R) (hn : ∀ z Γ', R z Γ' → P.nx (((Γ'.set i (.own ds)).set j (.sh x)).set l (.sh z))) :
    SW (tPar3 i j l (tCons ta (tCons tb (tCons tc tNil)))) Γ P := fun c F H σ G D a b e f =>
  ha c F H σ G _ fun p xs F1 H1 S1 n1 f1 e1 r1 => hb c F1 H1 σ (G.step S1) _ fun u F2 H2 S2 r2 => hc c F2 H2 σ ((G.step S1).step S2) _ fun v z Γ' F3 H3 hz G3 x3 fr3 r3 => by
    have ns : NoSlot σ Γ p := G.noSlot n1
    have e2 : H2 p = some (.lst xs) := S2.h _ _ e1
    have f2 : F2 p = none := ((Fr.stp S2) p _ e1 ns).2.1 f1
    obtain ⟨e3, f3, n3⟩ := fr3 p _ e2 ns
    refine ⟨_, _, _, rfl, a _ F3 H3 _ (hn z Γ' hz) (((G3.setOwn n3 (f3 f2) e3 ((r1.mono S2.f).mono x3) (G.fresh n1)).setSh (r2.mono x3)).setSh r3) ((S1.f.trans S2.f).trans x3)⟩
/-- a, b = e, f -/
theorem sw_par {i j : Nat} (ha : EvP ta Γ x) (hb : EvP tb Γ y) (hn : P.nx ((Γ.set i (.sh x)).set j (.sh y))) : SW (tPar i j (tCons ta (tCons tb tNil))) Γ P := fun c F H σ G D a b e f =>
  ha c F H σ G _ fun v F1 H1 S1 r1 => hb c F1 H1 σ (G.step S1) _ fun u F2 H2 S2 r2 => ⟨_, _, rfl, a _ F2 H2 _ hn ((((G.step S1).step S2).setSh (r1.mono S2.f)).setSh r2) (S1.f.trans S2.f)⟩
/-- x.extend(e) -/
theorem sw_ext {i : Nat} (h : Mt Γ i ds) (hv : EvP te Γ (.lst es)) (hl : ds.length + es.length ≤ sizeLine) (hn : P.nx (pt Γ i (ds ++ es))) : SW (tDrop (tBM K "list" rExtend (tVar i) (tCons te tNil))) Γ P := fun c F H σ G D a b e f => by
  obtain ⟨p, xs, e', h1, h2, h3, h4, h5, h6⟩ := G.mt h
  refine ⟨_, h1, .inl ⟨rfl, _, SqL.of h2⟩, hv c F H σ G _ fun v F1 H1 S1 r1 => ?_⟩
  have G1 := G.step S1
  obtain ⟨q, ys, rfl, hq, rq⟩ := r1
  exact ⟨p, q, xs, ys, rfl, rfl, S1.h _ _ h2, S1.fh _ _ hq, by rw [h3.length, rq.length]; exact hl, a _ F1 _ σ hn (G1.pt h h1 ((h3.mono S1.f).append rq)) S1.f⟩
/-- sep.join(xs) -/
abbrev rJoin (K : PySem.W.Frag) : V → List V → Hp → VK → Prop := fun x xs H Q => ∃ a p, ∃ ys : List Str, x = .str a ∧ xs = [.ref p] ∧ (SqL K H p (ys.map V.str) ∨ SqT K H p (ys.map V.str)) ∧ (ys.map (·.length)).sum + ys.length * a.length ≤ 16777216 ∧ Q (.str (Txt.join a ys)) H
theorem ep_join {a : Str} {ys : List Str} (ha : EvP ta Γ (.str a)) (he : EvP te Γ (.lst (ys.map D.str))) (hl : (ys.map (·.length)).sum + ys.length * a.length ≤ 16777216) : EvP (tM1 (rJoin K) ta te) Γ (.str (Txt.join a ys)) := fun c F H σ G Q k =>
  ha c F H σ G _ fun v F1 H1 S1 r1 => ⟨⟨a, r1⟩, he c F1 H1 σ (G.step S1) _ fun u F2 H2 S2 r2 => by
    obtain ⟨p, xs, rfl, hp, rs⟩ := r2
    have ex := rs.strs_eq
    subst ex
    exact ⟨a, p, ys, r1, rfl, .inl (.inl (.inl (S2.fh _ _ hp))), hl, k _ F2 H2 (S1.trans S2) rfl⟩⟩
/-- tuple(xs), list(t) -/
abbrev rTuple (K : PySem.W.Frag) : List V → Hp → VK → Prop := fun xs H Q => ∃ p ys, xs = [.ref p] ∧ ((SqL K H p ys ∧ ∀ l, H l = none → Q (.ref l) (upd H l (.tup ys))) ∨ (SqT K H p ys ∧ Q (.ref p) H))
theorem rc_tuple : RC (rTuple K) [.lst ds] (.tup ds) := fun F H vs e r Q k => by
  obtain ⟨v, _, rfl, ⟨a, xs, rfl, hs, r1⟩, rfl⟩ := r
  refine ⟨a, xs, rfl, .inl ⟨.inl (.inl (e _ _ hs)), fun l hl => ?_⟩⟩
  have S := Stp.new e (.tup xs) hl
  exact k _ _ _ S ⟨l, xs, rfl, upd_same, r1.mono S.f⟩
/-- tuple(x), x a mutable list -/
theorem ep_tupleM {i : Nat} (h : Mt Γ i ds) : EvP (tCB (rTuple K) (tCons (tVar i) tNil)) Γ (.tup ds) := fun c F H σ G Q k => by
  obtain ⟨p, xs, e', h1, h2, h3, h4, h5, h6⟩ := G.mt h
  refine ⟨_, h1, p, xs, rfl, .inl ⟨.inl (.inl h2), fun l hl => ?_⟩⟩
  have S := Stp.new G.fh (.tup xs) hl
  exact k _ _ _ S ⟨l, xs, rfl, upd_same, h3.mono S.f⟩
abbrev rList (K : PySem.W.Frag) : List V → Hp → VK → Prop := fun xs H Q => ∃ p ys, xs = [.ref p] ∧ (SqL K H p ys ∨ SqT K H p ys) ∧ ∀ l, H l = none → Q (.ref l) (upd H l (.lst ys))
theorem rcf_listT : RCF (rList K) [.tup ds] ds := fun F H vs e r Q k => by
  obtain ⟨v, _, rfl, ⟨a, xs, rfl, hs, r1⟩, rfl⟩ := r
  refine ⟨a, xs, rfl, .inr (.inl (.inl (e _ _ hs))), fun l hl => ?_⟩
  have S := Stp.loose e (.lst xs) hl
  refine k l xs _ _ S hl ?_ upd_same r1
  cases q : F l with
  | none => rfl
  | some u => rw [e _ _ q] at hl; cases hl
theorem rcf_listL : RCF (rList K) [.lst ds] ds := fun F H vs e r Q k => by
  obtain ⟨v, _, rfl, ⟨a, xs, rfl, hs, r1⟩, rfl⟩ := r
  refine ⟨a, xs, rfl, .inl (.inl (.inl (e _ _ hs))), fun l hl => ?_⟩
  have S := Stp.loose e (.lst xs) hl
  refine k l xs _ _ S hl ?_ upd_same r1
  cases q : F l with
  | none => rfl
  | some u => rw [e _ _ q] at hl; cases hl
abbrev rLenStr : List V → Hp → VK → Prop := fun xs H Q => ∃ z, xs = [.str z] ∧ z.length ≤ sizeLine ∧ Q (.int z.length) H
theorem rc_lenStr {z : Str} (h : z.length ≤ sizeLine) : RC rLenStr [.str z] (.int z.length) := fun F H vs e r Q k => by
  obtain ⟨v, _, rfl, rv, rfl⟩ := r
  have rv' : v = .str z := rv
  subst rv'
  exact ⟨z, rfl, h, k _ F H (.refl e) rfl⟩
/-- x in (texts) -/
theorem inV_str (x : Str) : ∀ ys : List Str, inV (.str x) (ys.map V.str) = decide (x ∈ ys)
  | [] => by simp [inV]
  | y :: ys => by
    have q := inV_str x ys
    unfold inV at q ⊢
    rw [List.map_cons, List.any_cons, q]
    show ((y == x) || decide (x ∈ ys)) = decide (x ∈ y :: ys)
    by_cases e : x = y
    · subst e; simp
    · have e' : (y == x) = false := by simpa using fun z => e z.symm
      simp [e, e']
theorem flat_strs : ∀ ys : List Str, (ys.map V.str).all flatV = true
  | [] => rfl
  | _ :: ys => flat_strs ys
theorem rd_inS {neg : Bool} {a : Str} {ys : List Str} : RD (rIn K neg) (.str a) (.tup (ys.map D.str)) (.bl (if neg then !decide (a ∈ ys) else decide (a ∈ ys))) := fun F H vx vy e rx ry Q k => by
  obtain ⟨p, xs, rfl, hp, rs⟩ := ry
  have ex := rs.strs_eq
  subst ex
  have rx' : vx = .str a := rx
  subst rx'
  exact ⟨p, _, rfl, .inr (.inl (.inl (e _ _ hp))), rfl, flat_strs ys, by rw [inV_str]; exact k _ F H (.refl e) rfl⟩
/-- xs[::-1] -/
theorem ef_rev (h : EvP te Γ (.lst ds)) : EvF (tRevL K te) Γ ds.reverse := fun c F H σ G Q k => h c F H σ G _ fun v F1 H1 S1 r1 => by
  obtain ⟨a, xs, rfl, hs, r⟩ := r1
  refine ⟨a, xs, rfl, .inl (.inl (S1.fh _ _ hs)), fun p hp => ?_⟩
  refine k p xs.reverse F1 _ (S1.trans (.loose S1.fh _ hp)) ?_ ?_ upd_same r.reverse
  · cases q : H p with
    | none => rfl
    | some o => rw [S1.h _ _ q] at hp; cases hp
  · cases q : F1 p with
    | none => rfl
    | some o => rw [S1.fh _ _ q] at hp; cases hp
/-! == of data -/
mutual
def pyD : D → Option PyData
  | .non => some .none
  | .bl b => some (.bool b)
  | .int i => some (.int i)
  | .str x => some (.str x)
  | .lst ds => (pyDs ds).map .list
  | .tup ds => (pyDs ds).map .tuple
  | _ => none
def pyDs : List D → Option (List PyData)
  | [] => some []
  | d :: ds => match pyD d, pyDs ds with
    | some p, some ps => some (p :: ps)
    | _, _ => none
end
mutual
theorem dp_of {F H : Hp} (e : Ex F H) : ∀ {d : D} {p : PyData} {v : V}, pyD d = some p → Rep F d v → Dp K H v p
  | .non, _, _, h, r => by cases h; cases r; exact .non
  | .bl b, _, _, h, r => by cases h; cases r; exact .bl b
  | .int i, _, _, h, r => by cases h; cases r; exact .int i
  | .str x, _, _, h, r => by cases h; cases r; exact .str x
  | .lst ds, p, _, h, ⟨a, xs, h1, h2, h3⟩ => by
    simp only [pyD, Option.map_eq_some_iff] at h
    obtain ⟨ps, q, rfl⟩ := h
    cases h1
    exact .lst (.inl (.inl (e _ _ h2))) (dps_of e q h3)
  | .tup ds, p, _, h, ⟨a, xs, h1, h2, h3⟩ => by
    simp only [pyD, Option.map_eq_some_iff] at h
    obtain ⟨ps, q, rfl⟩ := h
    cases h1
    exact .tup (.inl (.inl (e _ _ h2))) (dps_of e q h3)
  | .ref _, _, _, h, _ => by simp [pyD] at h
  | .ty _, _, _, h, _ => by simp [pyD] at h
  | .obj _ _, _, _, h, _ => by simp [pyD] at h
  | .scr _ _ _, _, _, h, _ => by simp [pyD] at h
  | .dct _, _, _, h, _ => by simp [pyD] at h
  | .dki _, _, _, h, _ => by simp [pyD] at h
  | .opq _, _, _, h, _ => by simp [pyD] at h
theorem dps_of {F H : Hp} (e : Ex F H) : ∀ {ds : List D} {ps : List PyData} {xs : List V}, pyDs ds = some ps → Reps F ds xs → DpAll K H xs ps
  | [], _, _, h, r => by cases h; cases r; exact .nil
  | d :: ds, ps, _, h, ⟨v, r, h1, h2, h3⟩ => by
    cases h1
    simp only [pyDs] at h
    cases q : pyD d with
    | none => rw [q] at h; cases h
    | some p =>
      cases q2 : pyDs ds with
      | none => rw [q, q2] at h; cases h
      | some ps' =>
        rw [q, q2] at h
        cases h
        exact .cons (dp_of e q h2) (dps_of e q2 h3)
end
theorem rd_eqD {p q : PyData} (hp : pyD x = some p) (hq : pyD y = some q) (s1 : SeqAt.shaped p = true) (s2 : SeqAt.shaped q = true) : RD (rEqD K) x y (.bl (PyData.eqv p q)) := fun F H vx vy e rx ry Q k =>
  ⟨p, q, dp_of e hp rx, dp_of e hq ry, s1, s2, k _ F H (.refl e) rfl⟩
theorem rd_neD {p q : PyData} (hp : pyD x = some p) (hq : pyD y = some q) (s1 : SeqAt.shaped p = true) (s2 : SeqAt.shaped q = true) : RD (rNeD K) x y (.bl (!PyData.eqv p q)) := fun F H vx vy e rx ry Q k =>
  ⟨p, q, dp_of e hp rx, dp_of e hq ry, s1, s2, k _ F H (.refl e) rfl⟩
/-- the name x stands for a def that keeps sp -/
structure Cal (P : Program) (w : World) (K : PySem.W.Frag) (mg : Str → Option Value) (base : Heap) (k : Nat) (x : Str) (sp : Sp) : Prop where
  ex : ∃ (f : Addr) (fd : FuncData) (ps : List Str), FnOk P w K mg base CX0 k f fd ps sp ∧ mg x = some (.ref f) ∧ PySem.W.keepIn K (.ref f) = true ∧ Binds K fd ps []
theorem pe_c {X : Cx} {k j : Nat} {x : Str} {sp : Sp} {p pos : Pos} {e : Expr} {es : List Expr} {t : TA} (c : Cal X.prog X.w X.K X.mg X.base k x sp) (hr : Room j X.A) (hk : k ≤ j) (hg : Gl X x) (ha : PA X (e :: es) t)
    (hdb : (x == ("__debug__" : Str)) = false := by decide) (he : starEach (e :: es) X.env = (false, eval e X.env) :: starEach es X.env := by rfl) (hpl : (backTo pos (starEach es X.env)).any (·.1) = false := by rfl) :
    PE X (.Call (.Name x p) (e :: es) [] pos) (tCall sp [] E0 t) := by
  obtain ⟨f, fd, ps, F, hm, kp, b⟩ := c.ex
  exact pe_call F (hr.mono hk) hg hm kp b .nil pass0 ha hdb he hpl
end
theorem pe_gc {X : Cx} {x : Str} {v : V} {pos : Pos} (hg : Gl X x) (h : ∃ u, X.mg x = some u ∧ RelV v u) (hd : (x == ("__debug__" : Str)) = false := by decide) : PE X (.Name x pos) (tC v) := by
  obtain ⟨u, h1, h2⟩ := h
  exact pe_glob hg h1 h2 hd
theorem pe_fldK {X : Cx} {K : PySem.W.Frag} {e : Expr} {f : Str} {ta : TE} {pos : Pos} (he : PE X e ta) (hb : attributeBase e f X.env (eval e X.env) = eval e X.env) (hK : X.K = K := by rfl) : PE X (.Attribute e f pos) (tFld K ta f) := hK ▸ pe_fld he hb
/-- list.count of a text in a list of texts -/
def isS (k : Str) (v : Value) : Bool := match v with
  | .str x _ => x == k
  | _ => false
def rCntS (K : PySem.W.Frag) : V → List V → Hp → VK → Prop := fun x xs H Q => ∃ (p : Addr) (ns : List Str) (k : Str), x = .ref p ∧ xs = [.str k] ∧ SqL K H p (ns.map V.str) ∧ Q (.int (ns.count k : Nat)) H
theorem isS_count (k : Str) : ∀ {ns : List Str} {its : List Value}, Vals (ns.map V.str) its → its.countP (isS k) = ns.count k
  | [], _, h => by cases h; rfl
  | n :: ns, _, h => by
    cases h with
    | cons h1 h2 =>
      obtain ⟨t, rfl⟩ := h1
      rw [List.countP_cons, List.count_cons, isS_count k h2]
      rfl
theorem isS_eq (k : Str) : ∀ {ns : List Str} {its : List Value} {y : Value}, Vals (ns.map V.str) its → y ∈ its → ∃ x t, y = .str x t
  | [], _, _, h, hy => by cases h; cases hy
  | n :: ns, _, y, h, hy => by
    cases h with
    | cons h1 h2 =>
      rcases List.mem_cons.mp hy with e | e
      · subst e; obtain ⟨t, rfl⟩ := h1; exact ⟨n, t, rfl⟩
      · exact isS_eq k h2 e
theorem mt_countS {X : Cx} : MtR X "list.count" (rCntS X.K) := by
  intro pins s σ H x xs v us Q I rx rxs h
  obtain ⟨p, ns, k, rfl, rfl, hs, q⟩ := h
  cases rx
  obtain ⟨u, rfl, ru⟩ := rxs.one
  obtain ⟨t, rfl⟩ := ru
  obtain ⟨its, rv, ⟨⟨cls, dd, data, sl⟩, n, ho, hc, hdn, hd⟩, hlen⟩ := I.list hs
  simp only at hc hd
  subst hc hd
  refine call_meets PySem.F.slot_list_count ⟨_, ho, rfl⟩ PySem.F.entry_list_count (PySem.F.args_list_count_2 _ _)
    (SeqAt.list_countAt p its.toArray n dd sl (.str k t) (isS k)) ⟨ho, fun y hy => ?_, ?_⟩
  · obtain ⟨x, t', rfl⟩ := isS_eq k rv (by simpa using hy)
    have q1 := eqAt_V (A := X.A.in1) (s := s) (y := .str x) (x := .str k) (u := .str x t') (v := .str k t) ⟨t', rfl⟩ ⟨t, rfl⟩ rfl rfl
    exact q1
  · have ec : its.toArray.toList.countP (isS k) = ns.count k := isS_count k rv
    refine ⟨.int (ns.count k : Nat), H, I.tok _, ⟨s.toks, ?_⟩, q⟩
    show Value.int ((its.toArray.toList.countP (isS k) : Nat) : Int) s.toks = Value.int ((ns.count k : Nat) : Int) s.toks
    rw [ec]
end DL
set_option Elab.async false
set_option linter.all false
set_option maxRecDepth 100000
set_option autoImplicit false
set_option maxHeartbeats 4000000
/-! X1: an own exception over ValueError whose __init__ begins with super().__init__(e): its promise by its other statements. -/
namespace XS
open PySem PySem.Spec PyProof.Rows L2
/-- the frame of such an __init__ -/
abbrev envS (qual : Str) (scope : Scope) (L f : Addr) (cdv : Value) (cc : Addr) : Env := PySem.W.envX qual scope L f cdv [("__class__", cc)]
def cxS (CX : CXT) (P : Program) (w : World) (K : PySem.W.Frag) (mg : Str → Option Value) (base : Heap) (N : List Str) (qual : Str) (scope : Scope) (f : Addr) (cdv : Value) (cc : Addr) (A : Around) (outer : List Env) (s : Shared) (H : Hp) (E : XK) : Cx where
  prog := P
  w := w
  K := K
  mg := mg
  base := base
  A := A.deeper (envS qual scope s.heap.objs.size f cdv cc)
  N := N
  s_0 := s
  H_0 := H
  env := envS qual scope s.heap.objs.size f cdv cc
  outer := outer
  stack := envS qual scope s.heap.objs.size f cdv cc :: outer
  ex := []
  fn := fun _ => false
  calm := true
  pn := []
  xe := fun _ _ => False
/-- a look at its scope -/
structure ScS (N ps : List Str) (scope : Scope) : Prop where
  kind : scope.kind = .function
  co : scope.isCoroutine = false
  gen : scope.isGenerator = false
  nd : N.Nodup
  pre : N.take ps.length = ps
  par : ∀ x ∈ ps, scope.names.lookup x = some .local
  nocell : ∀ y ∈ scope.names, y.2 ≠ .cell
  free : ∀ x, scope.names.lookup x = some .free → x = "__class__"
  cls : scope.names.lookup ("__class__" : Str) = some .free
  sup : scope.names.lookup ("super" : Str) = some .globalImplicit
theorem zip_look : ∀ {ps : List Str} {us : List Value} {i : Nat} {y : Str} {u : Value}, ps.Nodup → ps[i]? = some y → us[i]? = some u → (ps.zip us).lookup y = some u
  | [], _, _, _, _, _, h, _ => by simp at h
  | _ :: _, [], _, _, _, _, _, h => by simp at h
  | p :: ps, v :: us, 0, y, u, _, h1, h2 => by
    simp at h1 h2
    subst h1 h2
    simp [List.lookup]
  | p :: ps, v :: us, i + 1, y, u, nd, h1, h2 => by
    simp at h1 h2
    obtain ⟨n1, n2⟩ := List.nodup_cons.mp nd
    have ne : (y == p) = false := by simpa using fun z : y = p => n1 (z ▸ List.mem_of_getElem? h1)
    show ((p, v) :: ps.zip us).lookup y = some u
    rw [List.lookup, ne]
    exact zip_look n2 h1 h2
theorem inv_startS {CX : CXT} {P : Program} {w : World} {K : PySem.W.Frag} {mg : Str → Option Value} {base : Heap} {N ps : List Str} {qual : Str} {scope : Scope} {f cc C : Addr} {cd : Value} {A : Around} {outer : List Env} {s : Shared} {H : Hp} {E : XK} {us : List Value} {vs : List V} {h1 : Heap} {tk : Nat} {oc : Value} {od : Option Addr} {osl : Array (Option Value)}
    (S : ScS N ps scope) (hd : A.handled = none) (e0 : Env0 P w K mg base A outer s H) (hl : vs.length = ps.length) (r : Vals vs us) (hcc : K.lookup cc = some ⟨oc, od, .cell (some (.ref C)), osl⟩)
    (hn : h1.Ns s.heap.objs.size (fun x => (ps.zip us).reverse.lookup x)) (hk : ∀ b o, s.heap.get? b = some o → h1.get? b = some o) :
    Inv (cxS CX P w K mg base N qual scope f cd cc A outer s H E) [] (L2.start N vs) H { s with heap := h1, toks := tk } := by
  have hpl : ps.length ≤ N.length := by have := congrArg List.length S.pre; rw [List.length_take] at this; omega
  have noA : ∀ b : Addr, b ∉ (cxS CX P w K mg base N qual scope f cd cc A outer s H E).ex := fun b z => absurd (show b ∈ ([] : List Addr) from z) (by simp)
  have bc := e0.mod.kin _ _ hcc
  have cel : ∀ {x : Str} {c : Addr}, ([("__class__", cc)] : List (Str × Addr)).lookup x = some c → x = "__class__" ∧ c = cc := fun {x c} h => by
    simp only [List.lookup] at h
    split at h
    · rename_i q
      cases h
      exact ⟨by simpa using q, rfl⟩
    · cases h
  refine ⟨⟨e0.mod, S.kind, rfl, rfl, Nat.le_refl _, fun y z c h1 h2 => (cel h1).1.trans (cel h2).1.symm, fun y hy => ?_, (fun y c q _ => nomatch q), fun _ => hd, Around.frames_deeper e0.frames, .inr ⟨rfl, rfl⟩, fun b z => absurd z (noA b), e0.bs, e0.bsz, fun b _ _ => noA b, fun b z => absurd z (noA b), e0.funs, e0.frf⟩,
    rfl, e0.bare, Un.kept hk, ⟨_, hn, fun i y v h1 h2 h3 => ?_⟩, fun y c h => ?_, e0.hok.fresh (Nat.le_refl _), fun y c h => ?_, fun p hp => absurd (show p ∈ ([] : List (Addr × Obj)) from hp) (by simp), e0.hok.kept hk, ?_⟩
  · have hy : scope.names.lookup y = some .cell ∨ scope.names.lookup y = some .free := hy
    rcases hy with hy | hy
    · exact absurd rfl (S.nocell _ (PySem.mem_of_lookup hy))
    · rw [S.free y hy]
      exact ⟨cc, by show List.lookup ("__class__" : Str) [(("__class__" : Str), cc)] = some cc; simp [List.lookup]⟩
  · have hi : i < vs.length := by
      unfold L2.start at h2
      by_cases hi : i < vs.length
      · exact hi
      · rw [List.getElem?_append_right (by simpa using hi)] at h2
        rw [List.getElem?_replicate] at h2
        split at h2 <;> cases h2
    have ha : vs[i]? = some v := by
      unfold L2.start at h2
      rw [List.getElem?_append_left (by simpa using hi), List.getElem?_map] at h2
      cases e : vs[i]? with
      | none => rw [e] at h2; cases h2
      | some a => rw [e] at h2; cases h2; rfl
    obtain ⟨u, hu, rv⟩ := r.get ha
    have hp : ps[i]? = some y := by
      rw [← S.pre, List.getElem?_take_of_lt (by omega)]; exact h1
    have ndP : ps.Nodup := by rw [← S.pre]; exact S.nd.sublist (List.take_sublist _ _)
    refine ⟨u, rv, .inl ⟨S.par y (List.mem_of_getElem? hp), ?_⟩⟩
    have nz : ((ps.zip us).map (·.1)).Nodup := by rw [List.map_fst_zip (by rw [← r.length, hl]; exact Nat.le_refl _)]; exact ndP
    show (ps.zip us).reverse.lookup y = some u
    rw [lookup_reverse_of_nodup _ nz]
    exact zip_look ndP hp hu
  · obtain ⟨_, e⟩ := cel h
    subst e
    exact ⟨_, _, hk _ _ (e0.bs _ _ bc).1, rfl⟩
  · rw [(cel h).2]
    exact (e0.bs _ _ bc).2
  · unfold L2.start
    show _ = N.length
    rw [List.length_append, List.length_map, List.length_replicate]
    omega
end XS
namespace XS
open PySem PySem.Spec PyProof.Rows L2
section
variable {prog : Program} {w : World} {A : Around} {E : Value → Shared → Prop} {h : Heap} {g : Array GenState} {d : Drawn} {t : Nat} {os : OsState}
variable {nm q : Str} {C N : Addr} {bs bm : List Value} {hdct : Bool} {sn : List Str} {sub : List Value} {ab : Bool} {col : Option Bool} {dd : Option Addr} {k0 k1 k2 k3 k5 : Option Value}
theorem call_bwV {u e t0 : Addr} {rest : List Value} {Q : Value → Shared → Prop}
    (hC : h.get? C = some (excClassObj nm q C N bs bm hdct sn sub ab col dd k0 k1 k2 k3 k5 "ValueError.__new__")) (he : h.get? e = some ({ cls := .ref C, dict := none, data := .fields #[.ref t0, .none, .none, .none, .bool false, .none] } : Obj)) (hu : h.get? u = some (PySem.W.kxs_mw "ValueError.__init__" e)) (hrest : rest.length ≤ sizeLine)
    (hq : ∀ h' t1, (∀ b o, b ≠ e → h.get? b = some o → h'.get? b = some o) → h'.get? e = some ({ cls := .ref C, dict := none, data := .fields #[.ref t1, .none, .none, .none, .bool false, .none] } : Obj) → Q .none ⟨h', g, d, t, os⟩) :
    wpAny (model prog w) A (call (.ref u) rest) Q E ⟨h, g, d, t, os⟩ := by
  refine wpAny_call (codeAny_of_tree ?_)
  show wpAny _ A.in1 (callAny (.ref u) ⟨rest, []⟩) _ _ _
  simp only [callAny]
  refine wpAny_bind (wpAny_load hu ?_)
  simp only [PySem.W.kxs_mw, show (Value.type "method-wrapper" == Value.type "method" || Value.type "method-wrapper" == Value.type "builtin_function_or_method" || Value.type "method-wrapper" == Value.type "method-wrapper") = true by decide, if_true]
  refine PySem.W.KFB.if_so (by decide) ?_
  refine wpAny_bind (PySem.ESX.check_bound F.excBase_ValueError hC he rfl ?_)
  refine wpAny_bind (wpAny_pure (wpAny_pure ?_))
  refine ⟨Code.quiet_builtin _ (by decide +kernel), codeAny_builtin F.excBase_ValueError.initEntry ?_⟩
  rw [Around.under_plainId F.excBase_ValueError.init.plain _]
  wp_walk
  refine hq _ h.objs.size (fun b o hb ho => ?_) ?_
  · rw [Heap.get?_update_other _ _ (Ne.symm hb)]
    exact Heap.get?_push_of_some _ ho
  · rw [Heap.get?_update_self _ (Heap.get?_push_of_some _ he) rfl]
    rfl
end
/-- what the written part says of the class at C whose __init__ is the def at f -/
structure SuC (P : Program) (K : PySem.W.Frag) (mg : Str → Option Value) (C f cc cda : Addr) (N ps : List Str) (nm0 qual : Str) (params : Arguments) (body : List Stmt) (scope : Scope) : Prop where
  ox : OexC K C
  lk : ∃ oc od dV kV doc pm an ct osl, K.lookup f = some ⟨oc, od, .func (PySem.W.fnX nm0 qual params body scope [("__class__", cc)] dV kV doc pm an (.ref cda) ct), osl⟩
  hcd : PySem.W.codeIn K (.ref cda) qual = true
  code : ∃ ccl cdd vs ccs file tf, K.lookup cda = some ⟨ccl, cdd, .fields vs, ccs⟩ ∧ vs[2]? = some (.str file tf) ∧ ((P.main.file : Str) == file) = true
  cel : ∃ oc od osl, K.lookup cc = some ⟨oc, od, .cell (some (.ref C)), osl⟩
  sc : ScS N ps scope
  p0 : ∃ ar : Arg, (params.posonlyargs ++ params.args).head? = some ar ∧ N[0]? = some ar.arg
  hp0 : ∃ x, N[0]? = some x ∧ scope.names.lookup x = some .local
  top : (P.main.scope.names.lookup ("super" : Str)).isSome = false
  ms : mg "super" = none
  self : PySem.W.mroIn K C (.ref C) = some true
  sup : PySem.W.ks_superIn K C C "__init__" = some (some (.builtin "ValueError.__init__"))
  stat : PySem.W.nsIn K cStatics "thirdparty.any" = some none
  sub : PySem.W.subIn K (.ref C) (.type "ValueError") = some true
/-- super().__init__(e) -/
def tSup (te : TE) : TS := fun D σ H => te σ H fun _ H1 => ∃ a C : Addr, σ[0]? = some (some (.ref a)) ∧ H a = some (exo a C none) ∧ H1 a = some (exo a C none) ∧ D.nx σ H1
theorem callWith_mw {M : Model} {A : Around} {E : Value → Shared → Prop} {s : Shared} {i : String} {u x : Addr} {pos : Pos} {env : Env} {e : Expr} {Q : Value → Shared → Prop}
    (h : wpAny M A (spliced (backTo pos (starEach [e] env))) (fun vs s₁ => PySem.W.KxsAt i u x s₁.heap ∧ wpAny M A (call (.ref u) vs) Q E s₁) E s)
    (he : starEach [e] env = (false, eval e env) :: starEach [] env := by rfl) (hplain : (backTo pos (starEach [] env)).any (·.1) = false := by rfl) :
    wpAny M A (callWith pos (.ref u) [] (backTo pos (starEach [e] env)) []) Q E s := by
  rw [he] at h ⊢
  refine PySem.W.kxs_callWith (i := i) (x := x) (by show (false || (backTo pos (starEach [] env)).any (·.1)) = false; rw [hplain]; rfl) ?_
  exact Calls.evalArgs_plain h
section
variable {CX : CXT} {P : Program} {w : World} {K : PySem.W.Frag} {mg : Str → Option Value} {base : Heap} {N ps : List Str} {nm0 qual : Str} {params : Arguments} {body : List Stmt} {scope : Scope} {f cc cda C : Addr} {A : Around} {outer : List Env} {s : Shared} {H : Hp} {E : XK}
theorem step_su (T : SuC P K mg C f cc cda N ps nm0 qual params body scope) {σ : L2.St} {s1 : Shared} {H1 : Hp} {a : Addr} (I : Inv (cxS CX P w K mg base N qual scope f (.ref cda) cc A outer s H E) [] σ H1 s1) (h0 : σ[0]? = some (some (.ref a))) (ea : H1 a = some (exo a C none))
    {p0 p1 p2 p3 p4 : Pos} {e : Expr} {rest : List Stmt} {te : TE} {Qf : Flow → Shared → Prop} {Ef : Value → Shared → Prop} (he : PE (cxS CX P w K mg base N qual scope f (.ref cda) cc A outer s H E) e te)
    (hev : starEach [e] (envS qual scope s.heap.objs.size f (.ref cda) cc) = (false, eval e (envS qual scope s.heap.objs.size f (.ref cda) cc)) :: starEach [] (envS qual scope s.heap.objs.size f (.ref cda) cc) := by rfl)
    {pl : Sem Bool} (hc : eval (.Call (.Attribute (.Call (.Name "super" p0) [] [] p1) "__init__" p2) [e] [] p3) (envS qual scope s.heap.objs.size f (.ref cda) cc) = (do
      let ov ← attributeBase (.Call (.Name "super" p0) [] [] p1) "__init__" (envS qual scope s.heap.objs.size f (.ref cda) cc) (eval (.Call (.Name "super" p0) [] [] p1) (envS qual scope s.heap.objs.size f (.ref cda) cc))
      standAt p2.atName
      let (g, first) ← holding [ov] (getMethod ov "__init__" pl)
      callWith p3 g first (backTo p3 (starEach [e] (envS qual scope s.heap.objs.size f (.ref cda) cc))) []) := by rfl)
    (hi : interactive (envS qual scope s.heap.objs.size f (.ref cda) cc) = false := by rfl) (hsw : swapsWith (.Call (.Attribute (.Call (.Name "super" p0) [] [] p1) "__init__" p2) [e] [] p3) none p4.line (envS qual scope s.heap.objs.size f (.ref cda) cc) = pure false := by rfl)
    (hq : te σ H1 fun y H2 => [y].length = 1 ∧ H2 a = some (exo a C none) ∧ ∀ pins s2, Inv (cxS CX P w K mg base N qual scope f (.ref cda) cc A outer s H E) pins σ H2 s2 → wpAny (model P w) (A.deeper (envS qual scope s.heap.objs.size f (.ref cda) cc)) (execs rest (envS qual scope s.heap.objs.size f (.ref cda) cc)) Qf Ef s2) :
    PySem.wpAt (model P w) (A.deeper (envS qual scope s.heap.objs.size f (.ref cda) cc)) (.func body (envS qual scope s.heap.objs.size f (.ref cda) cc)) (execs (.Expr (.Call (.Attribute (.Call (.Name "super" p0) [] [] p1) "__init__" p2) [e] [] p3) p4 :: rest) (envS qual scope s.heap.objs.size f (.ref cda) cc)) Qf Ef s1 := by
  obtain ⟨oc, od, dV, kV, doc, pm, an, ct, osl, lk⟩ := T.lk
  obtain ⟨ccl, cdd, vs, ccs, file, tf, hcode, hvs, hfile⟩ := T.code
  obtain ⟨occ, odc, oslc, hcel⟩ := T.cel
  obtain ⟨ar, har, hN0⟩ := T.p0
  obtain ⟨x0, hx0, hl0⟩ := T.hp0
  rw [hN0] at hx0
  cases hx0
  have X : K.In s1.heap := I.kIn
  refine PySem.ks_wpAt_execs_cons (PySem.ks_wpAt_Expr_any (PySem.ks_wpAt_MethodCall ?_ hc) hi hsw)
  refine PySem.ks_wpAt_super_base (env := envS qual scope s.heap.objs.size f (.ref cda) cc) T.sc.sup T.sc.cls (by decide) rfl (X _ _ lk) rfl har rfl (X _ _ hcode) rfl hvs hfile T.top ?_
  obtain ⟨mb, b1, b2⟩ := I.mod.blt
  refine PySem.W.ks_loadName_global T.sc.kind T.sc.sup (Calls.loadGlobal_builtin (I.mod.glob.keeps I.bk) T.ms (b1.keeps I.bk) ((b2 _ (by decide +kernel)).trans (by kernel_rfl : bootBuiltins "super" = some (.type "super"))) ⟨rfl, ?_⟩)
  refine wpAny_loadName_free T.sc.kind T.sc.cls (by simp [List.lookup]) ⟨_, X _ _ hcel, rfl⟩ ?_
  obtain ⟨m, hNs, hloc⟩ := I.loc
  obtain ⟨u0, ru, hlk⟩ := hloc 0 ar.arg (.ref a) hN0 h0 (.inl hl0)
  obtain rfl : u0 = Value.ref a := ru
  have hma : m ar.arg = some (.ref a) := by
    rcases hlk with ⟨_, z⟩ | ⟨z, _⟩
    · exact z
    · have hk : (envS qual scope s.heap.objs.size f (.ref cda) cc).kindOf ar.arg = some .local := hl0
      rcases z with z | z
      · have z' : (envS qual scope s.heap.objs.size f (.ref cda) cc).kindOf ar.arg = some .cell := z
        rw [hk] at z'; cases z'
      · have z' : (envS qual scope s.heap.objs.size f (.ref cda) cc).kindOf ar.arg = some .free := z
        rw [hk] at z'; cases z'
  refine wpAny_loadName_local T.sc.kind hl0 hNs hma ?_
  obtain ⟨nmC, qC, NC, bsC, bmC, snC, subC, abC, colC, ddC, k0, k1, k2, k3, k5, hC, hbm⟩ := T.ox.cls
  have hCg := X _ _ hC
  refine PySem.ks_wpAny_isType_cls hCg rfl ⟨rfl, ?_⟩
  obtain ⟨t1, ho⟩ := exo_at I.hok ea
  obtain ⟨hp, g, d, tk, os⟩ := s1
  have hnc : ∀ c : ClassData, (Data.fields #[.ref t1, .none, .none, .none, .bool false, .none] : Data) ≠ .cls c := fun c z => by cases z
  refine PySem.ks_wpAny_call_super hCg rfl ho rfl hnc (PySem.W.looks_mroIn X T.self) fun h1 e1 k1 => ?_
  have I1 : L2.Inv (cxS CX P w K mg base N qual scope f (.ref cda) cc A outer s H E) [] σ H1 ⟨h1, g, d, tk, os⟩ := I.kept (t' := tk) k1
  have X1 := I1.kIn
  have IA : PySem.W.InstAt h1 a ({ cls := .ref C, dict := none, data := .fields #[.ref t1, .none, .none, .none, .bool false, .none] } : Obj) C none := ⟨k1 _ _ ho, rfl, rfl, trivial⟩
  have hin : PySem.W.Looks (model P w) h1 (isInstance (.ref a) (.type "ValueError")) true := IA.type.andThen (PySem.W.looks_subIn X1 T.sub)
  have hcl : ∃ cd, PySem.W.clsIn K C = some cd := by unfold PySem.W.clsIn; rw [hC]; exact ⟨_, rfl⟩
  obtain ⟨cd, hcd⟩ := hcl
  have hm : PySem.W.alongIn K "__init__" ((cd.mro.dropWhile (· != .ref C)).drop 1) = some (some (.builtin "ValueError.__init__")) := by
    have z := T.sup
    unfold PySem.W.ks_superIn at z
    rw [hcd] at z
    exact z
  refine PySem.W.kxs_getMethod PySem.W.kxs_ValueError e1 (PySem.W.looks_opaque X1 T.stat) (l₀ := cd.mro) (fun A Q E s k q => wpAny_bind ((PySem.W.looks_clsIn X1 hcd) A _ E s k (wpAny_pure q))) rfl X1 hm hin (PySem.W.ks_ne X1 IA hcd) (by decide) ?_
  have k2 : ∀ b o, h1.get? b = some o → (h1.push (PySem.W.kxs_mw "ValueError.__init__" a)).get? b = some o := fun b o z => Heap.get?_push_of_some _ z
  have hu : (h1.push (PySem.W.kxs_mw "ValueError.__init__" a)).get? h1.objs.size = some (PySem.W.kxs_mw "ValueError.__init__" a) := Heap.get?_push_size _ rfl
  have I2 : L2.Inv (cxS CX P w K mg base N qual scope f (.ref cda) cc A outer s H E) [(h1.objs.size, PySem.W.kxs_mw "ValueError.__init__" a)] σ H1 ⟨h1.push (PySem.W.kxs_mw "ValueError.__init__" a), g, d, tk + 1, os⟩ := by
    refine (I1.kept (t' := tk + 1) k2).pins_of fun p hp => ?_
    rw [List.mem_singleton] at hp
    subst hp
    refine ⟨hu, I1.hok.fresh (Nat.le_refl _), Nat.ne_of_gt I1.lt, I1.nofs (Nat.le_refl _), fun v z => ?_⟩
    cases z
  have ha : PA (cxS CX P w K mg base N qual scope f (.ref cda) cc A outer s H E) [e] (tCons te tNil) := pa_cons he pa_nil hev
  refine callWith_mw (i := "ValueError.__init__") (x := a) (wpAny_mono (ha.run p3 _ _ σ H1 (fun vs H2 => vs.length = 1 ∧ H2 a = some (exo a C none) ∧ ∀ pins s2, L2.Inv (cxS CX P w K mg base N qual scope f (.ref cda) cc A outer s H E) pins σ H2 s2 → wpAny (model P w) (A.deeper (envS qual scope s.heap.objs.size f (.ref cda) cc)) (execs rest (envS qual scope s.heap.objs.size f (.ref cda) cc)) Qf Ef s2) I2 hq) (fun us s2 hh => ?_) fun _ _ z => z.elim) hev rfl
  obtain ⟨vs, H2, J, rv, hl1, ea2, kq⟩ := hh
  obtain ⟨hu2, _⟩ := J.pin _ (List.mem_append_right _ (List.mem_singleton.mpr rfl))
  refine ⟨hu2, ?_⟩
  obtain ⟨t2, ho2⟩ := exo_at J.hok ea2
  obtain ⟨hp2, g2, d2, tk2, os2⟩ := s2
  have hC2 := J.kIn _ _ hC
  have hl : us.length ≤ sizeLine := by rw [← Paired.length rv, hl1]; exact (by decide : 1 ≤ sizeLine)
  refine call_bwV hC2 ho2 hu2 hl fun h' t3 k hx => ?_
  have J2 := J.write (t' := tk2) (x := a) (e := a) (o := exo a C none) (by rw [ea2]; exact True.intro) (.inl rfl) k ⟨_, hx⟩ (exo_ok hx)
  have eu : upd H2 a (exo a C none) = H2 := by
    funext b
    by_cases hb : b = a
    · rw [hb, upd_same, ea2]
    · rw [upd_ne hb]
  rw [eu] at J2
  exact PySem.wpAt_of_wpAny (kq _ _ J2)
/-- THE RULE for such an __init__ -/
theorem su_ok (T : SuC P K mg C f cc cda N ps nm0 qual params body scope) {k : Nat} {sp : Sp} {oc : Value} {od : Option Addr} {dV kV doc pm ct : Value} {an : Option Addr} {osl : Array (Option Value)} (lk : K.lookup f = some ⟨oc, od, .func (PySem.W.fnX nm0 qual params body scope [("__class__", cc)] dV kV doc pm an (.ref cda) ct), osl⟩)
    (len : ∀ vs H Q E, sp vs H Q E → vs.length = ps.length)
    {p0 p1 p2 p3 p4 : Pos} {e : Expr} {rest : List Stmt} (hb : body = .Expr (.Call (.Attribute (.Call (.Name "super" p0) [] [] p1) "__init__" p2) [e] [] p3) p4 :: rest)
    (hbody : ∀ (A : Around) (outer : List Env) (s : Shared) (H : Hp) (vs : List V) (Q : VK) (E : XK), Room k (A.deeper (envS qual scope s.heap.objs.size f (.ref cda) cc)) → sp vs H Q E →
      ∃ (te : TE) (t : TS) (a : Addr), PE (cxS CX P w K mg base N qual scope f (.ref cda) cc A outer s H E) e te ∧ PSs (cxS CX P w K mg base N qual scope f (.ref cda) cc A outer s H E) rest t ∧ vs[0]? = some (.ref a) ∧ H a = some (exo a C none) ∧
        ∀ Qp : VK, (∀ y H2, H2 a = some (exo a C none) → t { nx := fun _ H' => Q .non H', rt := Q } (L2.start N vs) H2 → Qp y H2) → te (L2.start N vs) H Qp)
    {pl : ∀ (L : Addr), Sem Bool} (hc : ∀ L, eval (.Call (.Attribute (.Call (.Name "super" p0) [] [] p1) "__init__" p2) [e] [] p3) (envS qual scope L f (.ref cda) cc) = (do
      let ov ← attributeBase (.Call (.Name "super" p0) [] [] p1) "__init__" (envS qual scope L f (.ref cda) cc) (eval (.Call (.Name "super" p0) [] [] p1) (envS qual scope L f (.ref cda) cc))
      standAt p2.atName
      let (g, first) ← holding [ov] (getMethod ov "__init__" (pl L))
      callWith p3 g first (backTo p3 (starEach [e] (envS qual scope L f (.ref cda) cc))) []) := by intro L; rfl)
    (hi : ∀ L, interactive (envS qual scope L f (.ref cda) cc) = false := by intro L; rfl) (hsw : ∀ L, swapsWith (.Call (.Attribute (.Call (.Name "super" p0) [] [] p1) "__init__" p2) [e] [] p3) none p4.line (envS qual scope L f (.ref cda) cc) = pure false := by intro L; rfl)
    (hev : ∀ L, starEach [e] (envS qual scope L f (.ref cda) cc) = (false, eval e (envS qual scope L f (.ref cda) cc)) :: starEach [] (envS qual scope L f (.ref cda) cc) := by intro L; rfl) :
    FnOk P w K mg base CX (k + 1) f (PySem.W.fnX nm0 qual params body scope [("__class__", cc)] dV kV doc pm an (.ref cda) ct) ps sp := by
  refine ⟨len, fun A outer s H args us vs Q E hr e0 hbd r hsp => ?_⟩
  have hl := len _ _ _ _ hsp
  have KX : K.In s.heap := e0.mod.kin.keeps fun b o e => (e0.bs b o e).1
  have lim : s.heap.NoLimit := e0.mod.nolimit.keeps fun b o e => (e0.bs b o e).1
  obtain ⟨occ, odc, oslc, hcel⟩ := T.cel
  have hloc : ∀ y ∈ ps.zip us, scope.names.lookup y.1 = some .local := fun ⟨n, v⟩ hy => T.sc.par n (List.of_mem_zip hy).1
  refine PySem.ks_codeAny_call_defAt hr.depth (KX _ _ lk) rfl lim (PySem.W.codeRec_of KX T.hcd) rfl hbd T.sc.nocell hloc (fun h1 hns hk => ?_) T.sc.co T.sc.gen T.sc.kind
  obtain ⟨te, t, a, he, ht, hv0, ea, hq⟩ := hbody A outer s H vs Q E (hr.deeper _) hsp
  have I : L2.Inv (cxS CX P w K mg base N qual scope f (.ref cda) cc A outer s H E) [] (L2.start N vs) H { s with heap := h1, toks := s.toks + (ps.zip us).length } := inv_startS T.sc hr.hd e0 hl r hcel hns hk
  subst hb
  have h0 : (L2.start N vs)[0]? = some (some (.ref a)) := by
    unfold L2.start
    have : 0 < vs.length := (List.getElem?_eq_some_iff.mp hv0).1
    rw [List.getElem?_append_left (by simpa using this), List.getElem?_map, hv0]
    rfl
  refine step_su T I h0 ea he (hev _) (hc _) (hi _) (hsw _) (hq _ fun y H2 e2 ht2 => ⟨rfl, e2, fun pins s2 J => ?_⟩)
  refine wpAny_mono (ht.run pins s2 (L2.start N vs) H2 _ J ht2) (fun fl s' hs => ?_) fun e s' hs => hs.elim
  have fin : ∀ {σ' : L2.St} {H' : Hp} {v : V} {u : Value}, L2.Inv (cxS CX P w K mg base N qual scope f (.ref cda) cc A outer s H E) pins σ' H' s' → RelV v u → Q v H' → CE outer P w H s Q u s' :=
    fun {σ' H' v u} J rv q => ⟨v, H', J.os, J.bare, J.base, J.hok, rv, q⟩
  cases fl with
  | ret u =>
    obtain ⟨v, σ', H', J, rv, q⟩ := hs
    exact fin J rv q
  | next =>
    obtain ⟨σ', H', J, q⟩ := hs
    exact fin (v := V.non) (u := Value.none) J rfl q
  | brk =>
    obtain ⟨_, _, _, q⟩ := hs
    exact False.elim q
  | cont =>
    obtain ⟨_, _, _, q⟩ := hs
    exact False.elim q
end
end XS
set_option Elab.async false
set_option linter.all false
set_option maxRecDepth 100000
set_option autoImplicit false
set_option maxHeartbeats 4000000
/-! X2: own exceptions with an __init__ of their own, made as values, by position and by keywords. -/
namespace XS
open PySem PySem.Spec PyProof.Rows L2 PySem.HandSPX
section
variable {M : Model} {A : Around} {E : Value → Shared → Prop} {h : Heap} {g : Array GenState} {d : Drawn} {t : Nat} {os : OsState}
variable {nm q : Str} {C N : Addr} {bs bm bmB : List Value} {hdct : Bool} {sn : List Str} {sub : List Value} {ab : Bool} {col : Option Bool} {dd : Option Addr} {k0 k1 k2 k3 k5 : Option Value} {B newId initId : String}
theorem check_new_ownK (F : ExcBaseFacts B newId initId bmB) (hT : ∀ X : String, bm.contains (.type X) = bmB.contains (.type X)) {rest : List Value} {kw : List (Str × Value)} {Q : Unit → Shared → Prop}
    (hC : h.get? C = some (excClassObj nm q C N bs bm hdct sn sub ab col dd k0 k1 k2 k3 k5 newId)) (hq : Q () ⟨h, g, d, t, os⟩) : wpAny M A (checkBuiltinCall newId ⟨.ref C :: rest, kw⟩) Q E ⟨h, g, d, t, os⟩ := by
  have hcont : (Value.ref C :: bm).contains (.type B) = true := by rw [List.contains_cons, hT, F.hasB, Bool.or_true]
  have hstar := F.noStar
  simp only [checkBuiltinCall, F.newKind, F.newSplit, F.newRow]
  repeat (first | refine wpAny_loadPart_at hC ?_ | (refine wpAny_isSubtype_exc hC ?_; rw [hcont]) | refine wpAny_staticBase_exc hC ?_ | refine wpAny_madeBy_exc hC ?_ | simp only [bne_self_eq_false, Bool.false_eq_true, if_false] | wp_step)
  exact hq
end
section
variable {prog : Program} {w : World} {A : Around} {E : Value → Shared → Prop} {R : Result → Shared → Prop} {h : Heap} {g : Array GenState} {d : Drawn} {t : Nat} {os : OsState}
variable {nm q : Str} {C N : Addr} {bs bm bmB : List Value} {hdct : Bool} {sn : List Str} {sub : List Value} {ab : Bool} {col : Option Bool} {dd : Option Addr} {k0 k1 k2 k3 k5 : Option Value} {B newId initId : String}
theorem new_ownK (F : ExcBaseFacts B newId initId bmB) (hT : ∀ X : String, bm.contains (.type X) = bmB.contains (.type X)) {rest : List Value} {kw : List (Str × Value)}
    (hC : h.get? C = some (excClassObj nm q C N bs bm hdct sn sub ab col dd k0 k1 k2 k3 k5 newId))
    (hq : R (.ok (.ret (.ref (h.objs.size + 1)))) ⟨(h.push { cls := .type "tuple", data := .seq rest.toArray }).push
      { cls := .ref C, data := .fields #[.ref h.objs.size, .none, .none, .none, .bool false, .none] }, g, d, t, os⟩) (hrest : rest.length ≤ sizeLine) :
    codeAny (model prog w) A (.builtin newId ⟨.ref C :: rest, kw⟩) R ⟨h, g, d, t, os⟩ := by
  have hends := F.ends
  have hcB : (Value.ref C :: bm).contains (.type B) = true := by rw [List.contains_cons, hT, F.hasB, Bool.or_true]
  have hcA : (Value.ref C :: bm).contains (.type "AttributeError") = false := by rw [List.contains_cons, hT, F.noAttr]; rfl
  have hcN : (Value.ref C :: bm).contains (.type "NameError") = false := by rw [List.contains_cons, hT, F.noName]; rfl
  refine codeAny_builtinAt F.entry ?_
  unfold Builtin.«BaseException.__new__»
  refine PySem.wpAt_bind ?_
  show PySem.wpAt _ _ _ (stack >>= _) _ _ _
  refine PySem.wpAt_bind (PySem.wpAt_stack fun p below => PySem.wpAt_of_wpAny ?_)
  wp_walk
  refine PySem.wpAt_of_wpAny ?_
  rw [F.owner]
  repeat (first | with_reducible refine wpAny_madeHere_exc F.canon hC ?_ | with_reducible refine wpAny_loadPart_at hC ?_ | (with_reducible refine wpAny_isSubtype_exc hC ?_; first | rw [hcB] | rw [hcA] | rw [hcN]) | wp_step)
  show R _ _
  rw [Heap.size_push]
  exact hq
theorem type_call_ownK (F : ExcBaseFacts B newId initId bmB) (hT : ∀ X : String, bm.contains (.type X) = bmB.contains (.type X)) {rest : List Value} {kw : List (Str × Value)} {fI : Addr} {Q : Fin → Shared → Prop}
    (hC : h.get? C = some (excClassObj nm q C N bs bm hdct sn sub ab col dd k0 k1 k2 k3 k5 newId))
    (hi : W.Looks (model prog w) h (typeLookup (.ref C) "__init__") (some (.ref fI))) (hb : ∀ self, W.Looks (model prog w) h (bindSpecial (.ref fI) self) (.ref fI, [self])) (hrest : rest.length ≤ sizeLine) (hkw : 0 < kw.length)
    (hq : codeAny (model prog w) A (.call (.ref fI) ⟨.ref (h.objs.size + 1) :: rest, kw⟩)
      (fun r s' => match r with | .ok (.ret v) => v = .none ∧ Q (.done (.ret (.ref (h.objs.size + 1)))) s' | .ok _ => False | .error e => E e s')
      ⟨(h.push (W.kdv_tup rest)).push (excO C h.objs.size), g, d, t, os⟩) :
    wpAny (model prog w) A (Builtin.«type.__call__» ⟨.ref C :: rest, kw⟩) Q E ⟨h, g, d, t, os⟩ := by
  repeat (first | with_reducible refine wpAny_loadPart_at hC ?_ | with_reducible refine wpAny_madeBy_exc hC ?_ | wp_step)
  refine codeAny_call_builtin_code (Code.quiet_builtin _ F.quiet) (check_new_ownK F hT hC ?_)
  refine new_ownK F hT hC ?_ hrest
  show wpAny _ _ _ _ _ _
  have k : ∀ b o, h.get? b = some o → ((h.push (W.kdv_tup rest)).push (excO C h.objs.size)).get? b = some o := fun b o e => Heap.get?_push_of_some _ (Heap.get?_push_of_some _ e)
  have hC₁ := k _ _ hC
  have hget : ((h.push (W.kdv_tup rest)).push (excO C h.objs.size)).get? (h.objs.size + 1) = some (excO C h.objs.size) := by heap_get
  have hcC : (Value.ref C :: bm).contains (.ref C) = true := by simp
  have i1 := hi.keeps k
  have b1 := (hb (.ref (h.objs.size + 1))).keeps k
  unfold isInstance
  repeat (first | with_reducible refine wpAny_loadPart_at hget ?_ | (with_reducible refine wpAny_isSubtype_exc hC₁ ?_; rw [hcC]) | wp_step)
  show wpAny _ _ (typeLookup (.ref C) _) _ _ _
  refine i1.at ?_
  refine wpAny_holding (wpAny_bind (b1.at ?_))
  refine wpAny_bind (wpAny_call (codeAny_mono hq fun r s' z => ?_))
  rcases r with e | (v | _ | _ | _) <;> first | exact z | exact z.elim | skip
  obtain ⟨rfl, z⟩ := z
  first
    | exact wpAny_pure (wpAny_pure z)
    | (wp_walk; exact z)
theorem call_ownK (F : ExcBaseFacts B newId initId bmB) (hT : ∀ X : String, bm.contains (.type X) = bmB.contains (.type X)) {rest : List Value} {kw : List (Str × Value)} {fI : Addr}
    (hC : h.get? C = some (excClassObj nm q C N bs bm hdct sn sub ab col dd k0 k1 k2 k3 k5 newId))
    (hi : W.Looks (model prog w) h (typeLookup (.ref C) "__init__") (some (.ref fI))) (hb : ∀ self, W.Looks (model prog w) h (bindSpecial (.ref fI) self) (.ref fI, [self])) (hrest : rest.length ≤ sizeLine) (hkw : 0 < kw.length)
    (hq : codeAny (model prog w) (A.under (.builtin "type.__call__" ⟨.ref C :: rest, kw⟩)) (.call (.ref fI) ⟨.ref (h.objs.size + 1) :: rest, kw⟩) (W.InitBack (h.objs.size + 1) R)
      ⟨(h.push (W.kdv_tup rest)).push (excO C h.objs.size), g, d, t, os⟩) :
    codeAny (model prog w) A (.call (.ref C) ⟨rest, kw⟩) R ⟨h, g, d, t, os⟩ := by
  have f1 := tc_lookup
  have f2 := tc_bind (.ref C)
  have hTy : (⟨h, g, d, t, os⟩ : Shared).TypeIs (.ref C) "type" := ⟨_, hC, rfl⟩
  refine codeAny_of_tree ?_
  show wpAny _ _ (callAny (.ref C) _) _ _ _
  repeat (any_goals (first | assumption | with_reducible refine wpAny_loadPart_at hC ?_ | wp_step))
  refine ⟨rfl, ?_⟩
  refine codeAny_call_builtin_at (Code.quiet_builtin _ (by decide +kernel)) entry_typeCall (wpAny_check_type_call_sub hC (type_call_ownK F hT hC hi hb hrest hkw ?_))
  refine codeAny_mono hq fun r s' z => ?_
  rcases r with e | (v | _ | _ | _) <;> exact z
end
/-- C(e, ..) as a value, C's own __init__ keeping sp -/
def tExV (C : Addr) (sp : Sp) (ta : TA) : TE := fun σ H Q => ta σ H fun vs H1 => vs.length ≤ 1000 ∧ ∀ a, H1 a = none → sp (.ref a :: vs) (upd H1 a (exo a C none)) (fun v H2 => v = .non ∧ Q (.ref a) H2) (fun _ _ _ => False)
/-- C(k = e, ..) -/
def tExK (C : Addr) (n : Nat) (sp : Sp) (tk : TA) : TE := fun σ H Q => tk σ H fun vs H1 => vs.length = n ∧ ∀ a, H1 a = none → sp (.ref a :: vs) (upd H1 a (exo a C none)) (fun v H2 => v = .non ∧ Q (.ref a) H2) (fun _ _ _ => False)
/-- the class at C, by its name, and its __init__ -/
structure MakX (P : Program) (w : World) (K : PySem.W.Frag) (mg : Str → Option Value) (base : Heap) (k : Nat) (x : Str) (C : Addr) (ps : List Str) (sp : Sp) : Prop where
  ex : ∃ (f : Addr) (fd : FuncData), FnOk P w K mg base CX0 k f fd (("self" : Str) :: ps) sp ∧ mg x = some (.ref C) ∧ OexC K C ∧ PySem.W.findIn K (.ref C) "__init__" = some (some (.ref f)) ∧ PySem.W.typeIn K (.ref f) = some (.type "function") ∧
    (∀ (s : Shared) (us : List Value), us.length = ps.length + 1 → BindsTo s fd ⟨us, []⟩ ((("self" : Str) :: ps).zip us)) ∧
    (∀ (s : Shared) (u : Value) (us : List Value), us.length = ps.length → BindsTo s fd ⟨[u], ps.zip us⟩ ((("self" : Str) :: ps).zip (u :: us)))
section
variable {X : Cx} {k j : Nat} {x : Str} {C : Addr} {ps : List Str} {sp : Sp} {e : Expr} {es : List Expr} {ta tk : TA} {p pos : Pos} {kws : List Keyword}
/-- both ways of making one -/
theorem run_mkX {pins : List (Addr × Obj)} {σ : L2.St} {H1 : Hp} {s1 : Shared} {Q : VK} {vs : List V} {us : List Value} {args : Args} {f : Addr} {fd : FuncData} (T : OexC X.K C) (F : FnOk X.prog X.w X.K X.mg X.base CX0 k f fd (("self" : Str) :: ps) sp)
    (iC : PySem.W.findIn X.K (.ref C) "__init__" = some (some (.ref f))) (tI : PySem.W.typeIn X.K (.ref f) = some (.type "function")) (hr : Room (k + 1) X.A) (I1 : Inv X pins σ H1 s1) (r1 : Vals vs us) (hl : us.length ≤ sizeLine)
    (hargs : (args = ⟨us, []⟩ ∧ ∀ (s : Shared) (us : List Value), us.length = ps.length + 1 → BindsTo s fd ⟨us, []⟩ ((("self" : Str) :: ps).zip us)) ∨ (args = ⟨[], ps.zip us⟩ ∧ 0 < (ps.zip us).length ∧ ∀ (s : Shared) (u : Value) (us : List Value), us.length = ps.length → BindsTo s fd ⟨[u], ps.zip us⟩ ((("self" : Str) :: ps).zip (u :: us))))
    (q1 : ∀ a, H1 a = none → sp (.ref a :: vs) (upd H1 a (exo a C none)) (fun v H2 => v = .non ∧ Q (.ref a) H2) (fun _ _ _ => False)) :
    wpAny (model X.prog X.w) X.A (call (.ref C) args.pos args.kw) (EP X pins σ Q) X.xe s1 := by
  obtain ⟨nm, q, N, bs, bm, sn, sub, ab, col, dd, k0, k1, k2, k3, k5, hC, hbm⟩ := T.cls
  obtain ⟨hp, g, dr, tk, os⟩ := s1
  have hsz : hp.objs.size ≤ hp.objs.size + 1 := Nat.le_succ _
  have hn : H1 (hp.objs.size + 1) = none := I1.hok.fresh hsz
  have hq := q1 (hp.objs.size + 1) hn
  have l1 : vs.length = ps.length := Nat.succ.inj (F.len _ _ _ _ hq)
  have l2 : us.length = ps.length := r1.length.symm.trans l1
  have made : ∀ (rest : List Value), Inv X pins σ (upd H1 (hp.objs.size + 1) (exo (hp.objs.size + 1) C none)) ⟨(hp.push (PySem.W.kdv_tup rest)).push (PySem.HandSPX.excO C hp.objs.size), g, dr, tk, os⟩ := fun rest => by
    have kk : ∀ b o, hp.get? b = some o → ((hp.push (PySem.W.kdv_tup rest)).push (PySem.HandSPX.excO C hp.objs.size)).get? b = some o := fun b o e => Heap.get?_push_of_some _ (Heap.get?_push_of_some _ e)
    have hget : ((hp.push (PySem.W.kdv_tup rest)).push (PySem.HandSPX.excO C hp.objs.size)).get? (hp.objs.size + 1) = some (PySem.HandSPX.excO C hp.objs.size) := by heap_get
    exact I1.laid (t' := tk) (a := hp.objs.size + 1) (o := exo (hp.objs.size + 1) C none) kk hsz (exo_ok hget)
  have r2 : Vals (V.ref (hp.objs.size + 1) :: vs) (Value.ref (hp.objs.size + 1) :: us) := .cons rfl r1
  have fin : ∀ {I2s : Shared} (I2 : Inv X pins σ (upd H1 (hp.objs.size + 1) (exo (hp.objs.size + 1) C none)) I2s) (r : Result) (s' : Shared), CR CX0 X.stack X.prog X.w (upd H1 (hp.objs.size + 1) (exo (hp.objs.size + 1) C none)) I2s (fun v H2 => v = .non ∧ Q (.ref (hp.objs.size + 1)) H2) (fun _ _ _ => False) r s' →
      PySem.W.InitBack (hp.objs.size + 1) (wants (EP X pins σ Q) X.xe) r s' := fun {I2s} I2 r s' hq' => by
    cases r with
    | error er => exact hq'.elim
    | ok fl =>
      cases fl with
      | ret u =>
        obtain ⟨v, H2, J, rv, ev, q2⟩ := I2.after hq'
        subst ev
        exact ⟨rv, ⟨V.ref (hp.objs.size + 1), H2, J, rfl, q2⟩⟩
      | next => exact False.elim hq'
      | brk => exact False.elim hq'
      | cont => exact False.elim hq'
  rcases hargs with ⟨rfl, hb⟩ | ⟨rfl, hk0, hb⟩
  · have I2 := made us
    refine wpAny_call (PySem.HandSPX.call_own PySem.F.excBase_ValueError (fun Y => PySem.HandSPX.refsVE_contains Y bm hbm) (I1.kIn _ _ hC) (PySem.W.looks_findIn I1.kIn iC) (fun self => PySem.W.bind_fn I1.kIn self tI) hl
      (codeAny_mono (F.run _ X.stack _ _ ⟨Value.ref (hp.objs.size + 1) :: us, []⟩ (Value.ref (hp.objs.size + 1) :: us) _ _ (fun _ _ _ => False) (hr.make C us []) (I2.env0.make C us []) (hb _ _ (by rw [List.length_cons, l2])) r2 hq) (fin I2)))
  · have I2 := made []
    refine wpAny_call (call_ownK PySem.F.excBase_ValueError (fun Y => PySem.HandSPX.refsVE_contains Y bm hbm) (I1.kIn _ _ hC) (PySem.W.looks_findIn I1.kIn iC) (fun self => PySem.W.bind_fn I1.kIn self tI) (Nat.zero_le _) hk0
      (codeAny_mono (F.run _ X.stack _ _ ⟨[Value.ref (hp.objs.size + 1)], ps.zip us⟩ (Value.ref (hp.objs.size + 1) :: us) _ _ (fun _ _ _ => False) (hr.make C [] (ps.zip us)) (I2.env0.make C [] (ps.zip us)) (hb _ _ us l2) r2 hq) (fin I2)))
theorem pe_exV (c : MakX X.prog X.w X.K X.mg X.base k x C ps sp) (hr : Room j X.A) (hk : k + 1 ≤ j) (hg : Gl X x) (ha : PA X (e :: es) ta) (hdb : (x == ("__debug__" : Str)) = false := by decide)
    (he : starEach (e :: es) X.env = (false, eval e X.env) :: starEach es X.env := by rfl) (hpl : (backTo pos (starEach es X.env)).any (·.1) = false := by rfl) : PE X (.Call (.Name x p) (e :: es) [] pos) (tExV C sp ta) := by
  obtain ⟨f, fd, F, hm, T, iC, tI, b1, b2⟩ := c.ex
  refine ⟨fun pins s σ H Q I h => ?_⟩
  refine wpAny_Call_Name_kw (ld_glob I hg hm ?_ hdb)
  refine PySem.W.callWith_K (h₀ := X.base) I.ok.mod.kin T.kC (thn (ha.run pos pins s σ H _ I h) fun us s1 ⟨vs, H1, I1, r1, hz, q1⟩ => ⟨I1.kIn, ?_⟩) he hpl
  exact run_mkX T F iC tI (hr.mono hk) I1 r1 (by rw [← Paired.length r1, sizeLine_eq]; omega) (.inl ⟨rfl, b1⟩) q1
theorem pe_exK (c : MakX X.prog X.w X.K X.mg X.base k x C ps sp) (hr : Room j X.A) (hk : k + 1 ≤ j) (hg : Gl X x) (h0 : 0 < ps.length) (hps : ps.length ≤ sizeLine) (hkw : PK X kws tk) (hall : (backToKw pos (keywordEach kws X.env)).all (·.1.isSome) = true := by rfl) (hks : (backToKw pos (keywordEach kws X.env)).filterMap (·.1) = ps := by rfl) (hdb : (x == ("__debug__" : Str)) = false := by decide)
    (hpl : ((backTo pos (starEach [] X.env)).any (·.1) || (backToKw pos (keywordEach kws X.env)).any (·.1.isNone)) = false := by rfl) : PE X (.Call (.Name x p) [] kws pos) (tExK C ps.length sp tk) := by
  obtain ⟨f, fd, F, hm, T, iC, tI, b1, b2⟩ := c.ex
  refine ⟨fun pins s σ H Q I h => ?_⟩
  refine wpAny_Call_Name_kw (ld_glob I hg hm ?_ hdb)
  refine PySem.W.callWith_KW0 (h₀ := X.base) I.ok.mod.kin T.kC hall ?_ hpl
  refine thn (hkw.run pos pins s σ H _ I h) fun ws s2 ⟨zs, H2, I2, rz, l1, q2⟩ => ⟨I2.kIn, ?_⟩
  rw [hks]
  have l2 : ws.length = ps.length := rz.length.symm.trans l1
  exact run_mkX (args := ⟨[], ps.zip ws⟩) T F iC tI (hr.mono hk) I2 rz (by rw [l2]; exact hps) (.inr ⟨rfl, by rw [List.length_zip]; omega, b2⟩) q2
end
end XS
set_option Elab.async false
set_option linter.all false
set_option maxRecDepth 100000
set_option autoImplicit false
set_option maxHeartbeats 4000000
/-! X3: exceptions held as values: isinstance, fields, made; as data. -/
namespace XS
open PySem PySem.Spec PyProof.Rows L2 DL
/-- an exception of the class at C stands at a -/
inductive ExAt (H : Hp) (a C : Addr) : Prop where
  | n (e : H a = some (ExO (.ref C) a))
  | d {dx : Addr} {fs : List (Str × V)} (e : H a = some (exo a C (some dx))) (g : H dx = some (exd dx fs))
section
variable {P : Program} {w : World} {K : PySem.W.Frag} {H : Hp} {h : Heap} {a C : Addr}
theorem lookIn_ns1 {dx : Addr} {mA : Str → Option Value} (hn : h.Ns1 dx mA) : ∃ od, h.get? dx = some od ∧ ∀ f, PySem.W.lookIn f od = some (mA f) := by
  obtain ⟨o, es, n, e, hd, hw, hm⟩ := hn
  exact lookIn_ns ⟨o, es, n, e, hd, hw, hm⟩
theorem ExAt.inst (hok : HOk P w H h) (z : ExAt H a C) : ∃ ox od, PySem.W.InstAt h a ox C od := by
  cases z with
  | n e =>
    obtain ⟨⟨oe, vs, ho, hz, hd, _⟩, _, _⟩ := hok a _ e
    obtain ⟨oc, odd, dt, osl⟩ := oe
    obtain ⟨h1, h2⟩ := hz
    dsimp only at h1 h2 hd
    subst h1 h2 hd
    exact ⟨_, none, ho, rfl, rfl, trivial⟩
  | d e g =>
    obtain ⟨t1, ho⟩ := exo_at hok e
    obtain ⟨mA, hn, _⟩ := exd_at hok g
    obtain ⟨od, hod, _⟩ := lookIn_ns1 hn
    exact ⟨_, some od, ho, rfl, rfl, hod⟩
end
/-- isinstance(e, c), e an exception held as a value -/
def rIsX (K : PySem.W.Frag) : List V → Hp → VK → Prop := fun xs H Q => ∃ (a C : Addr) (c : V) (u : Value) (b : Bool), xs = [.ref a, c] ∧ ClsV c u ∧ ExAt H a C ∧ ExcC K C ∧ PySem.W.kitOne K (.ref C) u = some b ∧ Q (.bl b) H
theorem call_isX {X : Cx} : CallR X (.builtin "isinstance") (rIsX X.K) := by
  intro pins s σ H xs us Q I r h
  obtain ⟨a, C, c, u, b, rfl, k, z, cc, e, q⟩ := h
  obtain ⟨u1, u2, rfl, r1, r2⟩ := vals2 r
  have e2 := k.eq r2
  subst e2
  cases (show u1 = Value.ref a from r1)
  obtain ⟨ox, od, J⟩ := z.inst I.hok
  have hcl : (PySem.W.clsIn X.K C).isSome = true := by
    obtain ⟨cd, e1, _⟩ := PySem.W.any_some cc.hd
    rw [e1]; rfl
  exact PySem.W.kia_one (PySem.W.kitx_exc hcl cc.hg cc.hk cc.hs cc.ha cc.hn cc.ht cc.hm) I.kIn J e (fun z => nomatch z) fun tk => ⟨.bl b, H, I.tok tk, rfl, q⟩
/-- e.f, e an exception held as a value -/
def tXa (K : PySem.W.Frag) (f : Str) (te : TE) : TE := fun σ H Q => te σ H fun x H1 => ∃ (a C dx : Addr) (fs : List (Str × V)) (v : V), x = .ref a ∧ H1 a = some (exo a C (some dx)) ∧ H1 dx = some (exd dx fs) ∧ XfC K C ∧ PySem.W.findIn K (.ref C) f = some none ∧ fs.lookup f = some v ∧ Q v H1
theorem pe_xa {X : Cx} {e : Expr} {te : TE} {pos : Pos} {n : Str} (he : PE X e te) (hb : attributeBase e n X.env (eval e X.env) = eval e X.env := by rfl) : PE X (.Attribute e n pos) (tXa X.K n te) := by
  refine ⟨fun pins s σ H Q I h => ?_⟩
  refine attr_of hb (thn (he.run pins s σ H _ I h) fun u s1 hh => ?_)
  obtain ⟨x, H1, I1, rx, a, C, dx, fs, v, ex, ea, ed, T, hno, l, q⟩ := hh
  subst ex
  obtain rfl : u = Value.ref a := rx
  obtain ⟨t1, ho⟩ := exo_at I1.hok ea
  obtain ⟨mA, hns, hr⟩ := exd_at I1.hok ed
  obtain ⟨od, hod, hl⟩ := lookIn_ns1 hns
  obtain ⟨u, hu, ru⟩ := RelO.some_of (v := v) (o := mA n) (by rw [← l]; exact hr n)
  have J : PySem.W.InstAt s1.heap a _ C (some od) := ⟨ho, rfl, rfl, hod⟩
  exact HandSPX.exc_get I1.kIn J T.ga T.gg T.exC (PySem.W.findObj_own T.hdC hno rfl (by rw [hl, hu])) (handed_of ru) ⟨v, H1, I1.tok _, ru, q⟩
/-! ### as data -/
/-- an exception without fields -/
def exN (C : Addr) : D := .opq fun F v => ∃ a, v = .ref a ∧ F a = some (ExO (.ref C) a)
/-- an exception with fields -/
def exD (C : Addr) (fs : List (Str × V)) : D := .opq fun F v => ∃ a dx, v = .ref a ∧ F a = some (exo a C (some dx)) ∧ F dx = some (exd dx fs)
/-- data that is an exception of the class at C -/
def IsX (C : Addr) (d : D) : Prop := d = exN C ∨ ∃ fs, d = exD C fs
theorem IsX.at {C : Addr} {d : D} {F H : Hp} {v : V} (h : IsX C d) (e : Ex F H) (r : Rep F d v) : ∃ a, v = .ref a ∧ ExAt H a C := by
  rcases h with rfl | ⟨fs, rfl⟩
  · obtain ⟨F0, e0, a, rfl, h1⟩ := r
    exact ⟨a, rfl, .n (e _ _ (e0 _ _ h1))⟩
  · obtain ⟨F0, e0, a, dx, rfl, h1, h2⟩ := r
    exact ⟨a, rfl, .d (e _ _ (e0 _ _ h1)) (e _ _ (e0 _ _ h2))⟩
section
variable {K : PySem.W.Frag} {Γ : List En} {te : TE} {ta : TA} {d x z : D} {C : Addr} {ds args : List D} {fs : List (Str × V)}
theorem rc_isX {b : Bool} {c : D} {cv : V} {u : Value} (h : IsX C x) (hc : ∀ F v, Rep F c v → v = cv) (k : ClsV cv u) (cc : ExcC K C) (hb : PySem.W.kitOne K (.ref C) u = some b) : RC (rIsX K) [x, c] (.bl b) := fun F H vs e r Q q => by
  obtain ⟨v, _, rfl, rv, w, _, rfl, rw', rfl⟩ := r
  obtain ⟨a, rfl, hx⟩ := h.at e rv
  have e1 := hc _ _ rw'
  subst e1
  exact ⟨a, C, w, u, b, rfl, k, hx, cc, hb, q _ F H (.refl e) rfl⟩
/-- e.f -/
theorem ep_xa {f : Str} {v : V} (h : EvP te Γ (exD C fs)) (T : XfC K C) (hno : PySem.W.findIn K (.ref C) f = some none) (hl : fs.lookup f = some v) (hd : ∀ F, Rep F d v) : EvP (tXa K f te) Γ d := fun c F H σ G Q k => h c F H σ G _ fun u F1 H1 S1 r => by
  obtain ⟨F0, e0, a, dx, rfl, h1, h2⟩ := r
  exact ⟨a, C, dx, fs, v, rfl, S1.fh _ _ (e0 _ _ h1), S1.fh _ _ (e0 _ _ h2), T, hno, hl, k v F1 H1 S1 (hd _)⟩
/-- C(e), no __init__ of its own -/
theorem ep_x1 (h : EvP te Γ d) : EvP (fun σ H Q => te σ H fun _ H1 => ∀ a, H1 a = none → Q (.ref a) (upd H1 a (ExO (.ref C) a))) Γ (exN C) := fun c F H σ G Q k => h c F H σ G _ fun v F1 H1 S1 r a ha =>
  k (.ref a) _ _ (S1.trans (Stp.new S1.fh _ ha)) ⟨_, Ex.refl _, a, rfl, upd_same⟩
/-- the promise of an __init__: the exception that is made has the fields fs -/
def spX (C : Addr) (I : List D → List (Str × V) → Prop) : Sp := fun vs H Q _ => ∃ (F H0 : Hp) (s : Addr) (ws : List V) (args : List D) (fs : List (Str × V)), vs = .ref s :: ws ∧ Ex F H0 ∧ H = upd H0 s (exo s C none) ∧ H0 s = none ∧ Reps F args ws ∧ I args fs ∧
  ∀ F' H', Stp F H0 F' H' → Rep F' (exD C fs) (.ref s) → Q .non H'
variable {I : List D → List (Str × V) → Prop}
theorem ep_xV (ha : EaP ta Γ args) (hI : I args fs) (hl : args.length ≤ 1000) : EvP (tExV C (spX C I) ta) Γ (exD C fs) := fun c F H σ G Q k => ha c F H σ G _ fun vs F1 H1 S1 r1 => ⟨by rw [r1.length]; exact hl, fun a hn =>
  ⟨F1, H1, a, vs, args, fs, rfl, S1.fh, rfl, hn, r1, hI, fun F' H' S r => ⟨rfl, k _ F' H' (S1.trans S) r⟩⟩⟩
theorem ep_xK {n : Nat} (ha : EaP ta Γ args) (hI : I args fs) (hn : args.length = n) : EvP (tExK C n (spX C I) ta) Γ (exD C fs) := fun c F H σ G Q k => ha c F H σ G _ fun vs F1 H1 S1 r1 => ⟨by rw [r1.length]; exact hn, fun a hn =>
  ⟨F1, H1, a, vs, args, fs, rfl, S1.fh, rfl, hn, r1, hI, fun F' H' S r => ⟨rfl, k _ F' H' (S1.trans S) r⟩⟩⟩
/-- the exception as it stands at the end of such an __init__ -/
theorem stp_made {F H0 : Hp} {s dx : Addr} (e : Ex F H0) (h0 : H0 s = none) (hd : H0 dx = none) (ne : dx ≠ s) :
    Stp F H0 (upd (upd F dx (exd dx fs)) s (exo s C (some dx))) (upd (upd H0 dx (exd dx fs)) s (exo s C (some dx))) ∧ Rep (upd (upd F dx (exd dx fs)) s (exo s C (some dx))) (exD C fs) (.ref s) := by
  have S1 := Stp.new e (exd dx fs) hd
  have n1 : upd H0 dx (exd dx fs) s = none := by rw [upd_ne (fun z => ne z.symm)]; exact h0
  have S2 := Stp.new S1.fh (exo s C (some dx)) n1
  exact ⟨S1.trans S2, _, Ex.refl _, s, dx, rfl, upd_same, by rw [upd_ne ne, upd_same]⟩
end
end XS
set_option Elab.async false
set_option linter.all false
set_option maxRecDepth 100000
set_option autoImplicit false
set_option maxHeartbeats 4000000
/-! P9: a list lent as the last argument (a slot's, or a new one); comprehensions whose tests and elements change slots' lists. -/
namespace DL
open PySem PySem.Spec PyProof.Rows L2
section
variable {K : PySem.W.Frag} {Γ Γ' : List En} {te ta tb tl : TE} {tt : TT} {x y z : D} {ds es : List D} {R : D → List En → Prop} {R' : D → List En → Prop} {C : Cn} {g : TG} {wi : TI}
theorem argOk_app : ∀ {es : List D} {ds : List D}, argOk (es.map En.sh ++ [.lent ds])
  | [], _ => trivial
  | _ :: es, _ => argOk_app (es := es)
theorem sp_last {vs : List V} {xs : List V} {a : Addr} {F1 H1 : Hp} {Q : VK} (x1 : Ex F1 H1) (r1 : Reps F1 es vs) (f1 : F1 a = none) (e1 : H1 a = some (.lst xs)) (rx : Reps F1 ds xs) (hc : C (es.map .sh ++ [.lent ds]) R') (hl : ∀ e Γ', R' e Γ' → ∃ ds', Γ'[es.length]? = some (.lent ds'))
    (k : ∀ v e Γ' ds' ys F' H', R' e Γ' → Γ'[es.length]? = some (.lent ds') → Stp F1 H1 F' (upd H' a (.lst xs)) → F' a = none → H' a = some (.lst ys) → Reps F' ds' ys → Rep F' e v → Q v H') : spE C (vs ++ [.ref a]) H1 Q E0 := by
  have hlen := r1.length
  have at_ : ∀ {j : Nat} {e : En}, (es.map En.sh ++ [.lent ds])[j]? = some e → (j = es.length ∧ e = .lent ds) ∨ (j < es.length ∧ (es.map En.sh)[j]? = some e) := fun {j e} he => by
    by_cases q : j < es.length
    · rw [List.getElem?_append_left (by rw [List.length_map]; exact q)] at he; exact .inr ⟨q, he⟩
    · rw [List.getElem?_append_right (by rw [List.length_map]; omega), List.length_map] at he
      have h0 : j - es.length = 0 := by
        have := (List.getElem?_eq_some_iff.mp he).1
        simp at this; omega
      rw [h0] at he
      exact .inl ⟨by omega, (Option.some.inj he).symm⟩
  have Gc : Good ⟨F1, H1, fun j => if j = es.length then some a else none⟩ F1 H1 ((vs ++ [V.ref a]).map some) (es.map .sh ++ [.lent ds]) := by
    refine ⟨Ex.refl _, x1, fun _ _ e _ => e, fun b ⟨j, e⟩ => ?_, fun _ e => .inl e, by simp [hlen], fun j e he => ?_, fun p q b e e' k1 k2 m1 m2 k3 k4 => ?_⟩
    · dsimp only at e
      by_cases z : j = es.length
      · rw [if_pos z] at e; cases e; exact ⟨_, e1⟩
      · rw [if_neg z] at e; cases e
    · rcases at_ he with ⟨rfl, rfl⟩ | ⟨hj, he⟩
      · refine ⟨some (.ref a), ?_, a, xs, rfl, f1, e1, rx, if_pos rfl⟩
        rw [List.map_append, List.getElem?_append_right (by rw [List.length_map, hlen]; exact Nat.le_refl _), List.length_map, hlen, Nat.sub_self]
        rfl
      · obtain ⟨d, v, rfl, q1, q2⟩ := reps_slots r1 j e he
        exact ⟨some v, by rw [List.map_append, List.getElem?_append_left (by rw [List.length_map, hlen]; exact hj)]; exact q1, v, rfl, q2⟩
    · have f : ∀ {j : Nat} {e : En}, (es.map En.sh ++ [.lent ds])[j]? = some e → e.mut = true → j = es.length := fun {j e} he m => by
        rcases at_ he with ⟨h, _⟩ | ⟨_, he⟩
        · exact h
        · obtain ⟨d, v, rfl, _, _⟩ := reps_slots r1 j e he
          cases m
      rw [f k1 m1, f k2 m2]
  refine ⟨_, F1, _, R', Gc, argOk_app, hc, fun v e Γ' F' H' hr G' x' r => ?_⟩
  obtain ⟨ds', h1⟩ := hl e Γ' hr
  obtain ⟨b, ys, q1, q2, q3, q4, q5⟩ := G'.lent h1
  have eb : b = a := by
    rw [List.map_append, List.getElem?_append_right (by rw [List.length_map, hlen]; exact Nat.le_refl _), List.length_map, hlen, Nat.sub_self] at q1
    simpa using q1.symm
  subst eb
  refine k v e Γ' ds' ys F' H' hr h1 ⟨x', fun p o q => ?_, fun p o q => ?_, G'.nw⟩ q2 q3 q4 r
  · by_cases z : p = b
    · subst z; rw [e1] at q; cases q; exact upd_same
    · rw [upd_ne z]
      exact G'.hh p o q fun ⟨j, e⟩ => by
        dsimp only at e
        by_cases w : j = es.length
        · rw [if_pos w] at e; cases e; exact z rfl
        · rw [if_neg w] at e; cases e
  · have np : p ≠ b := fun z => by subst z; rw [q2] at q; cases q
    rw [upd_ne np]; exact G'.fh p o q
theorem upd_back {H' : Hp} {b : Addr} {o u : HO} (h : H' b = some u) : upd (upd H' b o) b u = H' := by
  rw [upd_upd]
  funext p
  by_cases z : p = b
  · subst z; rw [upd_same, h]
  · rw [upd_ne z]
/-- f(x, y, l), l the list of slot i -/
theorem ew_callL {i : Nat} (hm : Mt Γ i ds) (ha : EvP ta Γ x) (hb : EvP tb Γ y) (hc : C [.sh x, .sh y, .lent ds] R') (hR : ∀ e Γ', R' e Γ' → ∃ ds', Γ'[2]? = some (.lent ds') ∧ R e (pt Γ i ds')) : EvW (tCall (spE C) [] E0 (tCons ta (tCons tb (tCons (tVar i) tNil)))) Γ R := fun c F H σ G Q k =>
  ha c F H σ G _ fun v F1 H1 S1 r1 => hb c F1 H1 σ (G.step S1) _ fun u F2 H2 S2 r2 => by
    have S12 := S1.trans S2
    have G2 := G.step S12
    obtain ⟨a, xs, e0, h1, h2, h3, h4, h5, h6⟩ := G2.mt hm
    refine ⟨_, h1, ?_⟩
    show spE C ([v, u, .ref a] ++ []) H2 Q E0
    refine sp_last (es := [x, y]) (vs := [v, u]) S2.fh ⟨v, _, rfl, r1.mono S2.f, u, _, rfl, r2, rfl⟩ h4 h2 h3 hc (fun e Γ' hr => (hR e Γ' hr).imp fun _ q => q.1) fun w e Γ' ds' ys F' H' hr hl S3 q2 q3 q4 r => ?_
    obtain ⟨ds2, hl2, hr2⟩ := hR e Γ' hr
    have ed : ds2 = ds' := by
      have hl' : Γ'[2]? = some (.lent ds') := hl
      rw [hl2] at hl'; cases hl'; rfl
    subst ed
    have G3 := (G2.step S3).pt hm h1 q4
    rw [upd_back q3] at G3
    refine k w e _ F' H' hr2 G3 (S12.f.trans S3.f) (fun p o e n => ?_) r
    have np : p ≠ a := fun z => by
      subst z
      rcases hm with hm | hm
      · exact n i _ hm rfl h1
      · exact n i _ hm rfl h1
    obtain ⟨t1, t2, t3⟩ := Fr.stp (S12.trans S3) p o e n
    rw [upd_ne np] at t1
    refine ⟨t1, t2, fun j e' he m q => ?_⟩
    unfold pt at he
    by_cases z : i = j
    · subst z; rw [h1] at q; cases q; exact np rfl
    · rw [List.getElem?_set_ne z] at he; exact n j e' he m q
/-- f(x, y, [..]): a new list, which the call may change -/
theorem ep_callF (ha : EvP ta Γ x) (hb : EvP tb Γ y) (hf : EvF tl Γ ds) (hc : C [.sh x, .sh y, .lent ds] R') (hR : ∀ e Γ', R' e Γ' → e = z ∧ ∃ ds', Γ'[2]? = some (.lent ds')) : EvP (tCall (spE C) [] E0 (tCons ta (tCons tb (tCons tl tNil)))) Γ z := fun c F H σ G Q k =>
  ha c F H σ G _ fun v F1 H1 S1 r1 => hb c F1 H1 σ (G.step S1) _ fun u F2 H2 S2 r2 => hf c F2 H2 σ ((G.step S1).step S2) _ fun a xs F3 H3 S3 n3 f3 e3 rx => by
    have S12 := S1.trans S2
    have S13 := S12.trans S3
    show spE C ([v, u, .ref a] ++ []) H3 Q E0
    refine sp_last (es := [x, y]) (vs := [v, u]) S3.fh ⟨v, _, rfl, (r1.mono S2.f).mono S3.f, u, _, rfl, r2.mono S3.f, rfl⟩ f3 e3 rx hc (fun e Γ' hr => (hR e Γ' hr).2) fun w e Γ' ds' ys F' H' hr hl S4 q2 q3 q4 r => ?_
    have ez := (hR e Γ' hr).1
    subst ez
    have S14 := S13.trans S4
    have hn : H a = none := by
      cases q : H a with
      | none => rfl
      | some o => rw [S12.h _ _ q] at n3; cases n3
    refine k w F' H' ⟨S14.f, fun p o q => ?_, fun p o q => ?_, S14.nw⟩ r
    · have np : p ≠ a := fun z => by subst z; rw [hn] at q; cases q
      have := S14.h p o q
      rwa [upd_ne np] at this
    · have np : p ≠ a := fun z => by subst z; rw [q2] at q; cases q
      have := S14.fh p o q
      rwa [upd_ne np] at this
/-! ### comprehensions with effects -/
def EtF (tt : TT) (Γ : List En) (R : Bool → List En → Prop) : Prop := ∀ c F H σ, Good c F H σ Γ → ∀ Q : Bool → Hp → Prop, (∀ b Γ' F' H', R b Γ' → Good c F' H' σ Γ' → Ex F F' → Fr σ Γ Γ' F H F' H' → Q b H') → tt σ H Q
theorem etf_test {Rb : Bool → List En → Prop} (h : EvW te Γ R) (hr : ∀ e Γ', R e Γ' → ∃ b, e = .bl b ∧ Rb b Γ') : EtF (tTest te) Γ Rb := fun c F H σ G Q k => h c F H σ G _ fun v e Γ' F' H' he G' x fr r => by
  obtain ⟨b, rfl, hb⟩ := hr e Γ' he
  exact ⟨b, r, k b Γ' F' H' hb G' x fr⟩
theorem etf_yes {Rb : Bool → List En → Prop} (h : Rb true Γ) : EtF tYes Γ Rb := fun c F H σ G Q k => k true Γ F H h G (Ex.refl _) (Fr.stp (.refl G.fh))
/-- a new list, slots' lists changed meanwhile -/
def EvFW (te : TE) (Γ : List En) (R : List D → List En → Prop) : Prop := ∀ c F H σ, Good c F H σ Γ → ∀ Q : VK, (∀ a xs ds Γ' F' H', R ds Γ' → Good c F' H' σ Γ' → Ex F F' → NoSlot σ Γ' a → c.H0 a = none → F' a = none → H' a = some (.lst xs) → Reps F' ds xs → Q (.ref a) H') → te σ H Q
theorem sw_asgFW {i : Nat} {Rl : List D → List En → Prop} {P : Po} (h : EvFW te Γ Rl) (hn : ∀ ds Γ', Rl ds Γ' → P.nx (Γ'.set i (.own ds))) : SW (tAsg te (gName i)) Γ P := fun c F H σ G D a b e f => h c F H σ G _ fun p xs ds Γ' F' H' hr G' x n h0 nf eq r =>
  a _ F' H' _ (hn ds Γ' hr) (G'.setOwn n nf eq r h0) x
theorem wipG_len (Γ : List En) : ∀ vs : List Nat, (wipG Γ vs).length = Γ.length
  | [] => rfl
  | v :: vs => by unfold wipG; rw [List.length_set]; exact wipG_len Γ vs
theorem wipG_at (Γ : List En) : ∀ (vs : List Nat) (j : Nat), (wipG Γ vs)[j]? = if j ∈ vs then Γ[j]?.map (fun _ => En.un) else Γ[j]?
  | [], j => by simp [wipG]
  | v :: vs, j => by
    unfold wipG
    by_cases z : v = j
    · subst z
      rw [List.getElem?_set, wipG_at Γ vs v]
      rw [if_pos rfl, wipG_len]
      simp only [List.mem_cons, true_or, if_true]
      by_cases q : v < Γ.length
      · rw [if_pos q, List.getElem?_eq_getElem q]; rfl
      · rw [if_neg q, List.getElem?_eq_none (by omega)]; rfl
    · rw [List.getElem?_set_ne z, wipG_at Γ vs j]
      have e : (j ∈ v :: vs) ↔ j ∈ vs := by simp [Ne.symm z]
      simp [e]
theorem wipG_mut {vs : List Nat} {j : Nat} {e : En} (h : (wipG Γ vs)[j]? = some e) (m : e.mut = true) : j ∉ vs ∧ Γ[j]? = some e := by
  rw [wipG_at] at h
  by_cases z : j ∈ vs
  · rw [if_pos z] at h
    cases q : Γ[j]? with
    | none => rw [q] at h; cases h
    | some u => rw [q] at h; cases h; cases m
  · rw [if_neg z] at h; exact ⟨z, h⟩
/-- the slots vs are forgotten, whatever they hold then -/
theorem Good.unw {c : Ct} {F H : Hp} {σ τ : L2.St} {vs : List Nat} (G : Good c F H σ Γ) (h : ∀ j, j ∉ vs → σ[j]? = τ[j]?) (hl : σ.length = τ.length) : Good c F H τ (wipG Γ vs) where
  ff := G.ff
  fh := G.fh
  hh := G.hh
  li := G.li
  nw := G.nw
  len := by rw [wipG_len, ← hl]; exact G.len
  en := fun i e he => by
    have he0 := he
    rw [wipG_at] at he
    by_cases z : i ∈ vs
    · rw [if_pos z] at he
      cases q : Γ[i]? with
      | none => rw [q] at he; cases he
      | some u =>
        rw [q] at he
        cases he
        have hi : i < τ.length := by rw [← hl, G.len]; exact (List.getElem?_eq_some_iff.mp q).1
        exact ⟨τ[i], List.getElem?_eq_getElem hi, trivial⟩
    · rw [if_neg z] at he
      obtain ⟨o, h1, h2⟩ := G.en i e he
      exact ⟨o, by rw [← h i z]; exact h1, h2⟩
  dj := fun i j a e e' h1 h2 m1 m2 h3 h4 => by
    obtain ⟨z1, k1⟩ := wipG_mut h1 m1
    obtain ⟨z2, k2⟩ := wipG_mut h2 m2
    rw [← h i z1] at h3
    rw [← h j z2] at h4
    exact G.dj i j a e e' k1 k2 m1 m2 h3 h4
theorem noSlot_unw {σ τ : L2.St} {vs : List Nat} {a : Addr} (n : NoSlot σ Γ a) (h : ∀ j, j ∉ vs → σ[j]? = τ[j]?) : NoSlot τ (wipG Γ vs) a := fun j e he m q => by
  obtain ⟨z, k⟩ := wipG_mut he m
  exact n j e k m (by rw [h j z]; exact q)
/-- a loose list that no slot holds is written -/
theorem Good.wrL {c : Ct} {F H : Hp} {σ : L2.St} {a : Addr} {o : HO} (G : Good c F H σ Γ) (n : NoSlot σ Γ a) (f : F a = none) (h0 : c.H0 a = none) : Good c F (upd H a o) σ Γ where
  ff := G.ff
  fh := fun b u q => by
    have nb : b ≠ a := fun z => by subst z; rw [f] at q; cases q
    rw [upd_ne nb]; exact G.fh _ _ q
  hh := fun b u q l => by
    have nb : b ≠ a := fun z => by subst z; rw [h0] at q; cases q
    rw [upd_ne nb]; exact G.hh _ _ q l
  li := fun b l => by
    by_cases z : b = a
    · subst z; exact ⟨_, upd_same⟩
    · rw [upd_ne z]; exact G.li b l
  nw := G.nw
  len := G.len
  en := fun i en he => by
    obtain ⟨v, h1, h2⟩ := G.en i en he
    refine ⟨v, h1, ?_⟩
    cases en with
    | un => trivial
    | sh d => exact h2
    | own ds =>
      obtain ⟨b, xs, e1, e2, e3, e4⟩ := h2
      have nb : b ≠ a := fun z => by subst z; exact n i _ he rfl (by rw [h1, e1])
      exact ⟨b, xs, e1, e2, by rw [upd_ne nb]; exact e3, e4⟩
    | lent ds =>
      obtain ⟨b, xs, e1, e2, e3, e4⟩ := h2
      have nb : b ≠ a := fun z => by subst z; exact n i _ he rfl (by rw [h1, e1])
      exact ⟨b, xs, e1, e2, by rw [upd_ne nb]; exact e3, e4⟩
  dj := G.dj
/-- only the slots vs get other entries, none of them a list of its own -/
def SetV (vs : List Nat) (Γ Γ' : List En) : Prop := ∀ (j : Nat) (e : En), Γ'[j]? = some e → e.mut = true → j ∉ vs ∧ Γ[j]? = some e
theorem mut_set {i j : Nat} {d : D} {e : En} (h : (Γ.set i (.sh d))[j]? = some e) (m : e.mut = true) : j ≠ i ∧ Γ[j]? = some e := by
  by_cases z : i = j
  · subst z
    rw [List.getElem?_set] at h
    rw [if_pos rfl] at h
    split at h
    · cases h; cases m
    · cases h
  · rw [List.getElem?_set_ne z] at h; exact ⟨fun w => z w.symm, h⟩
theorem sv1 {i : Nat} {d : D} : SetV [i] Γ (Γ.set i (.sh d)) := fun j e h m => by
  obtain ⟨h1, h2⟩ := mut_set h m
  exact ⟨by simpa using h1, h2⟩
theorem sv2 {i l : Nat} {d d' : D} : SetV [i, l] Γ ((Γ.set i (.sh d)).set l (.sh d')) := fun j e h m => by
  obtain ⟨h1, h2⟩ := mut_set h m
  obtain ⟨h3, h4⟩ := mut_set h2 m
  exact ⟨by simp only [List.mem_cons, List.not_mem_nil, or_false, not_or]; exact ⟨h3, h1⟩, h4⟩
theorem efw_lc {α : Type} {vs : List Nat} (xs : List α) (f : α → D) (I : Nat → List D → List En → Prop) (h : WiP wi Γ (xs.map f)) (hl : ∀ i acc Γi, I i acc Γi → acc.length < sizeLine) (h0 : I 0 [] (wipG Γ vs))
    (hs : ∀ i x acc Γi, xs[i]? = some x → I i acc Γi → ∃ Γ', GtV g (f x) vs Γi Γ' ∧ SetV vs Γi Γ' ∧ EtF tt Γ' fun b Γ2 => if b = true then EvW te Γ2 fun e Γ3 => I (i + 1) (acc ++ [e]) (wipG Γ3 vs) else I (i + 1) acc (wipG Γ2 vs)) :
    EvFW (tLc wi g tt te vs) Γ fun ds Γ' => ∃ Γn, I xs.length ds Γn ∧ Γ' = wipG Γn vs := fun c F H σ G Q k => h c F H σ G _ fun J F1 H1 Gd Y S w hG hY => by
  intro Dl nD
  have nF1 : F1 Dl = none := by
    cases q : F1 Dl with
    | none => rfl
    | some u => rw [S.fh _ _ q] at nD; cases nD
  rw [List.length_map] at w
  have G1 := (G.step S).wip vs
  have d0 : c.H0 Dl = none := G1.fresh nD
  have back : ∀ {σ2 : L2.St}, (∀ j, j ∉ vs → σ2[j]? = (wipe σ vs)[j]?) → ∀ j, j ∉ vs → σ2[j]? = σ[j]? := fun {σ2} q j hj => by rw [q j hj, wipe_at, if_neg hj]
  have S0 : Stp F1 H1 F1 (upd H1 Dl (.lst [])) := .loose S.fh _ nD
  refine lc_it w (fun i H2 => ∃ F2 acc ds Γi, I i ds Γi ∧ Good c F2 H2 (wipe σ vs) Γi ∧ Ex F1 F2 ∧ Fr (wipe σ vs) (wipG Γ vs) Γi F1 H1 F2 H2 ∧ F2 Dl = none ∧ H2 Dl = some (.lst acc) ∧ NoSlot (wipe σ vs) Γi Dl ∧ Reps F2 ds acc)
    ⟨F1, [], [], _, h0, G1.step S0, Ex.refl _, Fr.stp S0, nF1, upd_same, G1.noSlot nD, rfl⟩ (fun i H2 _ ⟨F2, _, _, _, _, G2, x2, _⟩ => hG _ (x2.trans G2.fh)) ?_ ?_
  · rintro i v H2 H3 hi ⟨F2, acc, ds, Γi, hI, G2, x2, fr2, f2, e2, n2, r2⟩ y
    obtain ⟨F3, d, hd, S3, r3⟩ := hY i H2 v H3 F2 (by rw [List.length_map]; exact hi) x2 G2.fh y
    have hx : xs[i]? = some xs[i] := List.getElem?_eq_getElem hi
    have ed : d = f xs[i] := by
      rw [List.getElem?_map, hx] at hd
      exact (Option.some.inj hd).symm
    subst ed
    obtain ⟨Γ', hg, sv, ht⟩ := hs i _ ds Γi hx hI
    have fr3 := fr2.trans (Fr.stp (Γ := Γi) (σ := wipe σ vs) S3)
    obtain ⟨e3, f3', n3⟩ := Fr.stp (Γ := Γi) (σ := wipe σ vs) S3 Dl _ e2 n2
    have f3 := f3' f2
    refine hg c F3 H3 _ v (G2.step S3) r3 _ fun σ2 G3 q1 q2 => ⟨?_, ?_⟩
    · refine wipe_eq (back q1) ?_
      rw [q2, wipe_length]
    have toS : ∀ {a : Addr}, NoSlot (wipe σ vs) Γi a → NoSlot σ2 Γ' a := fun {a} n j e he m q => by
      obtain ⟨z1, z2⟩ := sv j e he m
      exact n j e z2 m (by rw [← q1 j z1]; exact q)
    refine ht c F3 H3 σ2 G3 _ fun b Γ2 F4 H4 hb G4 x4 fr4 => ?_
    obtain ⟨e4, f4', n4⟩ := fr4 Dl _ e3 (toS n3)
    have f4 := f4' f3
    cases b with
    | false =>
      rw [if_neg Bool.false_ne_true] at hb ⊢
      refine ⟨F4, acc, ds, _, hb, G4.unw q1 (q2.trans rfl), (x2.trans S3.f).trans x4, fun a o q n => ?_, f4, e4, noSlot_unw n4 q1, (r2.mono S3.f).mono x4⟩
      obtain ⟨a1, a2, a3⟩ := fr3 a o q n
      obtain ⟨b1, b2, b3⟩ := fr4 a o a1 (toS a3)
      exact ⟨b1, fun z => b2 (a2 z), noSlot_unw b3 q1⟩
    | true =>
      rw [if_pos rfl] at hb ⊢
      refine hb c F4 H4 σ2 G4 _ fun u e Γ3 F5 H5 hI5 G5 x5 fr5 r5 => ?_
      obtain ⟨e5, f5', n5⟩ := fr5 Dl _ e4 n4
      have f5 := f5' f4
      have rr := ((((r2.mono S3.f).mono x4).mono x5).append (.one r5))
      refine ⟨acc, e5, ?_, F5, acc ++ [u], ds ++ [e], _, hI5, (G5.wrL n5 f5 d0).unw q1 (q2.trans rfl), ((x2.trans S3.f).trans x4).trans x5, fun a o q n => ?_, f5, upd_same, noSlot_unw n5 q1, rr⟩
      · rw [r2.length]; exact hl i ds Γi hI
      · obtain ⟨a1, a2, a3⟩ := fr3 a o q n
        obtain ⟨b1, b2, b3⟩ := fr4 a o a1 (toS a3)
        obtain ⟨c1, c2, c3⟩ := fr5 a o b1 b3
        have na : a ≠ Dl := fun z => by subst z; rw [nD] at q; cases q
        exact ⟨by rw [upd_ne na]; exact c1, fun z => c2 (b2 (a2 z)), noSlot_unw c3 q1⟩
  · rintro H2 ⟨F2, acc, ds, Γn, hI, G2, x2, fr2, f2, e2, n2, r2⟩
    have q1 : ∀ j, j ∉ vs → (wipe σ vs)[j]? = σ[j]? := fun j hj => by rw [wipe_at, if_neg hj]
    exact k Dl acc ds _ F2 H2 ⟨Γn, hI, rfl⟩ (G2.unw q1 (wipe_length _ _)) (S.f.trans x2) (noSlot_unw n2 q1) d0 f2 e2 r2
end
end DL
set_option Elab.async false
set_option linter.all false
set_option maxRecDepth 100000
set_option autoImplicit false
set_option maxHeartbeats 4000000
/-! E1: == and != of objects whose class has its own ==. -/
namespace DL
open PySem PySem.Spec PyProof.Rows L2
/-- o == y -/
def rEqO (K : PySem.W.Frag) (C : Addr) (sp : Sp) (E : XK) (neg : Bool) : R2 := fun x y H Q => ∃ a dx fs t, x = .ref a ∧ H a = some (.ins C dx fs) ∧ TyX K H y t ∧ PySem.W.notFirst K C t = true ∧ sp [.ref a, y] H (fun v H' => ∃ b, v = .bl b ∧ Q (.bl (if neg then !b else b)) H') E
section
variable {X : Cx} {CX : CXT} {C f : Addr} {fd : FuncData} {ps : List Str} {sp : Sp} {k : Nat} {E : XK}
theorem op_eqO (F : FnOk X.prog X.w X.K X.mg X.base CX k f fd ps sp) (hs : PySem.W.findIn X.K (.ref C) "__eq__" = some (some (.ref f))) (hf : PySem.W.isFn X.K (.ref f) = true) (hb : Binds X.K fd ps []) (hr : Room (k + 1) X.A) (hx : Passes CX X E) :
    OpR X (compareOp .Eq) (rEqO X.K C sp E false) := by
  intro pins s σ H x y v u Q I rx ry h
  obtain ⟨a, dx, fs, t, rfl, ha, ty, nf, h⟩ := h
  cases rx
  obtain ⟨mA, O, _⟩ := ins_get I.hok ha
  obtain ⟨od, J, _⟩ := O.look
  obtain ⟨m, hF⟩ := I.fr
  obtain ⟨P, Z, p, _⟩ := kit_of I ry ty
  refine PySem.W.cmp_ofEq (PySem.W.cmp_K (op := .Eq) hr.units0 hF I.ok.mod.kin J (Z.ty _ _ I.kIn p) nf hs hf ?_)
  have hl := F.len _ _ _ _ h
  have bd := hb s [.ref a, u] I.kIn (by simpa using hl)
  rw [List.append_nil] at bd
  refine wpAny_call (codeAny_mono (F.run X.A X.stack s H ⟨[.ref a, u], []⟩ [.ref a, u] [.ref a, y] _ E (hr.mono (Nat.le_succ _)) I.env0 bd (.cons rfl (.cons ry .nil)) h) ?_)
  rintro (e | fl) s' hq
  · exact hx pins σ H s e s' I hq
  · match fl, hq with
    | .ret w, hq =>
      obtain ⟨z, H', I', rz, b, ez, q⟩ := I.after hq
      subst ez
      cases (show w = Value.bool b from rz)
      exact ⟨.bl b, H', I', rfl, q⟩
    | .next, hq => exact False.elim hq
    | .brk, hq => exact False.elim hq
    | .cont, hq => exact False.elim hq
end
end DL
namespace PySem.NE
open PySem PySem.W PyProof.Rows
section
variable {prog : Program} {w : World} {A : Around} {E : Value → Shared → Prop} {s : Shared} {K : Frag} {x C f : Addr} {ox : Obj} {od : Option Obj} {b tb : Value}
theorem ne_own {Q : Value → Shared → Prop} (hu : A.units + 1 < cLine) (X : K.In s.heap) (J : InstAt s.heap x ox C od) (hb : Looks (model prog w) s.heap (typeOf b) tb) (nf : notFirst K C tb = true) (hn : findIn K (.ref C) "__ne__" = some (some (.builtin "object.__ne__")))
    (hm : mroIn K C (.type "object") = some true) (he : findIn K (.ref C) "__eq__" = some (some (.ref f))) (hf : isFn K (.ref f) = true)
    (h : wpAny (model prog w) A.in1 (call (.ref f) [.ref x, b]) (fun v s' => ∃ z, v = .bool z ∧ Q (.bool (!z)) s') E s) : wpAny (model prog w) A (richCompare .NotEq (.ref x) b) Q E s := by
  have body : wpAny (model prog w) A.in1 (Builtin.«object.__ne__» ⟨[.ref x, b], []⟩) (fun fin s' => ∃ z, fin = .done (.ret (.bool (!z))) ∧ Q (.bool (!z)) s') E s := by
    unfold Builtin.«object.__ne__»
    refine wpAny_bind (m := slotArgs _ _ _) (wpAny_pure ?_)
    refine wpAny_bind (wpAny_cRoomFor hu ?_)
    refine wpAny_bind (m := callSpecialIfBound? (.ref x) (Str.ofString "__eq__") [b]) (ifBound_K X J he hf (wpAny_mono h (fun v s' hv => ?_) fun _ _ e => e))
    obtain ⟨z, rfl, q⟩ := hv
    dsimp only
    refine wpAny_bind (wpAny_truthy_bool ?_)
    exact wpAny_pure ⟨z, rfl, q⟩
  have sub : Looks (model prog w) s.heap (isInstance (.ref x) (.type "object")) true := J.type.andThen (looks_mroIn X hm)
  have one : wpAny (model prog w) A (tryCompare (.ref x) (cmpInfo .NotEq).2.1 b) (fun r s' => ∃ v, r = some v ∧ Q v s') E s := by
    unfold tryCompare
    refine wpAny_bind ?_
    simp only [callSpecialIfBound?, bindSpecialIfBound?]
    refine wpAny_holding (wpAny_bind (wpAny_bind (wpAny_bind (J.type.here ((looks_findIn X hn).here ?_)))))
    simp only [F.cmp_object.ne.bind]
    have fin : ∀ R : Option Value → Shared → Prop, (∀ z s', Q (.bool (!z)) s' → R (some (.bool (!z))) s') → wpAny (model prog w) A (call (.builtin "object.__ne__") ([.ref x] ++ [b]) >>= fun v => pure (some v)) R E s := fun R hR => by
      refine wpAny_bind (wpAny_call (codeAny_call_builtin F.cmp_object.ne.plain F.cmpEntry_ne (@check_slot (model prog w) _ _ s "object.__ne__" "object" "__ne__" (.ref x) [b] [] _ F.cmpKind_ne F.cmpSplit_ne sub (F.cmpArgs_ne _ _) (wpAny_mono body (fun fin s' hv => ?_) fun _ _ e => e))))
      obtain ⟨z, rfl, q⟩ := hv
      exact wpAny_pure (hR z s' q)
    refine wpAny_bind (wpAny_askSetting (wpAny_ite ?_))
    split
    · exact wpAny_bind (wpAny_pure (wpAny_pure (by exact fin _ fun z s' q => wpAny_pure ⟨_, rfl, q⟩)))
    · exact wpAny_tryCatch (wpAny_bind (wpAny_pure (wpAny_pure (by exact fin _ fun z s' q => wpAny_pure ⟨_, rfl, q⟩))))
  unfold richCompare
  simp only [oneThing_ref]
  refine wpAny_holding (wpAny_bind (wpAny_cRoomFor (Nat.lt_of_succ_lt hu) ?_))
  refine wpAny_bind (J.type.here (wpAny_bind (hb.here ?_)))
  have rest : wpAny (model prog w) A (tryCompare (.ref x) (cmpInfo .NotEq).2.1 b) (fun r s' => ∃ v, r = some v ∧ Q v s') E s := one
  split
  · rename_i q
    have e : subIn K tb (.ref C) = some false := by
      rcases Bool.or_eq_true_iff.mp nf with e | e
      · rw [beq_iff_eq.mp e] at q; simp at q
      · exact beq_iff_eq.mp e
    refine wpAny_bind ((looks_subIn X e).here ?_)
    simp only [Bool.false_eq_true, if_false]
    refine wpAny_bind (wpAny_mono rest (fun r s' z => ?_) fun _ _ e => e)
    obtain ⟨v, rfl, hq⟩ := z
    exact wpAny_pure hq
  · refine wpAny_bind (wpAny_pure ?_)
    simp only [Bool.false_eq_true, if_false]
    refine wpAny_bind (wpAny_mono rest (fun r s' z => ?_) fun _ _ e => e)
    obtain ⟨v, rfl, hq⟩ := z
    exact wpAny_pure hq
end
end PySem.NE
namespace DL
open PySem PySem.Spec PyProof.Rows L2
section
variable {X : Cx} {CX : CXT} {C f : Addr} {fd : FuncData} {ps : List Str} {sp : Sp} {k : Nat} {E : XK}
theorem op_neO (F : FnOk X.prog X.w X.K X.mg X.base CX k f fd ps sp) (hs : PySem.W.findIn X.K (.ref C) "__eq__" = some (some (.ref f))) (hn : PySem.W.findIn X.K (.ref C) "__ne__" = some (some (.builtin "object.__ne__"))) (hm : PySem.W.mroIn X.K C (.type "object") = some true)
    (hf : PySem.W.isFn X.K (.ref f) = true) (hb : Binds X.K fd ps []) (hr : Room (k + 1) X.A) (hx : Passes CX X E) : OpR X (compareOp .NotEq) (rEqO X.K C sp E true) := by
  intro pins s σ H x y v u Q I rx ry h
  obtain ⟨a, dx, fs, t, rfl, ha, ty, nf, h⟩ := h
  cases rx
  obtain ⟨mA, O, _⟩ := ins_get I.hok ha
  obtain ⟨od, J, _⟩ := O.look
  obtain ⟨P, Z, p, _⟩ := kit_of I ry ty
  refine PySem.W.cmp_ofNotEq (PySem.NE.ne_own (by have := hr.units; omega) I.kIn J (Z.ty _ _ I.kIn p) nf hn hm hs hf ?_)
  have hl := F.len _ _ _ _ h
  have bd := hb s [.ref a, u] I.kIn (by simpa using hl)
  rw [List.append_nil] at bd
  refine wpAny_call (codeAny_mono (F.run X.A.in1 X.stack s H ⟨[.ref a, u], []⟩ [.ref a, u] [.ref a, y] _ E hr.in1 I.env0.in1 bd (.cons rfl (.cons ry .nil)) h) ?_)
  rintro (e | fl) s' hq
  · exact hx pins σ H s e s' I hq
  · match fl, hq with
    | .ret w, hq =>
      obtain ⟨z, H', I', rz, b, ez, q⟩ := I.after hq
      subst ez
      cases (show w = Value.bool b from rz)
      exact ⟨b, rfl, .bl (!b), H', I', rfl, q⟩
    | .next, hq => exact False.elim hq
    | .brk, hq => exact False.elim hq
    | .cont, hq => exact False.elim hq
end
end DL
namespace DL
open PySem PySem.Spec PyProof.Rows L2
/-- the class at C has a property x, whose function stands at g -/
structure Prp (K : PySem.W.Frag) (C : Addr) (x : Str) (g : Addr) : Prop where
  ex : ∃ (p : Addr) (r : List Value), PySem.W.findIn K (.ref C) x = some (some (.ref p)) ∧ PySem.W.specialIn K (.ref p) "__get__" = some (some (.builtin "property.__get__")) ∧ PySem.W.takesIn K (.ref p) = some true ∧ PySem.W.recIn K p "property" = some (.ref g :: r)
def tPrp (C : Addr) (sp : Sp) (te : TE) : TE := fun σ H Q => te σ H fun x H1 => ∃ a dx fs, x = .ref a ∧ H1 a = some (.ins C dx fs) ∧ sp [.ref a] H1 Q E0
section
variable {X : Cx} {C f : Addr} {fd : FuncData} {ps : List Str} {sp : Sp} {k : Nat} {e : Expr} {te : TE} {x : Str} {pos : Pos}
theorem pe_prp (F : FnOk X.prog X.w X.K X.mg X.base CX0 k f fd ps sp) (c : Cls X.K C) (T : Prp X.K C x f) (hb : Binds X.K fd ps []) (hr : Room (k + 1) X.A) (he : PE X e te) (ab : attributeBase e x X.env (eval e X.env) = eval e X.env := by rfl) : PE X (.Attribute e x pos) (tPrp C sp te) := by
  constructor
  intro pins s σ H Q I h
  refine attr_of ab (thn (he.run pins s σ H _ I h) ?_)
  rintro u s1 ⟨y, H1, I1, ry, a, dx, fs, rfl, ha, q⟩
  cases ry
  obtain ⟨mA, O, _⟩ := ins_get I1.hok ha
  obtain ⟨od, J, _⟩ := O.look
  obtain ⟨m, hF⟩ := I1.fr
  obtain ⟨p, r, h1, h2, h3, h4⟩ := T.ex
  have I2 : Inv X pins σ H1 { s1 with toks := s1.toks + 1 } := I1.tok _
  have hl := F.len _ _ _ _ q
  have bd := hb { s1 with toks := s1.toks + 1 } [.ref a] I2.kIn (by simpa using hl)
  rw [List.append_nil] at bd
  refine PySem.W.get_prop hF I1.ok.mod.kin J (c.get x) c.hd h1 h2 h3 h4 (codeAny_mono (F.run X.A.in1 X.stack _ H1 ⟨[.ref a], []⟩ [.ref a] [.ref a] _ E0 hr.in1 I2.env0.in1 bd (.cons rfl .nil) q) ?_)
  rintro (e | fl) s' hq
  · exact (show False from hq).elim
  · match fl, hq with
    | .ret w, hq =>
      obtain ⟨z, H', I', rz, qq⟩ := I2.after hq
      exact PySem.W.handed_on (handed_of rz) ⟨z, H', I', rz, qq⟩
    | .next, hq => exact False.elim hq
    | .brk, hq => exact False.elim hq
    | .cont, hq => exact False.elim hq
end
end DL
set_option Elab.async false
set_option linter.all false
set_option maxRecDepth 100000
set_option autoImplicit false
set_option maxHeartbeats 4000000
/-! E2g (E2 without what makes objects): data rules for properties, own ==, isinstance, written dicts, repeated lists, and, making by names. -/
namespace DL
open PySem PySem.Spec PyProof.Rows L2
/-- facts of an own class for isinstance -/
structure OT (K : PySem.W.Frag) (C : Addr) : Prop where
  cl : Cls K C
  ha : PySem.W.findIn K (.ref C) "__class__" = some (some (.builtin "object.__class__"))
  hn : PySem.W.specialIn K (.builtin "object.__class__") "__get__" = some (some (.builtin "getset_descriptor.__get__"))
  ht : PySem.W.takesIn K (.builtin "object.__class__") = some true
  hm : PySem.W.mroIn K C (.type "object") = some true
/-- the type of data -/
def tyD : D → Option Value
  | .non => some (.type "NoneType")
  | .bl _ => some (.type "bool")
  | .int _ => some (.type "int")
  | .str _ => some (.type "str")
  | .lst _ => some (.type "list")
  | .tup _ => some (.type "tuple")
  | .dct _ => some (.type "dict")
  | .obj C _ => some (.ref C)
  | _ => none
theorem tyX_of {K : PySem.W.Frag} {F H : Hp} {d : D} {v : V} {t : Value} (e : Ex F H) (h : tyD d = some t) (ho : ∀ C fs, d = .obj C fs → OT K C) (r : Rep F d v) : TyX K H v t := by
  cases d with
  | non => cases h; cases (show v = .non from r); exact .base .non
  | bl b => cases h; cases (show v = .bl b from r); exact .base (.bl b)
  | int i => cases h; cases (show v = .int i from r); exact .base (.int i)
  | str x => cases h; cases (show v = .str x from r); exact .base (.str x)
  | ref a => cases h
  | ty n => cases h
  | lst ds => cases h; obtain ⟨a, xs, rfl, h1, _⟩ := r; exact .base (.lst (e _ _ h1))
  | tup ds => cases h; obtain ⟨a, xs, rfl, h1, _⟩ := r; exact .base (.tup (e _ _ h1))
  | obj C fs =>
    cases h
    obtain ⟨a, dx, xs, rfl, h1, _⟩ := r
    have O := ho C fs rfl
    exact .base (.ins (e _ _ h1) O.cl O.ha O.hn O.ht O.hm)
  | scr a ns p => cases h
  | dct kvs => cases h; obtain ⟨a, xs, rfl, h1, _⟩ := r; exact .base (.dK (e _ _ h1))
  | dki p => cases h
  | opq p => cases h
section
variable {K : PySem.W.Frag} {Γ : List En} {te ta tb : TE} {x y z d : D} {R : D → List En → Prop} {C : Addr} {fs : List (Str × D)} {Cc : Cn}
theorem ep_prp (h : EvP te Γ (.obj C fs)) (hC : Cc [.sh (.obj C fs)] R) (hR : ∀ e Γ', R e Γ' → e = z) : EvP (tPrp C (spE Cc) te) Γ z := fun c F H σ G Q k => h c F H σ G _ fun v F1 H1 S1 r => by
  have hg := good_args (es := [.obj C fs]) S1.fh ⟨v, [], rfl, r, rfl⟩
  obtain ⟨a, dx, xs, rfl, h1, h2⟩ := r
  refine ⟨a, dx, xs, rfl, S1.fh _ _ h1, _, F1, _, R, hg, argOk_sh [.obj C fs], hC, fun w d Γ' F' H' hr G' x r' => ?_⟩
  have e1 := hR d Γ' hr
  subst e1
  exact k w F' H' (S1.trans ⟨x, fun a o q => G'.hh a o q (fun ⟨_, z⟩ => by cases z), G'.fh, G'.nw⟩) r'
/-- o == y, o != y -/
theorem rd_eqO {neg b : Bool} {t : Value} (ht : tyD y = some t) (ho : ∀ C fs, y = .obj C fs → OT K C) (nf : PySem.W.notFirst K C t = true) (hC : Cc [.sh (.obj C fs), .sh y] R) (hR : ∀ e Γ', R e Γ' → e = .bl b) : RD (rEqO K C (spE Cc) E0 neg) (.obj C fs) y (.bl (if neg then !b else b)) := fun F H vx vy e rx ry Q k => by
  have hg := good_args (es := [.obj C fs, y]) e ⟨vx, [vy], rfl, rx, vy, [], rfl, ry, rfl⟩
  have ty := tyX_of e ht ho ry
  obtain ⟨a, dx, xs, rfl, h1, h2⟩ := rx
  refine ⟨a, dx, xs, t, rfl, e _ _ h1, ty, nf, _, F, _, R, hg, argOk_sh [.obj C fs, y], hC, fun w d Γ' F' H' hr G' x r' => ?_⟩
  have e1 := hR d Γ' hr
  subst e1
  exact ⟨b, r', k _ F' H' ⟨x, fun a o q => G'.hh a o q (fun ⟨_, z⟩ => by cases z), G'.fh, G'.nw⟩ rfl⟩
/-- isinstance(x, C) -/
theorem rc_isi {b : Bool} {t : Value} (ht : tyD x = some t) (ho : ∀ C fs, x = .obj C fs → OT K C) (hb : PySem.W.kitOne K t (.ref C) = some b) : RC (rIsi K) [x, .ref C] (.bl b) := fun F H vs e r Q k => by
  obtain ⟨v, _, rfl, rv, w, _, rfl, rw', rfl⟩ := r
  have e1 : w = .ref C := rw'
  subst e1
  exact ⟨v, .ref C, t, .ref C, b, rfl, .own C, tyX_of e ht ho rv, hb, k _ F H (.refl e) rfl⟩
theorem ep_and {a b : Bool} (ha : EvP ta Γ (.bl a)) (hb : a = true → EvP tb Γ (.bl b)) : EvP (tAndV ta tb) Γ (.bl (a && b)) := fun c F H σ G Q k => ha c F H σ G _ fun v F1 H1 S1 r => by
  have e1 : v = .bl a := r
  subst e1
  refine ⟨a, rfl, ?_⟩
  cases a with
  | true => rw [if_pos rfl]; exact hb rfl c F1 H1 σ (G.step S1) _ fun w F2 H2 S2 r2 => k w F2 H2 (S1.trans S2) r2
  | false => rw [if_neg Bool.false_ne_true]; exact k _ F1 H1 S1 rfl
theorem Reps.times {F : Hp} {ds : List D} {xs : List V} (h : Reps F ds xs) : ∀ n : Nat, Reps F (List.replicate n ds).flatten (List.replicate n xs).flatten
  | 0 => rfl
  | n + 1 => by
    rw [List.replicate_succ, List.replicate_succ, List.flatten_cons, List.flatten_cons]
    exact h.append (Reps.times h n)
/-- xs * n -/
theorem rdf_rep {ds : List D} {n : Nat} (hz : ds.length * n ≤ sizeLine) (hn : (n : Int) < 2 ^ 63) : RDF rRep (.lst ds) (.int n) (List.replicate n ds).flatten := fun F H vx vy e rx ry Q k => by
  obtain ⟨a, xs, rfl, h1, h2⟩ := rx
  have e2 : vy = .int n := ry
  subst e2
  refine ⟨a, n, xs, rfl, rfl, e _ _ h1, by omega, hn, by rw [h2.length, Int.toNat_natCast]; exact hz, fun p hp => ?_⟩
  rw [Int.toNat_natCast]
  refine k p _ F _ (.loose e _ hp) hp ?_ upd_same (h2.times n)
  cases q : F p with
  | none => rfl
  | some o => rw [e _ _ q] at hp; cases hp
/-- pairs of a written dict, the keys texts -/
def EkP (trs : List (TE × TE)) (Γ : List En) (kvs : List (Str × D)) : Prop := ∀ (c : Ct) (F H : Hp) (σ : L2.St), Good c F H σ Γ → ∀ Q : List (V × V) → Hp → Prop, (∀ xs F' H', Stp F H F' H' → RepF F' kvs xs → Q (xs.map fun p => (V.str p.1, p.2)) H') → tPairs trs σ H Q
theorem ek_nil : EkP [] Γ [] := fun c F H σ G Q k => k [] F H (.refl G.fh) rfl
theorem ek_cons {tk tv : TE} {trs : List (TE × TE)} {q : Str} {kvs : List (Str × D)} (hk : EvP tk Γ (.str q)) (hv : EvP tv Γ d) (hr : EkP trs Γ kvs) : EkP ((tk, tv) :: trs) Γ ((q, d) :: kvs) := fun c F H σ G Q k =>
  hk c F H σ G _ fun v F1 H1 S1 r1 => hv c F1 H1 σ (G.step S1) _ fun u F2 H2 S2 r2 => hr c F2 H2 σ ((G.step S1).step S2) _ fun xs F3 H3 S3 r3 => by
    have e1 : v = .str q := r1
    subst e1
    exact k ((q, u) :: xs) F3 H3 ((S1.trans S2).trans S3) ⟨u, xs, rfl, r2.mono S3.f, r3⟩
theorem putK_new {κ : Type} [DecidableEq κ] {kvs : List (κ × V)} {q : κ} {v : V} (h : ∀ p ∈ kvs, p.1 ≠ q) : putK kvs q v = kvs ++ [(q, v)] := by
  unfold putK
  rw [if_neg]
  rw [Bool.not_eq_true, List.any_eq_false]
  intro p hp
  simpa using h p hp
theorem merge_new : ∀ (more kvs : List (Key × V)), (kvs.map (·.1) ++ more.map (·.1)).Nodup → mergeK kvs more = kvs ++ more
  | [], kvs, _ => by simp [mergeK]
  | (q, v) :: r, kvs, h => by
    have h1 : ∀ p ∈ kvs, p.1 ≠ q := fun p hp z => by
      rw [List.map_cons, List.nodup_append] at h
      exact h.2.2 p.1 (List.mem_map_of_mem hp) q List.mem_cons_self z
    show mergeK (putK kvs q v) r = _
    rw [putK_new h1, merge_new r (kvs ++ [(q, v)]) (by simpa using h)]
    simp
theorem RepF.keys {F : Hp} : ∀ {kvs : List (Str × D)} {xs : List (Str × V)}, RepF F kvs xs → xs.map (·.1) = kvs.map (·.1)
  | [], _, h => by cases h; rfl
  | (q, d) :: kvs, _, ⟨v, r, h1, _, h3⟩ => by cases h1; simp [RepF.keys h3]
theorem ep_disp {trs : List (TE × TE)} {kvs : List (Str × D)} (h : EkP trs Γ kvs) (nd : (kvs.map (·.1)).Nodup) (hl : kvs.length ≤ 15) : EvP (tDisp trs) Γ (.dct kvs) := fun c F H σ G Q k p hp => by
  have S0 : Stp F H F (upd H p (.dK [])) := .loose G.fh _ hp
  have Fp : F p = none := by
    cases e : F p with
    | none => rfl
    | some o => rw [G.fh _ _ e] at hp; cases hp
  refine h c F _ σ (G.step S0) _ fun xs F2 H2 S2 r => ?_
  have hk := RepF.keys r
  have F2p : F2 p = none := by
    cases e : F2 p with
    | none => rfl
    | some o =>
      rcases S2.nw p (by rw [e]; exact Option.some_ne_none _) with z | z
      · exact absurd Fp z
      · rw [upd_same] at z; cases z
  refine ⟨S2.h _ _ upd_same, xs.map kvV, ?_, ?_, ?_⟩
  · rw [List.map_map]; rfl
  · rw [List.length_map]
    have := congrArg List.length hk
    rw [List.length_map, List.length_map] at this
    omega
  · have em : mergeK [] (xs.map kvV) = xs.map kvV := by
      have n1 : ((xs.map kvV).map (·.1)) = (kvs.map (·.1)).map Sum.inr := by rw [← hk, List.map_map, List.map_map]; rfl
      have := merge_new (xs.map kvV) [] (by
        rw [List.map_nil, List.nil_append, n1]
        exact List.Pairwise.map _ (fun a b z w => z (Sum.inr.inj w)) nd)
      rw [List.nil_append] at this
      exact this
    rw [em]
    refine k (.ref p) (upd F2 p (.dK (xs.map kvV))) _ ⟨fun a o e => ?_, fun a o e => ?_, fun a o e => ?_, fun a e => ?_⟩ ⟨p, xs, rfl, upd_same, r.mono (Ex.new F2p)⟩
    · exact Ex.new F2p _ _ (S2.f _ _ e)
    · have n : a ≠ p := fun z => by rw [z, hp] at e; cases e
      rw [upd_ne n]; exact S2.h _ _ (by rw [upd_ne n]; exact e)
    · by_cases z : a = p
      · subst z; rw [upd_same] at e ⊢; exact e
      · rw [upd_ne z] at e ⊢; exact S2.fh _ _ e
    · by_cases z : a = p
      · subst z; exact .inr hp
      · rw [upd_ne z] at e
        rcases S2.nw a e with q | q
        · exact .inl q
        · rw [upd_ne z] at q; exact .inr q
theorem valV_str {xs : List (Str × V)} {q : Str} {v : V} (h : xs.lookup q = some v) : valV (xs.map kvV) (.inr q) = some v := by
  unfold valV
  induction xs with
  | nil => cases h
  | cons p r ih =>
    obtain ⟨a, u⟩ := p
    rw [List.lookup_cons] at h
    rw [List.map_cons, List.find?_cons]
    by_cases z : a = q
    · subst z
      rw [beq_self_eq_true] at h
      cases h
      simp [kvV]
    · have z1 : (q == a) = false := by simpa using fun w => z w.symm
      rw [z1] at h
      have z2 : decide ((kvV (a, u)).1 = (.inr q : Key)) = false := by
        refine decide_eq_false fun w => z ?_
        exact Sum.inr.inj w
      rw [z2]
      exact ih h
theorem ep_dget {td ty : TE} {kvs : List (Str × D)} {q : Str} (h : EvP td Γ (.dct kvs)) (hy : EvP ty Γ (.str q)) (hl : kvs.lookup q = some d) : EvP (tDGet td ty) Γ d := fun c F H σ G Q k =>
  h c F H σ G _ fun v F1 H1 S1 r1 => hy c F1 H1 σ (G.step S1) _ fun u F2 H2 S2 r2 => by
    have e2 : u = .str q := r2
    subst e2
    obtain ⟨a, xs, rfl, h1, h2⟩ := r1
    obtain ⟨w, w1, w2⟩ := h2.lookup hl
    exact ⟨a, w, rfl, .inl ⟨xs.map kvV, .inr q, .inl (S2.fh _ _ (S2.f _ _ h1)), rfl, (valV_str w1).symm⟩, k w F2 H2 (S1.trans S2) (w2.mono S2.f)⟩
/-- C(k = v) -/
abbrev gM : List Value → List Value → List Value := fun us ws => us ++ ws
abbrev gMV : List V → List V → List V := fun vs zs => vs ++ zs
end
end DL
set_option Elab.async false
set_option linter.all false
set_option maxRecDepth 100000
set_option autoImplicit false
set_option maxHeartbeats 4000000
/-! X4: data rules: slices of the script, comprehensions over range(e) and pairs of values with effects, isinstance by types, indices into lists or tuples, all. -/
namespace DL
open PySem PySem.Spec PyProof.Rows L2
section
variable {K : PySem.W.Frag} {Γ Γ' : List En} {te ta tb tc te0 : TE} {tt : TT} {t u w : TS} {d x y z : D} {ds es : List D} {R R1 R2 : D → List En → Prop} {P : Po} {g : TG} {vs : List Nat} {Rl : List D → List En → Prop}
theorem cutV_take (xs : List V) (n : Nat) : cutV xs none (some (n : Int)) = xs.take n := by
  unfold cutV
  rw [HT.sIx_none, HT.sIx_nat, List.drop_zero, Nat.sub_zero]
  rw [← List.take_eq_take_min]
/-- script[:n] -/
theorem ef_scrTo {i : Nat} {a : Addr} {ns : List Int} {p : Prop} {n : Nat} (h : Γ[i]? = some (.sh (.scr a ns p))) (hp : p → KLs K a (ns.map V.int)) : EvF (tSl (rSlL K) (tVar i) tNoPart (tPart (tC (.int (n : Int))))) Γ ((ns.take n).map D.int) := fun c F H σ G Q k => by
  obtain ⟨v, e, r⟩ := G.sh h
  obtain ⟨rfl, hs⟩ := scr_sq G.fh r hp
  refine ⟨_, e, (n : Int), rfl, a, _, rfl, hs, fun q hq => ?_⟩
  rw [cutV_take, ← List.map_take]
  refine k q _ F _ (.loose G.fh _ hq) hq ?_ upd_same (Reps.ints _)
  cases z : F q with
  | none => rfl
  | some o => rw [G.fh _ _ z] at hq; cases hq
/-- [.. for .. in range(e)], e with effects -/
theorem efw_rng (h : EvW te0 Γ R1) (hs : ∀ d Γ', R1 d Γ' → ∃ n : Int, d = .int n ∧ EvFW (tLc (iRng1 (tCons (tC (.int n)) tNil)) g tt te vs) Γ' Rl) : EvFW (tLc (iRng1 (tCons te0 tNil)) g tt te vs) Γ Rl := fun c F H σ G Q k => h c F H σ G _ fun v d Γ' F1 H1 hr G1 x1 fr r => by
  obtain ⟨n, rfl, hf⟩ := hs d Γ' hr
  have e1 : v = .int n := r
  subst e1
  exact hf c F1 H1 σ G1 Q fun a xs ds Γ2 F' H' hr' G' x' n h0 nf e r => k a xs ds Γ2 F' H' hr' G' (x1.trans x') n h0 nf e r
/-- x = 'sep'.join([..]), the list with effects -/
theorem sw_joinFW {i : Nat} {a : Str} (h : EvFW te Γ Rl) (hn : ∀ ds Γ', Rl ds Γ' → ∃ ys : List Str, ds = ys.map D.str ∧ (ys.map (·.length)).sum + ys.length * a.length ≤ 16777216 ∧ P.nx (Γ'.set i (.sh (.str (Txt.join a ys))))) : SW (tAsg (tM1 (rJoin K) (tC (.str a)) te) (gName i)) Γ P := fun c F H σ G D ea eb ee ef =>
  ⟨⟨a, rfl⟩, h c F H σ G _ fun p xs ds Γ' F' H' hr G' x n h0 nf eq r => by
    obtain ⟨ys, rfl, hz, hx⟩ := hn ds Γ' hr
    have ex := r.strs_eq
    subst ex
    exact ⟨a, p, ys, rfl, rfl, .inl (.inl (.inl eq)), hz, ea _ F' H' _ hx (G'.setSh rfl) x⟩⟩
/-- both operands with effects -/
theorem ew_opWW {r : L2.R2} (ha : EvW ta Γ R1) (hb : ∀ x Γ', R1 x Γ' → EvW tb Γ' fun y Γ'' => ∃ z, RD r x y z ∧ R z Γ'') : EvW (tOp r ta tb) Γ R := fun c F H σ G Q k =>
  ha c F H σ G _ fun v x Γ1 F1 H1 hx G1 x1 f1 r1 => hb x Γ1 hx c F1 H1 σ G1 _ fun u y Γ2 F2 H2 ⟨z, hz, hR⟩ G2 x2 f2 r2 =>
    hz F2 H2 v u G2.fh (r1.mono x2) r2 Q fun w F3 H3 S3 r3 => k w z Γ2 F3 H3 hR (G2.step S3) (x1.trans (x2.trans S3.f)) ((f1.trans f2).trans (Fr.stp S3)) r3
/-- [a, b, c], a with effects -/
theorem ew_lst3 (ha : EvW ta Γ R1) (hb : ∀ x Γ', R1 x Γ' → EvP tb Γ' y ∧ EvP tc Γ' z ∧ R (.lst [x, y, z]) Γ') : EvW (tLst (tCons ta (tCons tb (tCons tc tNil)))) Γ R := fun c F H σ G Q k =>
  ha c F H σ G _ fun v x Γ1 F1 H1 hx G1 x1 f1 r1 => by
    obtain ⟨h2, h3, hR⟩ := hb x Γ1 hx
    exact h2 c F1 H1 σ G1 _ fun v2 F2 H2 S2 r2 => h3 c F2 H2 σ (G1.step S2) _ fun v3 F3 H3 S3 r3 => ⟨(by show 3 ≤ sizeLine; decide), fun p hp => by
      have S4 := Stp.new S3.fh (.lst [v, v2, v3]) hp
      have S := (S2.trans S3).trans S4
      exact k (.ref p) _ Γ1 _ _ hR (G1.step S) (x1.trans S.f) (f1.trans (Fr.stp S)) ⟨p, _, rfl, upd_same, v, _, rfl, r1.mono S.f, v2, _, rfl, (r2.mono S3.f).mono S4.f, v3, _, rfl, r3.mono S4.f, rfl⟩⟩
/-- a, b = e, f, both with effects -/
theorem sw_parWW {i j : Nat} (ha : EvW ta Γ R1) (hb : ∀ x Γ', R1 x Γ' → EvW tb Γ' fun y Γ'' => P.nx ((Γ''.set i (.sh x)).set j (.sh y))) : SW (tPar i j (tCons ta (tCons tb tNil))) Γ P := fun c F H σ G D ea eb ee ef =>
  ha c F H σ G _ fun v x Γ1 F1 H1 hx G1 x1 f1 r1 => hb x Γ1 hx c F1 H1 σ G1 _ fun u y Γ2 F2 H2 hn G2 x2 f2 r2 =>
    ⟨v, u, rfl, ea _ F2 H2 _ hn ((G2.setSh (r1.mono x2)).setSh r2) (x1.trans x2)⟩
/-! isinstance by built-in types -/
def noObj : D → Bool
  | .obj _ _ => false
  | _ => true
theorem tyX_n {F H : Hp} {d : D} {v : V} {t : Value} (e : Ex F H) (h : tyD d = some t) (ho : noObj d = true) (r : Rep F d v) : TyX K H v t := tyX_of e h (fun C fs z => by subst z; cases ho) r
theorem rc_isB {b : Bool} {n m : String} (ht : tyD x = some (.type m)) (ho : noObj x = true) (hb : kitB m n = some b) : RC (rIsi K) [x, .ty n] (.bl b) := fun F H vs e r Q k => by
  obtain ⟨v, _, rfl, rv, w, _, rfl, rw', rfl⟩ := r
  have e1 : w = .ty n := rw'
  subst e1
  exact ⟨v, .ty n, .type m, .type n, b, rfl, .ty n, tyX_n e ht ho rv, kit_ty hb, k _ F H (.refl e) rfl⟩
theorem rc_isT {b b1 b2 : Bool} {n n' m : String} (ht : tyD x = some (.type m)) (ho : noObj x = true) (h1 : kitB m n = some b1) (h2 : kitB m n' = some b2) (hb : (b1 || b2) = b) : RC (rIsiT K) [x, .tup [.ty n, .ty n']] (.bl b) := fun F H vs e r Q k => by
  obtain ⟨v, _, rfl, rv, w, _, rfl, rw', rfl⟩ := r
  obtain ⟨a, xs, rfl, ha, u1, _, rfl, ru1, u2, _, rfl, ru2, rfl⟩ := rw'
  have e1 : u1 = .ty n := ru1
  have e2 : u2 = .ty n' := ru2
  subst e1 e2 hb
  refine ⟨v, a, _, .type m, [.type n, .type n'], _, rfl, e _ _ ha, .cons (.ty n) (.cons (.ty n') .nil), tyX_n e ht ho rv, ?_, k _ F H (.refl e) rfl⟩
  refine kitAny_cons (kit_ty h1) (fun z => ?_) (fun z => by rw [z]; rfl)
  refine kitAny_cons (kit_ty h2) (fun z2 => ?_) (fun z2 => by rw [z2, Bool.or_true])
  rw [z, z2]; exact kitAny_nil
/-- xs[i], xs a list or a tuple -/
def rIxLT (K : PySem.W.Frag) : L2.R2 := fun x y H Q => rIxL K x y H Q ∨ rIxT K x y H Q
theorem ix_seq {X : Cx} : IxR X (rIxLT X.K) := fun value slice pins s σ H x y v u Q I rx ry h e => by
  rcases h with h | h
  · exact ix_list value slice pins s σ H x y v u Q I rx ry h e
  · exact ix_tup value slice pins s σ H x y v u Q I rx ry h e
theorem rd_ixLl {i : Int} (h : atI ds i = some d) : RD (rIxLT K) (.lst ds) (.int i) d := fun F H vx vy e rx ry Q k => .inl (rd_ixL h F H vx vy e rx ry Q k)
theorem rd_ixLt {i : Int} (h : atI ds i = some d) : RD (rIxLT K) (.tup ds) (.int i) d := fun F H vx vy e rx ry Q k => .inr (rd_ixT h F H vx vy e rx ry Q k)
theorem Reps.bls_eq {F : Hp} : ∀ {ns : List Bool} {xs : List V}, Reps F (ns.map D.bl) xs → xs = ns.map V.bl
  | [], _, h => h
  | n :: ns, _, ⟨v, r, h1, h2, h3⟩ => by
    cases h1
    have h2' : v = .bl n := h2
    rw [h2', Reps.bls_eq h3]
    rfl
theorem rc_all {bs : List Bool} : RC (rAll K) [.lst (bs.map D.bl)] (.bl (bs.all id)) := fun F H vs e r Q k => by
  obtain ⟨v, _, rfl, ⟨a, xs, rfl, ha, r1⟩, rfl⟩ := r
  have ex := r1.bls_eq
  subst ex
  exact ⟨a, bs, rfl, .inl (.inl (e _ _ ha)), k _ F H (.refl e) rfl⟩
theorem rd_neB {i j : Bool} : RD rNe (.bl i) (.bl j) (.bl (!decide (i = j))) := rd_ne rfl rfl rfl (by cases i <;> cases j <;> rfl)
theorem rd_eqB {i j : Bool} : RD rEq (.bl i) (.bl j) (.bl (decide (i = j))) := rd_eq rfl rfl rfl (by cases i <;> cases j <;> rfl)
end
end DL
namespace XS
open PySem PySem.Spec PyProof.Rows L2 DL
/-- an own exception without __init__, by its name -/
structure MakN (K : PySem.W.Frag) (mg : Str → Option Value) (x : Str) (C : Addr) : Prop where
  q : PySem.W.excIn K C He.veBase "ValueError.__new__" = true
  g : mg x = some (.ref C)
  k : PySem.W.keepIn K (.ref C) = true
theorem pe_exN {X : Cx} {C : Addr} {x : Str} {e : Expr} {ta : TE} {p pos : Pos} (c : MakN X.K X.mg x C) (hg : Gl X x) (he : PE X e ta) (hs : starEach [e] X.env = (false, eval e X.env) :: starEach [] X.env := by rfl) (hdb : (x == ("__debug__" : Str)) = false := by decide) :
    PE X (.Call (.Name x p) [e] [] pos) (fun σ H Q => ta σ H fun _ H1 => ∀ a, H1 a = none → Q (.ref a) (upd H1 a (ExO (.ref C) a))) := pe_exc1 PySem.F.excBase_ValueError c.q c.g c.k hg he hs hdb
theorem pe_xaK {X : Cx} {K : PySem.W.Frag} {e : Expr} {te : TE} {pos : Pos} {n : Str} (he : PE X e te) (hb : attributeBase e n X.env (eval e X.env) = eval e X.env := by rfl) (hK : X.K = K := by rfl) : PE X (.Attribute e n pos) (tXa K n te) := hK ▸ pe_xa he hb
end XS
set_option Elab.async false
set_option linter.all false
set_option maxRecDepth 100000
set_option autoImplicit false
set_option maxHeartbeats 4000000
/-! X5: the facts of own exceptions, as answers of the kernel. -/
namespace XS
open PySem PySem.Spec PyProof.Rows L2 DL
section
variable {K : PySem.W.Frag} {C D f : Addr}
/-- what OexC asks of the class object -/
def oexB (K : PySem.W.Frag) (C : Addr) : Bool := (match K.lookup C with
  | some ⟨.type "type", _, .cls cd, sl⟩ => (match cd.mro, sl.toList with
    | .ref C' :: bm, [_, _, _, _, some (.builtin n), _] => C' == C && n == "ValueError.__new__" && !cd.hasDel && cd.hasDict && PySem.HandSPX.refsVE bm
    | _, _ => false)
  | _ => false) && (decide (PySem.W.findIn K (.ref C) "__setattr__" = some (some (.builtin "object.__setattr__"))) && (decide (PySem.W.subIn K (.ref C) (.type "BaseException") = some true) && (decide (PySem.W.typeIn K (.ref C) = some (.type "type")) && PySem.W.keepIn K (.ref C))))
theorem oex_of (q : oexB K C = true) : OexC K C := by
  obtain ⟨q, q1⟩ := Bool.and_eq_true_iff.mp q
  obtain ⟨q1, q2⟩ := Bool.and_eq_true_iff.mp q1
  obtain ⟨q2, q3⟩ := Bool.and_eq_true_iff.mp q2
  obtain ⟨q3, q4⟩ := Bool.and_eq_true_iff.mp q3
  refine ⟨?_, of_decide_eq_true q1, of_decide_eq_true q2, of_decide_eq_true q3, q4⟩
  split at q
  · rename_i dd cd sl ho
    split at q
    · rename_i C' bm k0 k1 k2 k3 n k5 hm hs
      simp only [Bool.and_eq_true, beq_iff_eq, Bool.not_eq_true'] at q
      obtain ⟨⟨⟨⟨rfl, rfl⟩, hdel⟩, hhd⟩, ht⟩ := q
      obtain ⟨nm, bs, mro, ns, qn, hd, sn, sub, ab, col, del⟩ := cd
      dsimp only at hm hdel hhd
      subst hm hdel hhd
      have hsl : sl = #[k0, k1, k2, k3, some (.builtin "ValueError.__new__"), k5] := by
        obtain ⟨l⟩ := sl
        simp only at hs
        rw [hs]
      subst hsl
      exact ⟨nm, qn, ns, bs, bm, sn, sub, ab, col, dd, k0, k1, k2, k3, k5, ho, ht⟩
    · cases q
  · cases q
/-- what isinstance and the fields ask of the class -/
def excB (K : PySem.W.Frag) (D : Addr) : Bool := decide (PySem.W.findIn K (.ref D) "__getattribute__" = some (some (.builtin "BaseException.__getattribute__"))) && (decide (PySem.W.findIn K (.ref D) "__getattr__" = some none) && (decide (PySem.W.subIn K (.ref D) (.type "BaseException") = some true) && (PySem.W.hasDictIn K D &&
  (decide (PySem.W.findIn K (.ref D) "__class__" = some (some (.builtin "object.__class__"))) && (decide (PySem.W.specialIn K (.builtin "object.__class__") "__get__" = some (some (.builtin "getset_descriptor.__get__"))) && (decide (PySem.W.takesIn K (.builtin "object.__class__") = some true) && decide (PySem.W.mroIn K D (.type "object") = some true)))))))
theorem exc_of (q : excB K D = true) : ExcC K D ∧ XfC K D := by
  obtain ⟨q1, q⟩ := Bool.and_eq_true_iff.mp q
  obtain ⟨q2, q⟩ := Bool.and_eq_true_iff.mp q
  obtain ⟨q3, q⟩ := Bool.and_eq_true_iff.mp q
  obtain ⟨q4, q⟩ := Bool.and_eq_true_iff.mp q
  obtain ⟨q5, q⟩ := Bool.and_eq_true_iff.mp q
  obtain ⟨q6, q⟩ := Bool.and_eq_true_iff.mp q
  obtain ⟨q7, q8⟩ := Bool.and_eq_true_iff.mp q
  exact ⟨⟨of_decide_eq_true q1, of_decide_eq_true q2, of_decide_eq_true q3, q4, of_decide_eq_true q5, of_decide_eq_true q6, of_decide_eq_true q7, of_decide_eq_true q8⟩, ⟨of_decide_eq_true q1, of_decide_eq_true q2, of_decide_eq_true q3, q4⟩⟩
/-- the cell of __class__ that the def at f closes over -/
def ccA (K : PySem.W.Frag) (f : Addr) : Addr := match K.lookup f with
  | some ⟨_, _, .func d, _⟩ => (match d.closure with
    | [(_, c)] => c
    | _ => 0)
  | _ => 0
/-- the def at an address -/
def fnA (K : PySem.W.Frag) (a : Addr) : He.FnW := (K.lookup a).bind fun o => match o.data with
  | .func d => some (d.name, d.qualname, d.params, d.body, d.scope, d.globals, d.closure, d.builtins)
  | _ => none
def isNon : Value → Bool
  | .none => true
  | _ => false
/-- what SuC asks of the heap, file the text's own name -/
def suB (file : Str) (K : PySem.W.Frag) (C f : Addr) (q : Str) : Bool := (match K.lookup f with
  | some ⟨_, _, .func d, _⟩ => (match d.code with
    | .ref cda => PySem.W.codeIn K (.ref cda) q && (match K.lookup cda with
      | some ⟨_, _, .fields vs, _⟩ => (match (vs[2]? : Option Value) with
        | some (.str fl _) => file == fl
        | _ => false)
      | _ => false)
    | _ => false) && isNon d.defaults
  | _ => false) && ((match K.lookup (ccA K f) with
    | some ⟨_, _, .cell (some (.ref C')), _⟩ => C' == C
    | _ => false) && (decide (PySem.W.mroIn K C (.ref C) = some true) && (decide (PySem.W.ks_superIn K C C "__init__" = some (some (.builtin "ValueError.__init__"))) && (decide (PySem.W.nsIn K cStatics "thirdparty.any" = some none) && (decide (PySem.W.subIn K (.ref C) (.type "ValueError") = some true) &&
    (decide (PySem.W.findIn K (.ref C) "__init__" = some (some (.ref f))) && decide (PySem.W.typeIn K (.ref f) = some (.type "function"))))))))
theorem su_of {P : Program} {mg : Str → Option Value} {N ps : List Str} {nm0 qual : Str} {params : Arguments} {body : List Stmt} {scope : Scope} (ox : OexC K C) (e : fnA K f = some (nm0, qual, params, FuncBody.stmts body, scope, mainGlobals, [(("__class__" : Str), ccA K f)], builtinsNs)) (q : suB P.main.file K C f qual = true)
    (sc : ScS N ps scope) (p0 : ∃ ar : Arg, (params.posonlyargs ++ params.args).head? = some ar ∧ N[0]? = some ar.arg) (hp0 : ∃ x, N[0]? = some x ∧ scope.names.lookup x = some .local) (top : (P.main.scope.names.lookup ("super" : Str)).isSome = false) (ms : mg "super" = none) :
    ∃ (cda : Addr) (oc : Value) (od : Option Addr) (kV doc pm ct : Value) (an : Option Addr) (osl : Array (Option Value)), SuC P K mg C f (ccA K f) cda N ps nm0 qual params body scope ∧ PySem.W.findIn K (.ref C) "__init__" = some (some (.ref f)) ∧ PySem.W.typeIn K (.ref f) = some (.type "function") ∧
      K.lookup f = some ⟨oc, od, .func (PySem.W.fnX nm0 qual params body scope [("__class__", ccA K f)] .none kV doc pm an (.ref cda) ct), osl⟩ := by
  obtain ⟨q, q1⟩ := Bool.and_eq_true_iff.mp q
  obtain ⟨q1, q2⟩ := Bool.and_eq_true_iff.mp q1
  obtain ⟨q2, q3⟩ := Bool.and_eq_true_iff.mp q2
  obtain ⟨q3, q4⟩ := Bool.and_eq_true_iff.mp q3
  obtain ⟨q4, q5⟩ := Bool.and_eq_true_iff.mp q4
  obtain ⟨q5, q6⟩ := Bool.and_eq_true_iff.mp q5
  obtain ⟨q6, q7⟩ := Bool.and_eq_true_iff.mp q6
  have cel : ∃ oc od osl, K.lookup (ccA K f) = some ⟨oc, od, .cell (some (.ref C)), osl⟩ := by
    split at q1
    · rename_i oc od C' osl ho
      exact ⟨oc, od, osl, by rw [ho]; rw [beq_iff_eq.mp q1]⟩
    · cases q1
  unfold fnA at e
  cases lk : K.lookup f with
  | none => rw [lk] at e; cases e
  | some o =>
    obtain ⟨oc, od, dt, osl⟩ := o
    rw [lk] at e q
    cases dt with
    | func d =>
      obtain ⟨m1, m2, m3, m4, m5, m6, m7, m8, m9, m10, m11, m12, m13, m14, m15⟩ := d
      have e' : (m1, m2, m3, m4, m5, m6, m7, m15) = (nm0, qual, params, FuncBody.stmts body, scope, mainGlobals, [(("__class__" : Str), ccA K f)], builtinsNs) := Option.some.inj e
      simp only [Prod.mk.injEq] at e'
      obtain ⟨rfl, rfl, rfl, rfl, rfl, rfl, rfl, rfl⟩ := e'
      obtain ⟨qa, qb⟩ := Bool.and_eq_true_iff.mp q
      cases m8 with
      | none =>
        cases m13 with
        | ref cda =>
          obtain ⟨qc, qd⟩ := Bool.and_eq_true_iff.mp (show (PySem.W.codeIn K (.ref cda) m2 && (match K.lookup cda with
            | some ⟨_, _, .fields vs, _⟩ => (match (vs[2]? : Option Value) with
              | some (.str fl _) => P.main.file == fl
              | _ => false)
            | _ => false)) = true from qa)
          have code : ∃ ccl cdd vs ccs file tf, K.lookup cda = some ⟨ccl, cdd, .fields vs, ccs⟩ ∧ vs[2]? = some (.str file tf) ∧ ((P.main.file : Str) == file) = true := by
            split at qd
            · rename_i ccl cdd vs ccs ho
              split at qd
              · rename_i fl tf hv
                exact ⟨_, _, _, _, _, _, ho, hv, qd⟩
              · cases qd
            · cases qd
          exact ⟨cda, oc, od, m9, m10, m11, m14, m12, osl, ⟨ox, ⟨oc, od, .none, m9, m10, m11, m12, m14, osl, lk⟩, qc, code, cel, sc, p0, hp0, top, ms, of_decide_eq_true q2, of_decide_eq_true q3, of_decide_eq_true q4, of_decide_eq_true q5⟩, of_decide_eq_true q6, of_decide_eq_true q7, rfl⟩
        | _ => cases qa
      | _ => cases qb
    | _ => cases q
end
end XS
set_option Elab.async false
set_option linter.all false
set_option maxRecDepth 100000
set_option autoImplicit false
set_option maxHeartbeats 4000000
/-! G1: defs that are called where no repr is under way (guards empty): their promise, their calls, repr of data. -/
namespace DL
open PySem PySem.Spec PyProof.Rows L2
abbrev NoG (A : Around) : Prop := A.guards = some []
structure FnG (P : Program) (w : World) (K : PySem.W.Frag) (mg : Str → Option Value) (base : Heap) (k : Nat) (f : Addr) (fd : FuncData) (ps : List Str) (sp : Sp) : Prop where
  ar : ∀ vs H Q E, sp vs H Q E → vs.length = ps.length
  go : ∀ (A : Around) (out : List Env) (s : Shared) (H : Hp) (ag : Args) (us : List Value) (vs : List V) (Q : VK) (E : XK), Room k A → NoG A →
    Env0 P w K mg base A out s H → BindsTo s fd ag (ps.zip us) → Vals vs us → sp vs H Q E → codeAny (model P w) A (.call (.ref f) ag) (CR CX0 out P w H s Q E) s
theorem FnOk.g {P : Program} {w : World} {K : PySem.W.Frag} {mg : Str → Option Value} {base : Heap} {k : Nat} {f : Addr} {fd : FuncData} {ps : List Str} {sp : Sp} (F : FnOk P w K mg base CX0 k f fd ps sp) : FnG P w K mg base k f fd ps sp :=
  ⟨F.len, fun A o s H ag us vs Q E hr _ e b v h => F.run A o s H ag us vs Q E hr e b v h⟩
section
variable {P : Program} {w : World} {K : PySem.W.Frag} {mg : Str → Option Value} {base : Heap} {x qual : Str} {params : Arguments} {body : List Stmt} {scope : Scope} {f : Addr} {fd : FuncData} {N ps : List Str} {k : Nat} {sp : Sp}
theorem fn_g (F : FunD K x qual params body scope [] [] f fd) (S : FnScope N ps scope) (len : ∀ vs H Q E, sp vs H Q E → vs.length = ps.length)
    (hb : ∀ (cdv : Value) (A : Around) (out : List Env) (s : Shared) (H : Hp) (vs : List V) (Q : VK) (E : XK), Room k (A.deeper (envOfC qual scope s.heap.objs.size f cdv)) → NoG A → sp vs H Q E →
      ∃ t, PSs (cxOf CX0 P w K mg base N qual scope f cdv A out s H E) body t ∧ t { nx := fun _ Hz => Q .non Hz, rt := Q } (L2.start N vs) H) : FnG P w K mg base (k + 1) f fd ps sp := by
  obtain ⟨oc, od, dV, kV, doc, pm, an, cdv, ct, osl, rfl, lk, hcd, _, _⟩ := F.ex
  refine ⟨len, fun A out s H ag us vs Q E hr hg e0 hbi rv hsp => ?_⟩
  have keep : ∀ b o, base.get? b = some o → s.heap.get? b = some o := fun b o e => (e0.bs b o e).1
  have KX := e0.mod.kin.keeps keep
  have lim := e0.mod.nolimit.keeps keep
  have nl := len vs H Q E hsp
  have kinds : ∀ y ∈ ps.zip us, scope.names.lookup y.1 = some .local ∨ (scope.names.lookup y.1 = some .cell ∧ ((cellsFrom (s.heap.objs.size + 1) scope.names []).lookup y.1).isSome = true) := by
    rintro ⟨a, v⟩ hy
    exact (S.par a (List.of_mem_zip hy).1).imp id fun q => ⟨q, PySem.W.cellsFrom_some _ _ _ (.inl q)⟩
  refine codeAny_call_function hr.depth (KX _ _ lk) rfl S.co S.gen rfl (PySem.W.codeRec_of KX hcd) (hbi _ _ _ _ (wpAny_newFunctionEnv_cells S.kind kinds ?_))
  intro env he s1 xx
  subst he
  obtain ⟨t, ht, hq⟩ := hb cdv A out s H vs Q E (hr.deeper _) hg hsp
  have I : Inv (cxOf CX0 P w K mg base N qual scope f cdv A out s H E) [] (L2.start N vs) H s1 := inv_start S hr.hd e0 nl rv xx
  refine ⟨lim.keeps xx.toInCall.keep, codeAny_func (wpAny_mono (ht.run [] s1 (L2.start N vs) H _ I hq) ?_ fun _ _ z => z)⟩
  intro fl sz hz
  cases fl with
  | ret u => obtain ⟨v, τ, Hz, J, r, q⟩ := hz; exact ⟨v, Hz, J.os, J.bare, J.base, J.hok, r, q⟩
  | next => obtain ⟨τ, Hz, J, q⟩ := hz; exact ⟨.non, Hz, J.os, J.bare, J.base, J.hok, rfl, q⟩
  | brk => obtain ⟨_, _, _, q⟩ := hz; exact q.elim
  | cont => obtain ⟨_, _, _, q⟩ := hz; exact q.elim
end
end DL
set_option Elab.async false
set_option linter.all false
set_option maxRecDepth 100000
set_option autoImplicit false
set_option maxHeartbeats 4000000
/-! G2: calls of such defs; repr of a list of data; keyword calls; max of a list. -/
namespace DL
open PySem PySem.Spec PyProof.Rows L2
abbrev rReprL (K : PySem.W.Frag) : List V → Hp → VK → Prop := fun xs H Q => ∃ (a : Addr) (d : PyData), xs = [.ref a] ∧ Dp K H (.ref a) d ∧ d.showable = true ∧ d.hasDict = false ∧ d.shown.length ≤ sizeLine ∧ d.depth ≤ 60 ∧ Q (.str d.shown) H
theorem call_reprG {X : Cx} {j : Nat} (hg : NoG X.A) (hr : Room j X.A) : CallR X (.builtin "repr") (rReprL X.K) := by
  intro pins s σ H xs us Q I r h
  obtain ⟨a, d, rfl, hd, hs, hn, hl, hp, q⟩ := h
  obtain ⟨u, rfl, rx⟩ := vals1 r
  cases rx
  obtain ⟨as, rd⟩ := Dp.reads I d _ _ hd rfl
  refine repr_of_reads' rd hs (fun z => by rw [hn] at z; cases z) hg ?_ (fun b o e => e) (fun h' u tk hk => ⟨.str d.shown, H, I.kept hk, ⟨u, rfl⟩, q⟩) hl
  have := hr.un
  omega
/-- repr of data of the data layer -/
theorem rc_repr {K : PySem.W.Frag} {ds : List D} {d : PyData} (h : pyD (.lst ds) = some d) (hs : d.showable = true) (hn : d.hasDict = false) (hl : d.shown.length ≤ sizeLine) (hp : d.depth ≤ 60) : RC (rReprL K) [.lst ds] (.str d.shown) := fun F H vs e r Q k => by
  obtain ⟨v, _, rfl, rv, rfl⟩ := r
  have q := dp_of (K := K) e h rv
  obtain ⟨a, xs, rfl, h1, h2⟩ := rv
  exact ⟨a, d, rfl, q, hs, hn, hl, hp, k _ F H (.refl e) rfl⟩
section
variable {X : Cx} {j k : Nat} {f : Addr} {fd : FuncData} {ps : List Str} {sp : Sp}
theorem run_g {pins : List (Addr × Obj)} {σ : L2.St} {H : Hp} {s : Shared} {Q : VK} {us : List Value} {vs : List V} (F : FnG X.prog X.w X.K X.mg X.base k f fd ps sp) (hr : Room k X.A) (hg : NoG X.A) (hb : Binds X.K fd ps []) (I : Inv X pins σ H s) (r : Vals vs us) (h : sp vs H Q E0) :
    wpAny (model X.prog X.w) X.A (call (.ref f) us) (EP X pins σ Q) X.xe s := by
  have nl : us.length = ps.length := by rw [← r.length]; exact F.ar vs H Q E0 h
  have b := hb s us I.kIn (by rw [List.append_nil]; exact nl)
  rw [List.append_nil] at b
  refine wpAny_call (codeAny_mono (F.go X.A X.stack s H ⟨us, []⟩ us vs Q E0 hr hg I.env0 b r h) ?_)
  intro res sz hq
  cases res with
  | error e => exact (pass0 (X := X)) pins σ H s e sz I hq
  | ok fl =>
    cases fl with
    | ret u => exact I.after hq
    | next => exact hq.elim
    | brk => exact hq.elim
    | cont => exact hq.elim
/-- the name x stands for a def that keeps sp where no repr is under way -/
structure CalG (P : Program) (w : World) (K : PySem.W.Frag) (mg : Str → Option Value) (base : Heap) (k : Nat) (x : Str) (sp : Sp) : Prop where
  ex : ∃ (f : Addr) (fd : FuncData) (ps : List Str), FnG P w K mg base k f fd ps sp ∧ mg x = some (.ref f) ∧ PySem.W.keepIn K (.ref f) = true ∧ Binds K fd ps []
theorem pe_cg {x : Str} {p pos : Pos} {e : Expr} {es : List Expr} {t : TA} (c : CalG X.prog X.w X.K X.mg X.base k x sp) (hr : Room j X.A) (hg : NoG X.A) (hk : k ≤ j) (hgl : Gl X x) (ha : PA X (e :: es) t) (hdb : (x == ("__debug__" : Str)) = false := by decide)
    (he : starEach (e :: es) X.env = (false, eval e X.env) :: starEach es X.env := by rfl) (hpl : (backTo pos (starEach es X.env)).any (·.1) = false := by rfl) : PE X (.Call (.Name x p) (e :: es) [] pos) (tCall sp [] E0 t) := by
  obtain ⟨f, fd, ps, F, hm, kp, b⟩ := c.ex
  constructor
  intro pins s σ H Q I h
  refine wpAny_Call_Name_kw (ld_glob I hgl hm ?_ hdb)
  refine PySem.W.callWith_K (h₀ := X.base) I.ok.mod.kin kp ?_ he hpl
  refine thn (ha.run pos pins s σ H _ I h) ?_
  rintro us s1 ⟨vs, H1, I1, r, q⟩
  rw [List.append_nil] at q
  exact ⟨I1.kIn, run_g F (hr.mono hk) hg b I1 r q⟩
end
end DL
set_option Elab.async false
set_option linter.all false
set_option maxRecDepth 100000
set_option autoImplicit false
set_option maxHeartbeats 4000000
/-! G3: a def in the data layer, called where no repr is under way; max of a list. -/
namespace DL
open PySem PySem.Spec PyProof.Rows L2
section
variable {P : Program} {w : World} {K : PySem.W.Frag} {mg : Str → Option Value} {base : Heap} {x qual : Str} {params : Arguments} {body : List Stmt} {scope : Scope} {f : Addr} {fd : FuncData} {N ps : List Str} {k : Nat} {C : Cn}
theorem fn_okG (F : FunD K x qual params body scope [] [] f fd) (S : FnScope N ps scope) (hlen : ∀ Γ R, C Γ R → Γ.length = ps.length)
    (hb : ∀ (cdv : Value) (A : Around) (outer : List Env) (s : Shared) (H : Hp) (E : XK), Room k (A.deeper (envOfC qual scope s.heap.objs.size f cdv)) → NoG A →
      ∃ t, PSs (cxOf CX0 P w K mg base N qual scope f cdv A outer s H E).nox body t ∧
        ∀ Γ R, C Γ R → argOk Γ → SW t (Γ ++ List.replicate (N.length - ps.length) .un) ⟨fun Γ' => R .non (outG Γ Γ') ∧ lentOk Γ Γ', fun d Γ' => R d (outG Γ Γ') ∧ lentOk Γ Γ', fun _ => False, fun _ => False⟩) :
    FnG P w K mg base (k + 1) f fd ps (spE C) := by
  have ln : ∀ vs H Q E, spE C vs H Q E → vs.length = ps.length := fun vs H Q E ⟨c, F, Γ, R, G, a, hC, q⟩ => by
    have e := G.len
    rw [List.length_map] at e
    rw [e, hlen _ _ hC]
  refine fn_g F S ln fun cdv A outer s H vs Q E hr hg h => ?_
  obtain ⟨t, h1, h2⟩ := hb cdv A outer s H E hr hg
  refine ⟨t, PSs.nox h1, ?_⟩
  have lv := ln vs H Q E h
  obtain ⟨c, F0, Γ, R, G, a, hC, q⟩ := h
  show t _ (vs.map some ++ List.replicate (N.length - vs.length) none) H
  rw [lv]
  refine h2 Γ R hC a c F0 H _ (G.start _) _ (fun Γ' F' H' σ' p G' x => ?_) (fun v d Γ' F' H' σ' p G' x r => ?_) (fun _ _ _ _ z => z.elim) (fun _ _ _ _ z => z.elim)
  · exact q .non .non _ F' H' p.1 (G.back G' x a p.2) x rfl
  · exact q v d _ F' H' p.1 (G.back G' x a p.2) x r
end
/-- max of a list of ints -/
theorem rc_max {K : PySem.W.Frag} {ns : List Int} {m : Int} (hm : m ∈ ns) (hb : ∀ y ∈ ns, y ≤ m) : RC (rMax K) [.lst (ns.map D.int)] (.int m) := fun F H vs e r Q k => by
  obtain ⟨v, _, rfl, ⟨a, xs, rfl, h1, h2⟩, rfl⟩ := r
  have ex := h2.ints_eq
  subst ex
  refine ⟨a, ns, rfl, .inl (.inl (e _ _ h1)), List.length_pos_of_mem hm, fun x q1 q2 => ?_⟩
  have ex : x = m := Int.le_antisymm (hb x q1) (q2 m hm)
  subst ex
  exact k _ F H (.refl e) rfl
end DL
set_option Elab.async false
set_option linter.all false
set_option maxRecDepth 100000
set_option autoImplicit false
set_option maxHeartbeats 4000000
/-! G4: a call by names alone, the names in the reverse order of the parameters. -/
namespace DL
open PySem PySem.Spec PyProof.Rows L2
abbrev gR : List Value → List Value → List Value := fun _ ws => ws.reverse
abbrev gRV : List V → List V → List V := fun _ zs => zs.reverse
/-- all of the def's parameters by their names, the last one first -/
def KRev (K : PySem.W.Frag) (fd : FuncData) (ps ks : List Str) : Prop := ∀ (s : Shared) (ws : List Value), K.In s.heap → ws.length = ps.length → BindsTo s fd ⟨[], ks.zip ws⟩ (ps.zip ws.reverse)
structure CalK (P : Program) (w : World) (K : PySem.W.Frag) (mg : Str → Option Value) (base : Heap) (k : Nat) (x : Str) (ks : List Str) (sp : Sp) : Prop where
  ex : ∃ (f : Addr) (fd : FuncData) (ps : List Str), FnOk P w K mg base CX0 k f fd ps sp ∧ mg x = some (.ref f) ∧ PySem.W.keepIn K (.ref f) = true ∧ KRev K fd ps ks
section
variable {X : Cx} {j k : Nat} {x : Str} {ks : List Str} {sp : Sp}
theorem pe_ck0 {p pos : Pos} {kws : List Keyword} {tk : TA} (c : CalK X.prog X.w X.K X.mg X.base k x ks sp) (hr : Room j X.A) (hk : k ≤ j) (hgl : Gl X x) (hkw : PK X kws tk) (hdb : (x == ("__debug__" : Str)) = false := by decide)
    (hall : (backToKw pos (keywordEach kws X.env)).all (·.1.isSome) = true := by rfl) (hks : (backToKw pos (keywordEach kws X.env)).filterMap (·.1) = ks := by rfl)
    (hpl : ((backTo pos (starEach [] X.env)).any (·.1) || (backToKw pos (keywordEach kws X.env)).any (·.1.isNone)) = false := by rfl) : PE X (.Call (.Name x p) [] kws pos) (tCallK sp gRV E0 tNil tk) := by
  obtain ⟨f, fd, ps, F, hm, kp, b⟩ := c.ex
  constructor
  intro pins s σ H Q I h
  refine wpAny_Call_Name_kw (ld_glob I hgl hm ?_ hdb)
  refine PySem.W.callWith_KW0 (h₀ := X.base) I.ok.mod.kin kp hall ?_ hpl
  refine thn (hkw.run pos pins s σ H _ I h) ?_
  rintro ws s2 ⟨zs, H2, I2, rz, q2⟩
  rw [hks]
  have r3 := rz.reverse
  have l3 : zs.reverse.length = ps.length := F.len _ _ _ _ q2
  refine ⟨I2.kIn, wpAny_call (codeAny_mono (F.run X.A X.stack s2 H2 ⟨[], ks.zip ws⟩ ws.reverse zs.reverse Q E0 (hr.mono hk) I2.env0 (b s2 ws I2.kIn (by rw [← l3, List.length_reverse, rz.length])) r3 q2) ?_)⟩
  rintro (e | fl) s' hq
  · exact pass0 (X := X) pins σ H2 s2 e s' I2 hq
  · match fl, hq with
    | .ret u, hq => exact I2.after hq
    | .next, hq => exact hq.elim
    | .brk, hq => exact hq.elim
    | .cont, hq => exact hq.elim
end
section
variable {Γ : List En} {es : List D} {z : D} {R : D → List En → Prop}
theorem ep_callR {C : Cn} {tk : TA} (ha : EaP tk Γ es) (hc : C (es.reverse.map .sh) R) (hR : ∀ e Γ', R e Γ' → e = z) : EvP (tCallK (spE C) gRV E0 tNil tk) Γ z := fun c F H σ G Q k => ha c F H σ G _ fun vs F1 H1 S1 r1 => by
  refine ⟨_, F1, _, R, good_args S1.fh r1.reverse, argOk_sh _, hc, fun v d Γ' F' H' hr G' x r => ?_⟩
  have e := hR d Γ' hr
  subst e
  exact k v F' H' (S1.trans ⟨x, fun a o q => G'.hh a o q (fun ⟨_, z⟩ => by cases z), G'.fh, G'.nw⟩) r
end
end DL
set_option Elab.async false
set_option linter.all false
set_option maxRecDepth 100000
set_option autoImplicit false
set_option maxHeartbeats 4000000
/-! G5: a def that gives back a list of its own making (loose, so the caller may change it). -/
namespace DL
open PySem PySem.Spec PyProof.Rows L2
/-- te is a new loose list, of which Rl holds -/
def EvFR (te : TE) (Γ : List En) (Rl : List D → Prop) : Prop := ∀ c F H σ, Good c F H σ Γ → ∀ Q : VK, (∀ a xs ds F' H', Rl ds → Stp F H F' H' → H a = none → F' a = none → H' a = some (.lst xs) → Reps F' ds xs → Q (.ref a) H') → te σ H Q
theorem EvF.r {te : TE} {Γ : List En} {ds : List D} {Rl : List D → Prop} (h : EvF te Γ ds) (r : Rl ds) : EvFR te Γ Rl := fun c F H σ G Q k => h c F H σ G Q fun a xs F' H' S n f e q => k a xs ds F' H' r S n f e q
abbrev CnF := List D → (List D → Prop) → Prop
def spF (C : CnF) : Sp := fun vs H Q _ => ∃ (F : Hp) (es : List D) (Rl : List D → Prop), Ex F H ∧ Reps F es vs ∧ C es Rl ∧ ∀ a xs ds F' H', Rl ds → Stp F H F' H' → H a = none → F' a = none → H' a = some (.lst xs) → Reps F' ds xs → Q (.ref a) H'
theorem ef_callF {C : CnF} {ta : TA} {Γ : List En} {es : List D} {Rl : List D → Prop} {E : XK} (ha : EaP ta Γ es) (hc : C es Rl) : EvFR (tCall (spF C) [] E ta) Γ Rl := fun c F H σ G Q k => ha c F H σ G _ fun vs F1 H1 S1 r1 => by
  show spF C (vs ++ []) H1 Q E
  rw [List.append_nil]
  refine ⟨F1, es, Rl, S1.fh, r1, hc, fun a xs ds F' H' r S n f e q => k a xs ds F' H' r (S1.trans S) ?_ f e q⟩
  cases z : H a with
  | none => rfl
  | some o => rw [S1.h _ _ z] at n; cases n
theorem q_asgFR {te : TE} {Γ : List En} {Rl : List D → Prop} {i : Nat} {u : TS} {P : Po} (h : EvFR te Γ Rl) (k : ∀ ds, Rl ds → SW u (Γ.set i (.own ds)) P) : SW (tSeq (tAsg te (gName i)) u) Γ P := by
  refine sw_seq (fun Γ' => ∃ ds, Rl ds ∧ Γ' = Γ.set i (.own ds)) ?_ (fun Γ' ⟨ds, r, e⟩ => e ▸ k ds r)
  intro c F H σ G D a b e f
  exact h c F H σ G _ fun p xs ds F' H' r S n nf eq q => a _ F' H' _ ⟨ds, r, rfl⟩ ((G.step S).setOwn (G.noSlot n) nf eq q (G.fresh n)) S.f
section
variable {P : Program} {w : World} {K : PySem.W.Frag} {mg : Str → Option Value} {base : Heap} {x qual : Str} {params : Arguments} {body : List Stmt} {scope : Scope} {f : Addr} {fd : FuncData} {N ps : List Str} {k : Nat} {C : CnF}
/-- a def whose last statement returns such a list -/
theorem fn_okF (F : FunD K x qual params body scope [] [] f fd) (S : FnScope N ps scope) (hlen : ∀ es Rl, C es Rl → es.length = ps.length)
    (hb : ∀ (cdv : Value) (A : Around) (out : List Env) (s : Shared) (H : Hp) (E : XK), Room k (A.deeper (envOfC qual scope s.heap.objs.size f cdv)) →
      ∃ t te, PSs (cxOf CX0 P w K mg base N qual scope f cdv A out s H E).nox body (tSeq t (tRet te)) ∧
        ∀ es Rl, C es Rl → ∃ M : List En → Prop, SW t (es.map En.sh ++ List.replicate (N.length - ps.length) .un) ⟨M, fun _ _ => False, fun _ => False, fun _ => False⟩ ∧ ∀ Γ', M Γ' → EvFR te Γ' Rl) :
    FnOk P w K mg base CX0 (k + 1) f fd ps (spF C) := by
  have ln : ∀ vs H Q E, spF C vs H Q E → vs.length = ps.length := fun vs H Q E ⟨F, es, Rl, x0, rs, hC, q⟩ => by rw [rs.length]; exact hlen _ _ hC
  refine F.ok S ln fun cdv A out s H vs Q E hr h => ?_
  obtain ⟨t, te, h1, h2⟩ := hb cdv A out s H E hr
  refine ⟨_, PSs.nox h1, ?_⟩
  have lv := ln vs H Q E h
  obtain ⟨F0, es, Rl, x0, rs, hC, q⟩ := h
  obtain ⟨M, h3, h4⟩ := h2 es Rl hC
  have G := (good_args x0 rs).start (N.length - ps.length)
  show tSeq t (tRet te) _ (vs.map some ++ List.replicate (N.length - vs.length) none) H
  rw [lv]
  refine h3 _ F0 H _ G _ (fun Γ' F' H' σ' m G' xx => ?_) (fun _ _ _ _ _ _ z => z.elim) (fun _ _ _ _ z => z.elim) (fun _ _ _ _ z => z.elim)
  have S1 : Stp F0 H F' H' := ⟨xx, fun a o e => G'.hh a o e fun ⟨_, z⟩ => (nomatch z), G'.fh, G'.nw⟩
  refine h4 Γ' m _ F' H' σ' G' _ fun a xs ds F2 H2 r S2 n f e rr => q a xs ds F2 H2 r (S1.trans S2) ?_ f e rr
  cases z : H a with
  | none => rfl
  | some o => rw [S1.h _ _ z] at n; cases n
end
end DL
set_option Elab.async false
set_option linter.all false
set_option maxRecDepth 100000
set_option autoImplicit false
set_option maxHeartbeats 4000000
/-! H0: the law's def called behind the top, where no repr is under way; the law's walk by it. -/
namespace DL
open PySem PySem.Spec PyProof.Rows L2
section
variable {P : Program} {w : World} {K : PySem.W.Frag} {mg mb : Str → Option Value} {k : Nat} {fl sc : Addr} {fd : FuncData} {px : Str} {pr : Sp} {st : Shared} {vals : List Value} {nums : List Int}
/-- the answer of a law that holds -/
abbrev TrueOf (st : Shared) : Result → Shared → Prop := fun r u => r = .ok (.ret (.bool true)) ∧ OldK st.heap u.heap ∧ u.os = st.os ∧ AllBare u.gens
/-- nothing but the script at sc is tracked, and that only where it is no object of K -/
structure Alone (K : PySem.W.Frag) (T : Hp) (sc : Addr) : Prop where
  only : Only T
  just : ∀ b, T b ≠ none → b = sc ∧ K.lookup sc = none
theorem Alone.off {T : Hp} (Z : Alone K T sc) {b : Addr} (h : b ≠ sc ∨ K.lookup sc ≠ none) : T b = none := by
  cases q : T b with
  | none => rfl
  | some u =>
    obtain ⟨z1, z2⟩ := Z.just b (by rw [q]; exact Option.some_ne_none _)
    rcases h with h | h
    · exact absurd z1 h
    · exact absurd z2 h
theorem lawT {T : Hp} (Z : Alone K T sc) (hK : K.In st.heap) (hG : st.heap.Ns mainGlobals mg) (hB : st.heap.Ns builtinsNs mb) (hBB : ∀ y : Str, y ≠ "__name__" → mb y = bootBuiltins y) (hN : st.heap.NoLimit) (hZ : st.gens = #[])
    (hS : st.heap.get? sc = some { cls := .type "list", data := .seq vals.toArray }) (room : Room k callerA) (fn : ∀ b : Heap, K.In b → b.Ns mainGlobals mg → FnG P w K mg b k fl fd [px] pr) (bd : ∀ (s : Shared) (u : Value), BindsTo s fd ⟨[u], []⟩ [(px, u)])
    (tok : HOk P w T st.heap) (hp : pr [.ref sc] T (fun v _ => v = .bl true) fun _ _ _ => False) : codeAny (model P w) callerA (.call (.ref fl) ⟨[.ref sc], []⟩) (TrueOf st) st := by
  have off : ∀ {b : Addr} {o : Obj} {es : Array DictEntry} {n : Nat}, st.heap.get? b = some o → o.data = .dict es n → T b = none := fun {b o es n} e d => Z.off (.inl fun z => by
    rw [z, hS] at e
    cases e
    exact nomatch (show Data.seq vals.toArray _ = Data.dict es n from d))
  have ns : ∀ {b : Addr} {m : Str → Option Value}, st.heap.Ns b m → (hidT st.heap T).Ns b m := fun ⟨o, es, n, e, d, q⟩ => ⟨o, es, n, hidT_get e (off e d), d, q⟩
  have kb : K.In (hidT st.heap T) := fun b o e => hidT_get (hK b o e) (Z.off (by
    by_cases z : b = sc
    · right; rw [← z, e]; exact Option.some_ne_none _
    · exact .inl z))
  obtain ⟨mc, l1, l2⟩ := hN
  have e0 : Env0 P w K mg (hidT st.heap T) callerA [] st T :=
    ⟨rfl, ⟨kb, ns hG, ⟨mb, ns hB, hBB⟩, mc, ns l1, l2⟩, fun b o e => of_hidT e, Nat.le_of_eq (hidT_size _ _), trivial, fun b z => (List.not_mem_nil z).elim, tok, .of_eq hZ⟩
  refine codeAny_mono ((fn _ kb (ns hG)).go callerA [] st T ⟨[.ref sc], []⟩ [.ref sc] [.ref sc] _ _ room rfl e0 (bd st (.ref sc)) (.cons rfl .nil) hp) fun r u h => ?_
  match r, h with
  | .error e, h => exact (show False from h).elim
  | .ok .next, h => exact (show False from h).elim
  | .ok .brk, h => exact (show False from h).elim
  | .ok .cont, h => exact (show False from h).elim
  | .ok (.ret x), ⟨v, T', o1, o2, un, tok', rv, q⟩ =>
    have q' : v = .bl true := q
    subst q'
    obtain rfl : x = Value.bool true := rv
    refine ⟨rfl, OldK.of_keep fun b o e => ?_, o1, o2⟩
    rcases Z.only b with z | ⟨ob, xs, z⟩
    · exact un.keep b o e z (fun y => (List.not_mem_nil y).elim) (fun y => (List.not_mem_nil y).elim)
    · have a1 := (tok b _ z).1
      have a2 := (tok' b _ (un.frzs b ob _ z)).1
      rw [e] at a1
      cases a1
      exact a2
theorem lawG (hK : K.In st.heap) (hG : st.heap.Ns mainGlobals mg) (hB : st.heap.Ns builtinsNs mb) (hBB : ∀ y : Str, y ≠ "__name__" → mb y = bootBuiltins y) (hN : st.heap.NoLimit) (hZ : st.gens = #[])
    (hS : st.heap.get? sc = some { cls := .type "list", data := .seq vals.toArray }) (hI : IntsAre vals nums) (hL : nums.length ≤ sizeLine) (room : Room k callerA) (fn : ∀ b : Heap, K.In b → b.Ns mainGlobals mg → FnG P w K mg b k fl fd [px] pr)
    (bd : ∀ (s : Shared) (u : Value), BindsTo s fd ⟨[u], []⟩ [(px, u)]) (hp : ∀ T : Hp, Only T → SqL K T sc (nums.map V.int) → pr [.ref sc] T (fun v _ => v = .bl true) fun _ _ _ => False) :
    codeAny (model P w) callerA (.call (.ref fl) ⟨[.ref sc], []⟩) (TrueOf st) st := by
  have rel := vals_ints hI
  cases kq : K.lookup sc with
  | some o =>
    have e := hK sc o kq
    rw [hS] at e
    cases e
    refine lawT (T := fun _ => none) ⟨fun _ => .inl rfl, fun b z => (z rfl).elim⟩ hK hG hB hBB hN hZ hS room fn bd (fun b u z => nomatch (show (none : Option HO) = some u from z)) (hp _ (fun _ => .inl rfl) (.inr ⟨_, vals.toArray, _, kq, rfl, rfl, rfl, ?_, by simpa using rel⟩))
    rw [List.size_toArray, hI.length]
    exact hL
  | none =>
    have at_ : ∀ {b : Addr} {u : HO}, (if b = sc then some (HO.frz { cls := .type "list", data := .seq vals.toArray } (.lst (nums.map V.int))) else none) = some u → b = sc ∧ u = .frz { cls := .type "list", data := .seq vals.toArray } (.lst (nums.map V.int)) := fun {b u} z => by
      by_cases y : b = sc
      · rw [if_pos y] at z
        exact ⟨y, (Option.some.inj z).symm⟩
      · rw [if_neg y] at z
        cases z
    have on : Only fun b => if b = sc then some (HO.frz { cls := .type "list", data := .seq vals.toArray } (.lst (nums.map V.int))) else none := fun b => by
      by_cases y : b = sc
      · exact .inr ⟨_, _, if_pos y⟩
      · exact .inl (if_neg y)
    refine lawT ⟨on, fun b z => ?_⟩ hK hG hB hBB hN hZ hS room fn bd (fun b u z => ?_) (hp _ on (.inl (.inr ⟨_, if_pos rfl⟩)))
    · obtain ⟨u, e⟩ := Option.ne_none_iff_exists'.mp z
      exact ⟨(at_ e).1, kq⟩
    · obtain ⟨rfl, rfl⟩ := at_ z
      exact ⟨hS, by rw [List.length_map]; exact hL, vals, _, rel, hS⟩
end
section
variable {l : PySem.W.OpenLaw} {n k : Nat} {q : Program} {loose : List Str} {XP : (Str → Option Value) → Heap → Prop} {YP : World → Heap → Prop} {d : DefRec} {KP : Params → PySem.W.Frag} {pr : PySem.W.Frag → Sp} {px : Str}
/-- the goal behind the head, by the promise of the law's def -/
theorem walkG (h1 : l.most = some n) (h2 : n ≤ sizeLine) (h3 : d.params.defaults = []) (room : Room k callerA) (hY : ∀ (w : World) (h : Heap), YP w h → (KP w.params).In h)
    (hF : ∀ (w : World) (mg : Str → Option Value) (f : Addr) (h : Heap), (KP w.params).In h → h.Ns mainGlobals mg → mg d.name = some (.ref f) → ∃ fd : FuncData, (∀ (s : Shared) (u : Value), BindsTo s fd ⟨[u], []⟩ [(px, u)]) ∧
      ∀ b : Heap, (KP w.params).In b → b.Ns mainGlobals mg → FnG l.prog w (KP w.params) mg b k f fd [px] (pr (KP w.params)))
    (hp : ∀ (K : PySem.W.Frag) (H : Hp) (a : Addr) (ns : List Int), Only H → SqL K H a (ns.map V.int) → pr K [.ref a] H (fun v _ => v = .bl true) fun _ _ _ => False) :
    PySem.W.WalkO q loose XP YP l.row.toRowW d [] (fun f vs => PySem.call f vs) := by
  refine Att.attach_call h1 h3 fun w s0 st mg mb f o pm cd doc a vs ns G Y ho hd hcd hmg hobj hints hlen hg => ?_
  have hK := hY w _ Y
  obtain ⟨fd, bd, fn⟩ := hF w mg f _ hK G.T.g hmg
  exact lawG hK G.T.g G.T.b G.T.builtins G.T.nolimit hg hobj hints (Nat.le_trans hlen h2) room fn bd fun T z1 z2 => hp _ T a ns z1 z2
end
end DL
set_option Elab.async false
set_option linter.all false
set_option maxRecDepth 100000
set_option autoImplicit false
set_option maxHeartbeats 4000000
/-! Q1: data that is small enough to be shown. -/
namespace DL
open PySem PySem.Spec PyProof.Rows L2
structure Sm (B k : Nat) (d : PyData) : Prop where
  sh : d.showable = true
  nd : d.hasDict = false
  ln : d.shown.length ≤ B
  dp : d.depth ≤ k
theorem sm_all {B k : Nat} : ∀ {ds : List PyData}, (∀ d ∈ ds, Sm B k d) → PyData.showableAll ds = true ∧ PyData.hasDictAll ds = false ∧ PyData.depthAll ds ≤ k ∧ (∀ t ∈ PyData.shownAll ds, t.length ≤ B) ∧ (PyData.shownAll ds).length = ds.length
  | [], _ => ⟨rfl, rfl, Nat.zero_le _, (fun t h => nomatch h), rfl⟩
  | d :: ds, h => by
    obtain ⟨h1, h2, h3, h4, h5⟩ := sm_all (ds := ds) fun x hx => h x (List.mem_cons_of_mem _ hx)
    have s := h d List.mem_cons_self
    refine ⟨?_, ?_, ?_, fun t ht => ?_, ?_⟩
    · simp only [PyData.showableAll, s.sh, h1, Bool.and_self]
    · simp only [PyData.hasDictAll, s.nd, h2, Bool.or_self]
    · simp only [PyData.depthAll]; exact Nat.max_le.mpr ⟨s.dp, h3⟩
    · simp only [PyData.shownAll] at ht
      rcases List.mem_cons.mp ht with z | z
      · rw [z]; exact s.ln
      · exact h4 t z
    · simp only [PyData.shownAll, List.length_cons, h5]
theorem text_le {B : Nat} : ∀ (ts : List Str) (k : Nat) (acc : Str), (∀ t ∈ ts, t.length ≤ B) → (textFrom k acc ts).length ≤ acc.length + ts.length * (B + 2)
  | [], k, acc, _ => by show acc.length ≤ _; simp
  | t :: ts, k, acc, h => by
    show (textFrom (k + 1) (acc ++ _ ++ t) ts).length ≤ _
    refine Nat.le_trans (text_le ts (k + 1) _ fun x hx => h x (List.mem_cons_of_mem _ hx)) ?_
    have h1 := h t List.mem_cons_self
    rw [Str.length_append, Str.length_append, List.length_cons, Nat.add_mul]
    have h2 : (Str.ofString (if k > 0 then ", " else "" : String)).length ≤ 2 := by split <;> decide
    show acc.length + (Str.ofString (if k > 0 then ", " else "" : String)).length + t.length + ts.length * (B + 2) ≤ _
    omega
theorem Sm.lst {B k : Nat} {ds : List PyData} (h : ∀ d ∈ ds, Sm B k d) : Sm (2 + ds.length * (B + 2)) (k + 1) (.list ds) := by
  obtain ⟨h1, h2, h3, h4, h5⟩ := sm_all h
  refine ⟨by simp only [PyData.showable, h1], by simp only [PyData.hasDict, h2], ?_, by simp only [PyData.depth]; omega⟩
  simp only [PyData.shown, listText]
  have := text_le (PyData.shownAll ds) 0 "[" h4
  rw [h5] at this
  rw [Str.length_append]
  have e1 : (Str.ofString "[").length = 1 := by decide
  have e2 : (Str.ofString "]").length = 1 := by decide
  show (textFrom 0 (Str.ofString "[") (PyData.shownAll ds)).length + (Str.ofString "]").length ≤ _
  have t2 : (textFrom 0 (Str.ofString "[") (PyData.shownAll ds)).length ≤ (Str.ofString "[").length + ds.length * (B + 2) := this
  omega
theorem Sm.mono {B B' k k' : Nat} {d : PyData} (h : Sm B k d) (b : B ≤ B') (e : k ≤ k') : Sm B' k' d := ⟨h.sh, h.nd, Nat.le_trans h.ln b, Nat.le_trans h.dp e⟩
end DL
set_option Elab.async false
set_option linter.all false
set_option maxRecDepth 100000
set_option autoImplicit false
set_option maxHeartbeats 4000000
/-! X8: data rules of texts: f-strings, split, slices, the walk over a text, chains, is None, int(text); a tuple's slice, a tuple with a list spread in it, four names at once. -/
namespace DL
open PySem PySem.Spec PyProof.Rows L2
section
variable {K : PySem.W.Frag} {Γ Γ' : List En} {te ta tb tc : TE} {d x y z w : D} {ds es : List D} {P : Po} {g : TG}
/-! f-strings -/
/-- the parts ts are the texts ys, one behind another -/
def EjP (ts : List TE) (Γ : List En) (ys : List Str) : Prop := ∀ c F H σ, Good c F H σ Γ → ∀ (acc : Str) (Q : Str → Hp → Prop), acc.length + (ys.map (·.length)).sum ≤ sizeLine → (∀ F' H', Stp F H F' H' → Q (ys.foldl (· ++ ·) acc) H') → tJs ts acc σ H Q
theorem ej_nil : EjP [] Γ [] := fun c F H σ G acc Q _ k => k F H (.refl G.fh)
theorem ej_cons {a : Str} {ts : List TE} {ys : List Str} (h : EvP te Γ (.str a)) (r : EjP ts Γ ys) : EjP (te :: ts) Γ (a :: ys) := fun c F H σ G acc Q hl k => h c F H σ G _ fun v F1 H1 S1 r1 => by
  have ev : v = .str a := r1
  subst ev
  rw [List.map_cons, List.sum_cons] at hl
  have el : (acc ++ a).length = acc.length + a.length := Str.length_append _ _
  exact ⟨a, rfl, by omega, r c F1 H1 σ (G.step S1) (acc ++ a) Q (by omega) fun F' H' S2 => k F' H' (S1.trans S2)⟩
theorem ep_fj {ts : List TE} {ys : List Str} (h : EjP ts Γ ys) (hl : (ys.map (·.length)).sum ≤ sizeLine) : EvP (fun σ H Q => tJs ts Str.empty σ H fun out H1 => Q (.str out) H1) Γ (.str (ys.foldl (· ++ ·) Str.empty)) := fun c F H σ G Q k =>
  h c F H σ G Str.empty _ (by have : Str.empty.length = 0 := rfl; omega) fun F' H' S => k _ F' H' S rfl
theorem ep_fmtS {a : Str} (h : EvP te Γ (.str a)) (hl : a.length ≤ sizeLine) : EvP (tFmt te) Γ (.str a) := fun c F H σ G Q k => h c F H σ G _ fun v F1 H1 S1 r1 => .inl ⟨a, r1, hl, k _ F1 H1 S1 rfl⟩
theorem ep_fmtI {i : Int} (h : EvP te Γ (.int i)) (hl : i.natAbs.log2 < 1920) : EvP (tFmt te) Γ (.str (toString i)) := fun c F H σ G Q k => h c F H σ G _ fun v F1 H1 S1 r1 => .inr ⟨i, r1, hl, k _ F1 H1 S1 rfl⟩
/-! split, slices -/
abbrev rSplit : V → List V → Hp → VK → Prop := fun x xs H Q => ∃ a b, x = .str a ∧ xs = [.str b] ∧ (b.length == 0) = false ∧ a.length + 2 ≤ sizeLine ∧ rNewStrs (Txt.split a b) H Q
theorem ef_split {a b : Str} {ys : List Str} (ha : EvP ta Γ (.str a)) (hb : EvP tb Γ (.str b)) (hn : (b.length == 0) = false) (hl : a.length + 2 ≤ sizeLine) (hy : Txt.split a b = ys) : EvF (tM1 rSplit ta tb) Γ (ys.map D.str) := fun c F H σ G Q k =>
  ha c F H σ G _ fun v F1 H1 S1 r1 => ⟨⟨a, r1⟩, hb c F1 H1 σ (G.step S1) _ fun u F2 H2 S2 r2 => by
    have eu : u = .str b := r2
    subst eu
    refine ⟨a, b, r1, rfl, hn, hl, ?_⟩
    rw [hy]
    intro p hp
    have S3 := Stp.loose S2.fh (.lst (ys.map V.str)) hp
    have S := (S1.trans S2)
    refine k p _ F2 _ (S.trans S3) ?_ ?_ upd_same (Reps.strs ys)
    · cases q : H p with
      | none => rfl
      | some o => rw [S.h _ _ q] at hp; cases hp
    · cases q : F2 p with
      | none => rfl
      | some o => rw [S2.fh _ _ q] at hp; cases hp⟩
theorem cutV_from {α : Type} (xs : List V) : cutV xs (some 1) none = xs.drop 1 := by
  unfold cutV
  have e : HT.sIx xs.length 0 (some (1 : Int)) = min 1 xs.length := HT.sIx_nat _ _ 1
  rw [e, HT.sIx_none]
  cases xs with
  | nil => rfl
  | cons v r =>
    have m : min 1 (v :: r).length = 1 := by rw [List.length_cons]; omega
    rw [m]
    show (r.take ((r.length + 1) - 1)) = r
    rw [Nat.add_sub_cancel, List.take_length]
/-- t[1:] of a tuple -/
theorem ep_tupFrom (h : EvP te Γ (.tup (x :: ds))) : EvP (tSl (rSlT K) te (tPart (tC (.int 1))) tNoPart) Γ (.tup ds) := fun c F H σ G Q k => h c F H σ G _ fun v F1 H1 S1 r1 => by
  obtain ⟨a, xs, rfl, ha, u, r, rfl, ru, rr⟩ := r1
  refine ⟨1, rfl, a, _, rfl, .inl (.inl (S1.fh _ _ ha)), fun ⟨h1, _⟩ => ?_, fun p hp => ?_⟩
  · have e : HT.sIx (u :: r).length 0 (some (1 : Int)) = min 1 (u :: r).length := HT.sIx_nat _ _ 1
    rw [e, List.length_cons] at h1
    omega
  · rw [cutV_from (α := Unit)]
    have S2 := Stp.new S1.fh (.tup r) hp
    exact k (.ref p) _ _ (S1.trans S2) ⟨p, r, rfl, upd_same, rr.mono S2.f⟩
/-- x[1:] of a text -/
theorem ep_strFrom {c0 : Nat} {cs : List Nat} (h : EvP te Γ (.str (SX.S (c0 :: cs)))) (hl : cs.length + 1 ≤ sizeLine) : EvP (tSl rSlS te (tPart (tC (.int 1))) tNoPart) Γ (.str (SX.S cs)) := fun c F H σ G Q k => h c F H σ G _ fun v F1 H1 S1 r1 => by
  have ev : v = .str (SX.S (c0 :: cs)) := r1
  subst ev
  refine ⟨1, rfl, SX.S (c0 :: cs), rfl, by rw [SX.S_len]; exact hl, ?_⟩
  have e : cutS (SX.S (c0 :: cs)) (some 1) none = SX.S cs := by
    unfold cutS
    have e1 : HT.sIx (SX.S (c0 :: cs)).length 0 (some (1 : Int)) = min 1 (SX.S (c0 :: cs)).length := HT.sIx_nat _ _ 1
    rw [e1, HT.sIx_none, SX.S_len, List.length_cons]
    have m : min 1 (cs.length + 1) = 1 := by omega
    rw [m]
    show (⟨((c0 :: cs).drop 1 |>.take (cs.length + 1 - 1)).toArray⟩ : Str) = _
    rw [Nat.add_sub_cancel, List.drop_succ_cons, List.drop_zero, List.take_length]
  rw [e]
  exact k _ F1 H1 S1 rfl
/-- for c in a text -/
theorem wi_str {a : List Nat} (h : EvP te Γ (.str (SX.S a))) : WiP (iStr te) Γ (a.map fun c => D.str ⟨#[c]⟩) := fun c F H σ G R k => h c F H σ G _ fun v F1 H1 S1 r1 => by
  refine ⟨SX.S a, r1, k _ F1 H1 (fun _ => True) (fun i H v H' => H' = H ∧ ∃ c, (SX.S a).cps[i]? = some c ∧ v = .str ⟨#[c]⟩) S1 ?_ (fun _ _ => trivial) fun i H1' v H2 F2 hi x1 x2 y => ?_⟩
  · have e : (a.map fun c => D.str ⟨#[c]⟩).length = (SX.S a).cps.size := by simp [SX.S]
    rw [e]; exact walk_str
  · obtain ⟨rfl, cc, hc, rfl⟩ := y
    refine ⟨F2, .str ⟨#[cc]⟩, ?_, .refl x2, rfl⟩
    rw [List.getElem?_map]
    have : a[i]? = some cc := by simpa [SX.S] using hc
    rw [this]; rfl
/-! chains, order, is None -/
theorem ep_chain {r r' : R2} {a b : Bool} (ha : EvP ta Γ x) (hb : EvP tb Γ y) (hc : EvP tc Γ z) (h1 : RD r x y (.bl a)) (h2 : a = true → RD r' y z (.bl b)) : EvP (tChain r r' ta tb tc) Γ (.bl (a && b)) := fun c F H σ G Q k =>
  ha c F H σ G _ fun v F1 H1 S1 r1 => hb c F1 H1 σ (G.step S1) _ fun u F2 H2 S2 r2 => h1 F2 H2 v u S2.fh (r1.mono S2.f) r2 _ fun k0 F3 H3 S3 r3 => by
    have e3 : k0 = .bl a := r3
    refine ⟨a, e3, ?_⟩
    have S13 := S1.trans (S2.trans S3)
    cases a with
    | true =>
      rw [if_pos rfl]
      exact hc c F3 H3 σ (G.step S13) _ fun w F4 H4 S4 r4 => h2 rfl F4 H4 u w S4.fh (r2.mono (S3.f.trans S4.f)) r4 Q fun q F5 H5 S5 r5 => k q F5 H5 (S13.trans (S4.trans S5)) r5
    | false => rw [if_neg Bool.false_ne_true]; exact k _ F3 H3 S13 rfl
abbrev rLeS : R2 := fun x y H Q => ∃ i j, x = .str i ∧ y = .str j ∧ Q (.bl (!decide (j.cps.toList < i.cps.toList))) H
theorem rd_leS {i j : Str} : RD rLeS (.str i) (.str j) (.bl (!decide (j.cps.toList < i.cps.toList))) := fun F H vx vy e rx ry Q k => ⟨i, j, rx, ry, k _ F H (.refl e) rfl⟩
def isNon : D → Bool
  | .non => true
  | _ => false
theorem rep_non {F : Hp} {v : V} : ∀ {d : D}, (∀ p, d ≠ .opq p) → Rep F d v → decide (v = .non) = isNon d
  | .non, _, r => by cases r; rfl
  | .bl _, _, r => by cases r; rfl
  | .int _, _, r => by cases r; rfl
  | .str _, _, r => by cases r; rfl
  | .ref _, _, r => by cases r; rfl
  | .ty _, _, r => by cases r; rfl
  | .lst _, _, ⟨a, xs, e, _⟩ => by subst e; rfl
  | .tup _, _, ⟨a, xs, e, _⟩ => by subst e; rfl
  | .obj _ _, _, ⟨a, dx, xs, e, _⟩ => by subst e; rfl
  | .scr _ _ _, _, ⟨e, _⟩ => by subst e; rfl
  | .dct _, _, ⟨a, xs, e, _⟩ => by subst e; rfl
  | .dki _, _, ⟨a, xs, e, _⟩ => by subst e; rfl
  | .opq p, h, _ => absurd rfl (h p)
theorem rd_isN (h : ∀ p, x ≠ .opq p) : RD rIsN x .non (.bl (isNon x)) := fun F H vx vy e rx ry Q k => ⟨ry, by rw [rep_non h rx]; exact k _ F H (.refl e) rfl⟩
/-- int(a) -/
theorem rc_intS {a : Str} {n : Int} (hn : PySem.intText? a = some n) (hl : a.length ≤ 640) : RC (fun xs H Q => ∃ a n, xs = [.str a] ∧ PySem.intText? a = some n ∧ a.length ≤ 640 ∧ Q (.int n) H) [.str a] (.int n) := fun F H vs e r Q k => by
  obtain ⟨v, _, rfl, rv, rfl⟩ := r
  have ev : v = .str a := rv
  subst ev
  exact ⟨a, n, rfl, hn, hl, k _ F H (.refl e) rfl⟩
theorem rc_reprI {i : Int} (hl : i.natAbs.log2 < 1920) : RC (fun xs H Q => ∃ i, xs = [.int i] ∧ i.natAbs.log2 < 1920 ∧ Q (.str (toString i)) H) [.int i] (.str (toString i)) := fun F H vs e r Q k => by
  obtain ⟨v, _, rfl, rv, rfl⟩ := r
  have ev : v = .int i := rv
  subst ev
  exact ⟨i, rfl, hl, k _ F H (.refl e) rfl⟩
/-- startswith -/
abbrev rStarts : V → List V → Hp → VK → Prop := fun x xs H Q => ∃ a b, x = .str a ∧ xs = [.str b] ∧ Q (.bl (Txt.startswith a b)) H
theorem ep_starts {a b : Str} (ha : EvP ta Γ (.str a)) (hb : EvP tb Γ (.str b)) : EvP (tM1 rStarts ta tb) Γ (.bl (Txt.startswith a b)) := fun c F H σ G Q k =>
  ha c F H σ G _ fun v F1 H1 S1 r1 => ⟨⟨a, r1⟩, hb c F1 H1 σ (G.step S1) _ fun u F2 H2 S2 r2 => by
    have eu : u = .str b := r2
    subst eu
    exact ⟨a, b, r1, rfl, k _ F2 H2 (S1.trans S2) rfl⟩⟩
/-- four names -/
theorem gt_tup4 {i j l m : Nat} : GtP (gTup K 4 (gCons (gName i) (gCons (gName j) (gCons (gName l) (gCons (gName m) gNil))))) (.tup [x, y, z, w]) Γ ((((Γ.set i (.sh x)).set j (.sh y)).set l (.sh z)).set m (.sh w)) := fun c F H σ v G r Q k => by
  obtain ⟨a, xs, rfl, ha, u1, r1, rfl, h1, u2, r2, rfl, h2, u3, r3, rfl, h3, u4, r4, rfl, h4, rfl⟩ := r
  exact ⟨a, [u1, u2, u3, u4], rfl, .inl (.inl (G.exH ha)), rfl, u1, [u2, u3, u4], rfl, u2, [u3, u4], rfl, u3, [u4], rfl, u4, [], rfl, rfl, k _ ((((G.setSh h1).setSh h2).setSh h3).setSh h4)⟩
/-- *xs, xs a mutable list, as the last argument -/
theorem ea_starM {i : Nat} (h : Mt Γ i ds) : EaP (StX.tStar K (tVar i) tNil) Γ ds := fun c F H σ G Q k => by
  obtain ⟨p, xs, e, h1, h2, h3, h4, h5, h6⟩ := G.mt h
  refine ⟨_, h1, p, xs, rfl, .inr (SqL.of h2), ?_⟩
  show Q (xs ++ []) H
  rw [List.append_nil]
  exact k xs F H (.refl G.fh) h3
/-- repr of a tuple of data -/
theorem rc_reprT {d : PyData} (h : pyD (.tup ds) = some d) (hs : d.showable = true) (hn : d.hasDict = false) (hl : d.shown.length ≤ sizeLine) (hp : d.depth ≤ 60) : RC (fun xs H Q => ∃ (a : Addr) (d : PyData), xs = [.ref a] ∧ Dp K H (.ref a) d ∧ d.showable = true ∧ d.hasDict = false ∧ d.shown.length ≤ sizeLine ∧ d.depth ≤ 60 ∧ Q (.str d.shown) H) [.tup ds] (.str d.shown) := fun F H vs e r Q k => by
  obtain ⟨v, _, rfl, rv, rfl⟩ := r
  have q := dp_of (K := K) e h rv
  obtain ⟨a, xs, rfl, h1, h2⟩ := rv
  exact ⟨a, d, rfl, q, hs, hn, hl, hp, k _ F H (.refl e) rfl⟩
end
end DL
set_option Elab.async false
set_option linter.all false
set_option maxRecDepth 100000
set_option autoImplicit false
set_option maxHeartbeats 4000000
/-! X9: defs that return data or raise an own exception with one int: the promise, the raising runs, raise. -/
namespace XS
open PySem PySem.Spec PyProof.Rows L2 DL
/-- the promise of an __init__ whose exception is raised later -/
def spXr (C : Addr) (I : List D → List (Str × V) → Prop) : Sp := fun vs H Q _ => ∃ (F H0 : Hp) (s : Addr) (ws : List V) (args : List D) (fs : List (Str × V)), vs = .ref s :: ws ∧ Ex F H0 ∧ H = upd H0 s (exo s C none) ∧ H0 s = none ∧ Reps F args ws ∧ I args fs ∧
  ∀ H' dx, Ex H0 H' → H0 dx = none → dx ≠ s → H' s = some (exo s C (some dx)) → H' dx = some (exd dx fs) → Q .non H'
/-- what is wished of the exception: its class C, its field f the int v, all that stood at the entry standing -/
abbrev OkX (E : XK) (C : Addr) (f : Str) (v : Int) (H : Hp) : Prop := ∀ (d : Addr) (H' : Hp), Ex H H' → H' d = some (.xd [(f, .int v)]) → E (.ref C) (some d) H'
/-- t raises it -/
def RW (E : XK) (C : Addr) (f : Str) (v : Int) (t : TS) (Γ : List En) : Prop := ∀ c F H σ, Good c F H σ Γ → (∀ a, ¬ c.L a) → OkX E C f v c.H0 → ∀ D, t D σ H
def ER (E : XK) (C : Addr) (f : Str) (v : Int) (te : TE) (Γ : List En) : Prop := ∀ c F H σ, Good c F H σ Γ → (∀ a, ¬ c.L a) → OkX E C f v c.H0 → ∀ Q, te σ H Q
/-- data back, or the exception -/
def spU (C : Cn) (CX : Addr) (f : Str) (B : List D → Int → Prop) : Sp := fun vs H Q E => spE C vs H Q E ∨ ∃ (F : Hp) (es : List D) (v : Int), Ex F H ∧ Reps F es vs ∧ B es v ∧ OkX E CX f v H
theorem exL {c : Ct} {F H : Hp} {σ : L2.St} {Γ : List En} (G : Good c F H σ Γ) (n : ∀ a, ¬ c.L a) : Ex c.H0 H := fun a o e => G.hh a o e (n a)
section
variable {E : XK} {CX : Addr} {fl : Str} {v : Int} {t u : TS} {Γ : List En} {te : TE} {tt : TT} {g : TG} {C : Cn} {B : List D → Int → Prop} {ta : TA} {es : List D} {z : D} {R R' : D → List En → Prop} {ds : List D}
theorem rw_seqN {M : List En → Prop} (h : SW t Γ ⟨M, fun _ _ => False, fun _ => False, fun _ => False⟩) (k : ∀ Γ', M Γ' → RW E CX fl v u Γ') : RW E CX fl v (tSeq t u) Γ := fun c F H σ G n o D =>
  h c F H σ G _ (fun Γ' F' H' σ' m G' x => k Γ' m c F' H' σ' G' n o D) (fun _ _ _ _ _ _ z => z.elim) (fun _ _ _ _ z => z.elim) (fun _ _ _ _ z => z.elim)
theorem rw_seqR (h : RW E CX fl v t Γ) : RW E CX fl v (tSeq t u) Γ := fun c F H σ G n o D => h c F H σ G n o _
theorem rw_ifT (h : EtP tt Γ true) (k : RW E CX fl v t Γ) : RW E CX fl v (tIfS tt t u) Γ := fun c F H σ G n o D => h c F H σ G _ fun F1 H1 S => by
  rw [if_pos rfl]
  exact k c F1 H1 σ (G.step S) n o D
theorem rw_asg (h : ER E CX fl v te Γ) : RW E CX fl v (tAsg te g) Γ := fun c F H σ G n o D => h c F H σ G n o _
theorem rw_guard (h : EtP tt Γ false) (k : RW E CX fl v u Γ) : RW E CX fl v (tSeq (tIfS tt t tNext) u) Γ :=
  rw_seqN (M := fun Γ' => Γ' = Γ) (sw_if h (fun z => by cases z) fun _ => sw_next rfl) fun Γ' e => by subst e; exact k
theorem er_call (ha : EaP ta Γ es) (hb : B es v) : ER E CX fl v (tCall (spU C CX fl B) [] E ta) Γ := fun c F H σ G n o Q => ha c F H σ G _ fun vs F1 H1 S1 r1 => by
  show spU C CX fl B (vs ++ []) H1 Q E
  rw [List.append_nil]
  exact .inr ⟨F1, es, v, S1.fh, r1, hb, fun d H' x e => o d H' (((exL G n).trans S1.h).trans x) e⟩
/-- such a call that gives data back -/
theorem ep_callU (ha : EaP ta Γ es) (hc : C (es.map .sh) R) (hR : ∀ e Γ', R e Γ' → e = z) : EvP (tCall (spU C CX fl B) [] E ta) Γ z := fun c F H σ G Q k => ha c F H σ G _ fun vs F1 H1 S1 r1 => by
  show spU C CX fl B (vs ++ []) H1 Q E
  rw [List.append_nil]
  refine .inl ⟨_, F1, _, R, good_args S1.fh r1, argOk_sh es, hc, fun v d Γ' F' H' hr G' x r => ?_⟩
  have e := hR d Γ' hr
  subst e
  exact k v F' H' (S1.trans ⟨x, fun a o q => G'.hh a o q (fun ⟨_, z⟩ => by cases z), G'.fh, G'.nw⟩) r
/-- a loop whose j-th turn raises -/
theorem rw_for {wi : TI} (I : Nat → List En → Prop) (j : Nat) (h : WiP wi Γ ds) (hj : j < ds.length) (h0 : I 0 Γ) (hs : ∀ i d Γi, i < j → ds[i]? = some d → I i Γi → ∃ Γ', GtP g d Γi Γ' ∧ SW t Γ' ⟨I (i + 1), fun _ _ => False, fun _ => False, fun _ => False⟩)
    (he : ∀ d Γi, ds[j]? = some d → I j Γi → ∃ Γ', GtP g d Γi Γ' ∧ RW E CX fl v t Γ') : RW E CX fl v (tFor wi g t) Γ := fun c F H σ G n o D => h c F H σ G _ fun J F1 H1 Gd Y S w hG hY => by
  refine for_it w (fun i σ' H' => i ≤ j ∧ ∃ Γi F', I i Γi ∧ Good c F' H' σ' Γi ∧ Ex F1 F') ⟨Nat.zero_le _, Γ, F1, h0, G.step S, Ex.refl _⟩ (fun i σ' H' _ ⟨_, _, _, _, G', x⟩ => hG _ (x.trans G'.fh)) ?_ ?_
  · rintro i x σ1 H2 H3 hi ⟨hij, Γi, F2, p, G2, x2⟩ y
    obtain ⟨F3, d, hd', S3, r3⟩ := hY i H2 x H3 F2 hi x2 G2.fh y
    by_cases hlt : i < j
    · obtain ⟨Γ', hg, hb⟩ := hs i d Γi hlt hd' p
      refine hg c F3 H3 σ1 x (G2.step S3) r3 _ fun σ2 G3 => ?_
      exact hb c F3 H3 σ2 G3 _ (fun Γ'' F' H' σ' q G' x' => ⟨hlt, Γ'', F', q, G', (x2.trans S3.f).trans x'⟩) (fun _ _ _ _ _ _ z => z.elim) (fun _ _ _ _ z => z.elim) (fun _ _ _ _ z => z.elim)
    · have e : i = j := by omega
      subst e
      obtain ⟨Γ', hg, hb⟩ := he d Γi hd' p
      refine hg c F3 H3 σ1 x (G2.step S3) r3 _ fun σ2 G3 => ?_
      exact hb c F3 H3 σ2 G3 n o _
  · rintro σ1 H2 ⟨hle, _⟩
    omega
/-- raise C(e) -/
theorem rw_raise {I : List D → List (Str × V) → Prop} {args : List D} (ha : EaP ta Γ args) (hI : I args [(fl, .int v)]) (hl : args.length ≤ 1000) : RW E CX fl v (fun _ σ H => tMkO CX (spXr CX I) [] ta σ H fun cls d H' => E cls d H') Γ := fun c F H σ G n o D => ha c F H σ G _ fun vs F1 H1 S1 r1 =>
  ⟨by rw [r1.length]; exact hl, fun a hn => by
    rw [List.append_nil]
    refine ⟨F1, H1, a, vs, args, _, rfl, S1.fh, rfl, hn, r1, hI, fun H' dx x h0 ne ea ed => ⟨rfl, dx, _, ea, ed, h0, o dx _ (fun p w e => ?_) upd_same⟩⟩
    have e1 := S1.h _ _ (exL G n _ _ e)
    have na : p ≠ a := fun z => by subst z; rw [hn] at e1; cases e1
    have nd : p ≠ dx := fun z => by subst z; rw [h0] at e1; cases e1
    rw [upd_ne nd, del_ne na]
    exact x _ _ e1⟩
end
section
variable {P : Program} {w : World} {K : PySem.W.Frag} {mg : Str → Option Value} {base : Heap} {x qual : Str} {params : Arguments} {body : List Stmt} {scope : Scope} {f : Addr} {fd : FuncData} {N ps : List Str} {k : Nat} {C : Cn} {CX : Addr} {fl : Str} {B : List D → Int → Prop}
/-- THE RULE for a def that gives data back or raises -/
theorem fn_okU (F : FunD K x qual params body scope [] [] f fd) (S : FnScope N ps scope) (hlen : ∀ Γ R, C Γ R → Γ.length = ps.length) (hlenB : ∀ es v, B es v → es.length = ps.length)
    (hb : ∀ (cdv : Value) (A : Around) (outer : List Env) (s : Shared) (H : Hp) (E : XK), Room k (A.deeper (envOfC qual scope s.heap.objs.size f cdv)) →
      ∃ t, PSs (cxOf (L2.CX P w) P w K mg base N qual scope f cdv A outer s H E) body t ∧
        (∀ Γ R, C Γ R → argOk Γ → SW t (Γ ++ List.replicate (N.length - ps.length) .un) ⟨fun Γ' => R .non (outG Γ Γ') ∧ lentOk Γ Γ', fun d Γ' => R d (outG Γ Γ') ∧ lentOk Γ Γ', fun _ => False, fun _ => False⟩) ∧
        ∀ es v, B es v → RW E CX fl v t (es.map .sh ++ List.replicate (N.length - ps.length) .un)) :
    FnOk P w K mg base (L2.CX P w) (k + 1) f fd ps (spU C CX fl B) := by
  have ln : ∀ vs H Q E, spU C CX fl B vs H Q E → vs.length = ps.length := fun vs H Q E h => by
    rcases h with ⟨c, F, Γ, R, G, a, hC, q⟩ | ⟨F, es, v, x, r, hB, _⟩
    · have e := G.len
      rw [List.length_map] at e
      rw [e, hlen _ _ hC]
    · rw [r.length, hlenB _ _ hB]
  refine F.ok S ln fun cdv A outer s H vs Q E hr h => ?_
  obtain ⟨t, h1, h2, h3⟩ := hb cdv A outer s H E hr
  refine ⟨t, h1, ?_⟩
  have lv := ln vs H Q E h
  show t _ (vs.map some ++ List.replicate (N.length - vs.length) none) H
  rw [lv]
  rcases h with ⟨c, F0, Γ, R, G, a, hC, q⟩ | ⟨F0, es, v, x0, rs, hB, o⟩
  · refine h2 Γ R hC a c F0 H _ (G.start _) _ (fun Γ' F' H' σ' p G' x => ?_) (fun v d Γ' F' H' σ' p G' x r => ?_) (fun _ _ _ _ z => z.elim) (fun _ _ _ _ z => z.elim)
    · exact q .non .non _ F' H' p.1 (G.back G' x a p.2) x rfl
    · exact q v d _ F' H' p.1 (G.back G' x a p.2) x r
  · exact h3 es v hB _ F0 H _ ((good_args x0 rs).start _) (fun a ⟨_, z⟩ => nomatch z) o _
/-- the name x stands for such a def -/
structure CalU (P : Program) (w : World) (K : PySem.W.Frag) (mg : Str → Option Value) (base : Heap) (k : Nat) (x : Str) (sp : Sp) : Prop where
  ex : ∃ (f : Addr) (fd : FuncData) (ps : List Str), FnOk P w K mg base (L2.CX P w) k f fd ps sp ∧ mg x = some (.ref f) ∧ PySem.W.keepIn K (.ref f) = true ∧ Binds K fd ps []
end
theorem pe_cu {X : Cx} {k j : Nat} {x : Str} {sp : Sp} {p pos : Pos} {e : Expr} {es : List Expr} {t : TA} {E : XK} (c : CalU X.prog X.w X.K X.mg X.base k x sp) (hr : Room j X.A) (hk : k ≤ j) (hg : Gl X x) (hx : Passes (L2.CX X.prog X.w) X E) (ha : PA X (e :: es) t)
    (hdb : (x == ("__debug__" : Str)) = false := by decide) (he : starEach (e :: es) X.env = (false, eval e X.env) :: starEach es X.env := by rfl) (hpl : (backTo pos (starEach es X.env)).any (·.1) = false := by rfl) :
    PE X (.Call (.Name x p) (e :: es) [] pos) (tCall sp [] E t) := by
  obtain ⟨f, fd, ps, F, hm, kp, b⟩ := c.ex
  exact pe_call F (hr.mono hk) hg hm kp b .nil hx ha hdb he hpl
theorem pe_cuS {X : Cx} {k j : Nat} {x : Str} {sp : Sp} {p pos : Pos} {e : Expr} {es : List Expr} {t : TA} {E : L2.St → XK} (c : CalU X.prog X.w X.K X.mg X.base k x sp) (hr : Room j X.A) (hk : k ≤ j) (hg : Gl X x) (hx : ∀ σ, PassesAt (L2.CX X.prog X.w) X σ (E σ)) (ha : PA X (e :: es) t)
    (hdb : (x == ("__debug__" : Str)) = false := by decide) (he : starEach (e :: es) X.env = (false, eval e X.env) :: starEach es X.env := by rfl) (hpl : (backTo pos (starEach es X.env)).any (·.1) = false := by rfl) :
    PE X (.Call (.Name x p) (e :: es) [] pos) (tCallS sp E t) := by
  obtain ⟨f, fd, ps, F, hm, kp, b⟩ := c.ex
  exact pe_callS F (hr.mono hk) hg hm kp b hx ha hdb he hpl
/-- raise C(e, ..) -/
theorem ps_rsX {X : Cx} {k j : Nat} {x : Str} {C : Addr} {ps : List Str} {sp : Sp} {e : Expr} {es : List Expr} {ta : TA} {p pos pos' : Pos} {W : WX} (c : MakX X.prog X.w X.K X.mg X.base k x C ps sp) (tk : Takes X W) (hc : X.calm = true) (hr : Room j X.A) (hk : k + 1 ≤ j) (hg : Gl X x) (ha : PA X (e :: es) ta)
    (hdb : (x == ("__debug__" : Str)) = false := by decide) (he : starEach (e :: es) X.env = (false, eval e X.env) :: starEach es X.env := by rfl) (hpl : (backTo pos (starEach es X.env)).any (·.1) = false := by rfl) :
    PS X (.Raise (some (.Call (.Name x p) (e :: es) [] pos)) none pos') (fun _ σ H => tMkO C sp [] ta σ H fun cls d H' => W cls d σ H') := by
  obtain ⟨f, fd, F, hm, T, iC, tI, b1, b2⟩ := c.ex
  refine ps_raise hc tk (pmk_oex T iC tI F (hr.mono hk) (fun s us _ hl => ?_) .nil pass0 hg hm ha hdb he hpl)
  rw [List.append_nil] at hl ⊢
  exact b1 s us hl
end XS
set_option Elab.async false
set_option linter.all false
set_option maxRecDepth 100000
set_option maxHeartbeats 4000000
/-! X10: an own exception's __init__ whose exception is raised later. -/
namespace XS
open PySem PySem.Spec PyProof.Rows L2 DL
theorem upd3 {H0 : Hp} {s dx : Addr} {x y e : HO} (ne : dx ≠ s) : upd (upd (upd H0 s x) dx e) s y = upd (upd H0 dx e) s y := by
  funext b
  by_cases h1 : b = s
  · rw [h1, upd_same, upd_same]
  · rw [upd_ne h1, upd_ne h1]
    by_cases h2 : b = dx
    · rw [h2, upd_same, upd_same]
    · rw [upd_ne h2, upd_ne h2, upd_ne h1]
theorem txt2 {a b : Str} {n m : Nat} (h1 : a.length ≤ n) (h2 : b.length ≤ m) : (a ++ b).length ≤ n + m := by
  have : (a ++ b).length = a.length + b.length := PySem.Str.length_append a b
  omega
theorem free_of {l : List (Str × NameKind)} (h : ∀ y ∈ l, y.2 = .free → y.1 = "__class__") : ∀ x : Str, l.lookup x = some .free → x = "__class__" := fun x e => h (x, .free) (PySem.mem_of_lookup e) rfl
section
variable {CX : CXT} {P : Program} {w : World} {K : PySem.W.Frag} {mg : Str → Option Value} {base : Heap} {N : List Str} {qual : Str} {scope : Scope} {f cc cda C : Addr} {A : Around} {outer : List Env} {s : Shared} {H : Hp} {E : XK}
theorem run1r {H0 : Hp} {a : Addr} {i : Int} {lit fn : Str} {Q : VK} (ox : OexC K C) (hno : PySem.W.findIn K (.ref C) fn = some none) (hlit : lit.length ≤ 1000) (hi : i.natAbs.log2 < 1920) (h0 : H0 a = none)
    (k : ∀ H' dx, Ex H0 H' → H0 dx = none → dx ≠ a → H' a = some (exo a C (some dx)) → H' dx = some (exd dx [(fn, .int i)]) → Q .non H') (Qp : VK) (σ : L2.St) (e0 : σ[0]? = some (some (.ref a))) (e1 : σ[1]? = some (some (.int i)))
    (hq : ∀ y H2, H2 a = some (exo a C none) → tOst K fn (tVar 0) (tVar 1) { nx := fun _ H' => Q .non H', rt := Q } σ H2 → Qp y H2) : tJs [tC (.str lit), tFmt (tVar 1)] Str.empty σ (upd H0 a (exo a C none)) fun out H1 => Qp (.str out) H1 := by
  refine ⟨lit, rfl, ?_, .int i, e1, .inr ⟨i, rfl, hi, _, rfl, ?_, hq _ _ upd_same ⟨_, e1, _, e0, a, C, rfl, ox, hno, .inl ⟨upd_same, fun dx hn ne => ?_⟩⟩⟩⟩
  · exact Nat.le_trans (txt2 (n := 0) (Nat.le_refl 0) hlit) (by rw [sizeLine_eq]; decide)
  · exact Nat.le_trans (txt2 (txt2 (n := 0) (Nat.le_refl 0) hlit) (int_text_len_1921 hi)) (by rw [sizeLine_eq]; decide)
  · rw [upd_ne ne] at hn
    show Q .non _
    rw [upd3 ne]
    refine k _ dx (fun p o e => ?_) hn ne upd_same (by rw [upd_ne ne]; exact upd_same)
    have n1 : p ≠ a := fun z => by subst z; rw [h0] at e; cases e
    have n2 : p ≠ dx := fun z => by subst z; rw [hn] at e; cases e
    rw [upd_ne n1, upd_ne n2]; exact e
end
end XS
set_option Elab.async false
set_option linter.all false
set_option maxRecDepth 100000
set_option autoImplicit false
set_option maxHeartbeats 4000000
/-! X6: a flask: a list [cells, x, y] whose first element is itself changed in place, lent down through defs (no slot holds the flask itself but as a reference). -/
namespace DL
open PySem PySem.Spec PyProof.Rows L2
/-- what the flask holds -/
structure Fk where
  cs : List Int
  x : Int
  y : Int
/-- the flask at a, its cells at b -/
def FlAt (a b : Addr) (H : Hp) (k : Fk) : Prop := H a = some (.lst [.ref b, .int k.x, .int k.y]) ∧ H b = some (.lst (k.cs.map V.int))
structure GK (a b : Addr) (c : Ct) (F H : Hp) (σ : L2.St) (Γ : List En) (k : Fk) : Prop where
  g : Good c F H σ Γ
  na : NoSlot σ Γ a
  nb : NoSlot σ Γ b
  fa : F a = none
  fb : F b = none
  ne : a ≠ b
  la : c.L a ∨ c.H0 a = none
  lb : c.L b ∨ c.H0 b = none
  at_ : FlAt a b H k
section
variable {a b : Addr} {c : Ct} {F H F' H' : Hp} {σ : L2.St} {Γ Γ' : List En} {k k' : Fk}
theorem NoSlot.setSh {p : Addr} {i : Nat} {v : Option V} {d : D} (N : NoSlot σ Γ p) : NoSlot (σ.set i v) (Γ.set i (.sh d)) p := fun j e he m q => by
  by_cases z : i = j
  · subst z
    rw [List.getElem?_set] at he
    rw [if_pos rfl] at he
    split at he
    · cases he; cases m
    · cases he
  · rw [List.getElem?_set_ne z] at he q
    exact N j e he m q
theorem noS_of {p : Addr} (nm : ∀ (j : Nat) (e : En), Γ[j]? = some e → e.mut = false) : NoSlot σ Γ p := fun j e he m => by rw [nm j e he] at m; cases m
/-- what no slot holds and nobody froze is written -/
theorem Good.wrK {o : HO} {p : Addr} (G : Good c F H σ Γ) (n : NoSlot σ Γ p) (f : F p = none) (l : c.L p ∨ c.H0 p = none) : Good c F (upd H p o) σ Γ where
  ff := G.ff
  fh := fun q u z => by
    have nq : q ≠ p := fun w => by subst w; rw [f] at z; cases z
    rw [upd_ne nq]; exact G.fh _ _ z
  hh := fun q u z m => by
    have nq : q ≠ p := fun w => by
      subst w
      rcases l with l | l
      · exact m l
      · rw [l] at z; cases z
    rw [upd_ne nq]; exact G.hh _ _ z m
  li := fun q m => by
    by_cases w : q = p
    · subst w; exact ⟨_, upd_same⟩
    · rw [upd_ne w]; exact G.li q m
  nw := G.nw
  len := G.len
  en := fun i en he => by
    obtain ⟨v, h1, h2⟩ := G.en i en he
    refine ⟨v, h1, ?_⟩
    cases en with
    | un => trivial
    | sh d => exact h2
    | own ds =>
      obtain ⟨q, xs, e1, e2, e3, e4⟩ := h2
      have nq : q ≠ p := fun w => by subst w; exact n i _ he rfl (by rw [h1, e1])
      exact ⟨q, xs, e1, e2, by rw [upd_ne nq]; exact e3, e4⟩
    | lent ds =>
      obtain ⟨q, xs, e1, e2, e3, e4⟩ := h2
      have nq : q ≠ p := fun w => by subst w; exact n i _ he rfl (by rw [h1, e1])
      exact ⟨q, xs, e1, e2, by rw [upd_ne nq]; exact e3, e4⟩
  dj := G.dj
theorem stp_none {p : Addr} {o : HO} (S : Stp F H F' H') (f : F p = none) (h : H p = some o) : F' p = none := by
  cases q : F' p with
  | none => rfl
  | some u =>
    rcases S.nw p (by rw [q]; exact Option.some_ne_none _) with z | z
    · exact absurd f z
    · rw [h] at z; cases z
theorem GK.step (G : GK a b c F H σ Γ k) (S : Stp F H F' H') : GK a b c F' H' σ Γ k :=
  ⟨G.g.step S, G.na, G.nb, stp_none S G.fa G.at_.1, stp_none S G.fb G.at_.2, G.ne, G.la, G.lb, S.h _ _ G.at_.1, S.h _ _ G.at_.2⟩
theorem GK.updA {x y : Int} (G : GK a b c F H σ Γ k) : GK a b c F (upd H a (.lst [.ref b, .int x, .int y])) σ Γ ⟨k.cs, x, y⟩ :=
  ⟨G.g.wrK G.na G.fa G.la, G.na, G.nb, G.fa, G.fb, G.ne, G.la, G.lb, upd_same, by rw [upd_ne G.ne.symm]; exact G.at_.2⟩
theorem GK.updB {cs : List Int} (G : GK a b c F H σ Γ k) : GK a b c F (upd H b (.lst (cs.map V.int))) σ Γ ⟨cs, k.x, k.y⟩ :=
  ⟨G.g.wrK G.nb G.fb G.lb, G.na, G.nb, G.fa, G.fb, G.ne, G.la, G.lb, by rw [upd_ne G.ne]; exact G.at_.1, upd_same⟩
theorem GK.setSh {i : Nat} {d : D} {v : V} (G : GK a b c F H σ Γ k) (r : Rep F d v) : GK a b c F H (σ.set i (some v)) (Γ.set i (.sh d)) k :=
  ⟨G.g.setSh r, NoSlot.setSh G.na, NoSlot.setSh G.nb, G.fa, G.fb, G.ne, G.la, G.lb, G.at_⟩
/-- behind a call that was lent the flask -/
structure StK (a b : Addr) (F H F' H' : Hp) : Prop where
  f : Ex F F'
  fh : Ex F' H'
  keep : ∀ p o, p ≠ a → p ≠ b → H p = some o → H' p = some o
  fa : F' a = none
  fb : F' b = none
  nw : ∀ p, F' p ≠ none → F p ≠ none ∨ H p = none
theorem GK.call (G : GK a b c F H σ Γ k) (S : StK a b F H F' H') (h : FlAt a b H' k') : GK a b c F' H' σ Γ k' := by
  have S1 : Stp F H F' (upd (upd H' a (.lst [.ref b, .int k.x, .int k.y])) b (.lst (k.cs.map V.int))) := by
    refine ⟨S.f, fun p o e => ?_, fun p o e => ?_, S.nw⟩
    · by_cases z : p = b
      · subst z; rw [G.at_.2] at e; cases e; exact upd_same
      · rw [upd_ne z]
        by_cases w : p = a
        · subst w; rw [G.at_.1] at e; cases e; exact upd_same
        · rw [upd_ne w]; exact S.keep p o w z e
    · have z : p ≠ b := fun z => by subst z; rw [S.fb] at e; cases e
      have w : p ≠ a := fun w => by subst w; rw [S.fa] at e; cases e
      rw [upd_ne z, upd_ne w]; exact S.fh p o e
  have G2 := ((G.step S1).updA (x := k'.x) (y := k'.y)).updB (cs := k'.cs)
  have e : upd (upd (upd (upd H' a (.lst [.ref b, .int k.x, .int k.y])) b (.lst (k.cs.map V.int))) a (.lst [.ref b, .int k'.x, .int k'.y])) b (.lst (k'.cs.map V.int)) = H' := by
    funext p
    by_cases z : p = b
    · subst z; rw [upd_same]; exact h.2.symm
    · rw [upd_ne z]
      by_cases w : p = a
      · subst w; rw [upd_same]; exact h.1.symm
      · rw [upd_ne w, upd_ne z, upd_ne w]
  rw [e] at G2
  exact G2
end
/-- te gives some d and turns the flask, as R says -/
def EvK (a b : Addr) (te : TE) (Γ : List En) (k : Fk) (R : D → Fk → Prop) : Prop := ∀ c F H σ, GK a b c F H σ Γ k → ∀ Q : VK, (∀ v d k' F' H', R d k' → GK a b c F' H' σ Γ k' → Ex F F' → Rep F' d v → Q v H') → te σ H Q
structure PoK where
  nx : List En → Fk → Prop
  rt : D → List En → Fk → Prop
def SK (a b : Addr) (t : TS) (Γ : List En) (k : Fk) (P : PoK) : Prop := ∀ c F H σ, GK a b c F H σ Γ k → ∀ E : Ends, (∀ Γ' k' F' H' σ', P.nx Γ' k' → GK a b c F' H' σ' Γ' k' → Ex F F' → E.nx σ' H') →
  (∀ v d Γ' k' F' H' σ', P.rt d Γ' k' → GK a b c F' H' σ' Γ' k' → Ex F F' → Rep F' d v → E.rt v H') → t E σ H
abbrev CnK := Fk → List D → (D → Fk → Prop) → Prop
/-- a promise of a def that is lent a flask -/
def spK (C : CnK) : Sp := fun vs H Q _ => ∃ (a b : Addr) (F : Hp) (k : Fk) (es : List D) (ws : List V) (R : D → Fk → Prop), vs = .ref a :: ws ∧ Ex F H ∧ a ≠ b ∧ F a = none ∧ F b = none ∧ FlAt a b H k ∧ Reps F es ws ∧ C k es R ∧
  ∀ v d k' F' H', R d k' → StK a b F H F' H' → FlAt a b H' k' → Rep F' d v → Q v H'
section
variable {K : PySem.W.Frag} {a b : Addr} {Γ Γ' : List En} {k k' : Fk} {te ta tb tc : TE} {tt : TT} {t u : TS} {d x y z : D} {ds es : List D} {R R1 R2 : D → Fk → Prop} {P : PoK} {i : Nat}
theorem ek_p (h : EvP te Γ d) (hR : R d k) : EvK a b te Γ k R := fun c F H σ G Q q => h c F H σ G.g Q fun v F' H' S r => q v d k F' H' hR (G.step S) S.f r
theorem EvK.imp (h : EvK a b te Γ k R1) (q : ∀ d k', R1 d k' → R d k') : EvK a b te Γ k R := fun c F H σ G Q w => h c F H σ G Q fun v d k' F' H' hr => w v d k' F' H' (q d k' hr)
theorem ek_op {r : L2.R2} (ha : EvK a b ta Γ k R1) (hb : ∀ x k', R1 x k' → EvK a b tb Γ k' fun y k'' => ∃ z, RD r x y z ∧ R z k'') : EvK a b (tOp r ta tb) Γ k R := fun c F H σ G Q q =>
  ha c F H σ G _ fun v x k1 F1 H1 hx G1 x1 r1 => hb x k1 hx c F1 H1 σ G1 _ fun w y k2 F2 H2 ⟨z, hz, hR⟩ G2 x2 r2 =>
    hz F2 H2 v w G2.g.fh (r1.mono x2) r2 Q fun u F3 H3 S3 r3 => q u z k2 F3 H3 hR (G2.step S3) (x1.trans (x2.trans S3.f)) r3
/-- a pure argument in front, or behind -/
theorem ek_opP {r : L2.R2} (ha : EvP ta Γ x) (hb : EvK a b tb Γ k fun y k'' => ∃ z, RD r x y z ∧ R z k'') : EvK a b (tOp r ta tb) Γ k R := ek_op (R1 := fun e k' => e = x ∧ k' = k) (ek_p ha ⟨rfl, rfl⟩) fun e k' ⟨h1, h2⟩ => by subst h1 h2; exact hb
theorem ek_opL {r : L2.R2} (ha : EvK a b ta Γ k R1) (hb : ∀ x k', R1 x k' → ∃ y z, EvP tb Γ y ∧ RD r x y z ∧ R z k') : EvK a b (tOp r ta tb) Γ k R := ek_op ha fun x k' h => by
  obtain ⟨y, z, h1, h2, h3⟩ := hb x k' h
  exact ek_p h1 ⟨z, h2, h3⟩
theorem ek_call {C : CnK} {ta : TA} (hi : Γ[i]? = some (.sh (.ref a))) (ha : EaP ta Γ es) (hc : C k es R) : EvK a b (tCall (spK C) [] E0 (tCons (tVar i) ta)) Γ k R := fun c F H σ G Q q => by
  obtain ⟨v0, e0, r0⟩ := G.g.sh hi
  have r0' : v0 = .ref a := r0
  subst r0'
  refine ⟨_, e0, ha c F H σ G.g _ fun vs F1 H1 S1 r1 => ?_⟩
  show spK C ((.ref a :: vs) ++ []) H1 Q E0
  rw [List.append_nil]
  have G1 := G.step S1
  exact ⟨a, b, F1, k, es, vs, R, rfl, S1.fh, G.ne, G1.fa, G1.fb, G1.at_, r1, hc, fun v d k' F' H' hr S h r => q v d k' F' H' hr (G1.call S h) (S1.f.trans S.f) r⟩
/-- the argument of a call that is lent the flask may itself turn it -/
theorem ek_callW {C : CnK} (hi : Γ[i]? = some (.sh (.ref a))) (ha : EvK a b ta Γ k R1) (hc : ∀ x k', R1 x k' → C k' [x] R) : EvK a b (tCall (spK C) [] E0 (tCons (tVar i) (tCons ta tNil))) Γ k R := fun c F H σ G Q q => by
  obtain ⟨v0, e0, r0⟩ := G.g.sh hi
  have r0' : v0 = .ref a := r0
  subst r0'
  refine ⟨_, e0, ha c F H σ G _ fun v x k1 F1 H1 hx G1 x1 r1 => ?_⟩
  show spK C ((.ref a :: [v]) ++ []) H1 Q E0
  rw [List.append_nil]
  exact ⟨a, b, F1, k1, [x], [v], R, rfl, G1.g.fh, G1.ne, G1.fa, G1.fb, G1.at_, .one r1, hc x k1 hx, fun v d k' F' H' hr S h r => q v d k' F' H' hr (G1.call S h) (x1.trans S.f) r⟩
/-- arguments one behind another, all may turn the flask -/
def EaK (a b : Addr) (ta : TA) (Γ : List En) (k : Fk) (R : List D → Fk → Prop) : Prop := ∀ c F H σ, GK a b c F H σ Γ k → ∀ Q : List V → Hp → Prop, (∀ vs ds k' F' H', R ds k' → GK a b c F' H' σ Γ k' → Ex F F' → Reps F' ds vs → Q vs H') → ta σ H Q
theorem eak_nil {R : List D → Fk → Prop} (h : R [] k) : EaK a b tNil Γ k R := fun c F H σ G Q q => q [] [] k F H h G (Ex.refl F) rfl
theorem eak_cons {ta : TE} {tr : TA} {R : List D → Fk → Prop} (ha : EvK a b ta Γ k R1) (hr : ∀ x k', R1 x k' → EaK a b tr Γ k' fun ds k'' => R (x :: ds) k'') : EaK a b (tCons ta tr) Γ k R := fun c F H σ G Q q =>
  ha c F H σ G _ fun v x k1 F1 H1 hx G1 x1 r1 => hr x k1 hx c F1 H1 σ G1 _ fun vs ds k2 F2 H2 hR G2 x2 r2 => q (v :: vs) (x :: ds) k2 F2 H2 hR G2 (x1.trans x2) ⟨v, vs, rfl, r1.mono x2, r2⟩
theorem ek_tup {ta : TA} {R' : List D → Fk → Prop} (h : EaK a b ta Γ k R') (hR : ∀ ds k', R' ds k' → ds.length ≤ sizeLine ∧ R (.tup ds) k') : EvK a b (tTup ta) Γ k R := fun c F H σ G Q q => h c F H σ G _ fun vs ds k1 F1 H1 hr G1 x1 r1 => by
  obtain ⟨hl, hR'⟩ := hR ds k1 hr
  refine ⟨by rw [r1.length]; exact hl, fun p hp => ?_⟩
  have S := Stp.new G1.g.fh (.tup vs) hp
  exact q (.ref p) _ k1 _ _ hR' (G1.step S) (x1.trans S.f) ⟨p, vs, rfl, upd_same, r1.mono S.f⟩
/-- a call of a pure def, the argument turns the flask -/
theorem ek_callA1 {C : Cn} (ha : EvK a b ta Γ k R1) (hc : ∀ x k', R1 x k' → ∃ R'', C [.sh x] R'' ∧ ∀ e G, R'' e G → R e k') : EvK a b (tCall (spE C) [] E0 (tCons ta tNil)) Γ k R := fun c F H σ G Q q =>
  ha c F H σ G _ fun v x k1 F1 H1 hx G1 x1 r1 => by
    obtain ⟨R'', hC, hR⟩ := hc x k1 hx
    show spE C ([v] ++ []) H1 Q E0
    rw [List.append_nil]
    refine ⟨_, F1, [.sh x], R'', good_args (es := [x]) G1.g.fh (.one r1), argOk_sh [x], hC, fun w e G' F' H' hr Gz x' r => ?_⟩
    have S2 : Stp F1 H1 F' H' := ⟨x', fun p o z => Gz.hh p o z (fun ⟨_, z⟩ => by cases z), Gz.fh, Gz.nw⟩
    exact q w e k1 F' H' (hR e G' hr) (G1.step S2) (x1.trans S2.f) r
/-! ### statements -/
theorem SK.seq {M : List En → Fk → Prop} (h1 : SK a b t Γ k ⟨M, P.rt⟩) (h2 : ∀ Γ' k', M Γ' k' → SK a b u Γ' k' P) : SK a b (tSeq t u) Γ k P := fun c F H σ G E e1 e2 =>
  h1 c F H σ G _ (fun Γ' k' F' H' σ' m G' x => h2 Γ' k' m c F' H' σ' G' E (fun Γ2 k2 F2 H2 σ2 n G2 x2 => e1 Γ2 k2 F2 H2 σ2 n G2 (x.trans x2)) fun v d Γ2 k2 F2 H2 σ2 n G2 x2 r => e2 v d Γ2 k2 F2 H2 σ2 n G2 (x.trans x2) r) e2
theorem sk_asg {j : Nat} (h : EvK a b te Γ k R) (hn : ∀ d k', R d k' → P.nx (Γ.set j (.sh d)) k') : SK a b (tAsg te (gName j)) Γ k P := fun c F H σ G E e1 e2 => h c F H σ G _ fun v d k' F' H' hr G' x r => e1 _ k' F' H' _ (hn d k' hr) (G'.setSh r) x
theorem qk_asg {j : Nat} (h : EvK a b te Γ k R) (hn : ∀ d k', R d k' → SK a b u (Γ.set j (.sh d)) k' P) : SK a b (tSeq (tAsg te (gName j)) u) Γ k P :=
  SK.seq (M := fun Γ' k' => ∃ d, R d k' ∧ Γ' = Γ.set j (.sh d)) (sk_asg h fun d k' hr => ⟨d, hr, rfl⟩) fun Γ' k' ⟨d, hr, e⟩ => by subst e; exact hn d k' hr
theorem sk_ret (h : EvK a b te Γ k R) (hr : ∀ d k', R d k' → P.rt d Γ k') : SK a b (tRet te) Γ k P := fun c F H σ G E e1 e2 => h c F H σ G _ fun v d k' F' H' hR G' x r => e2 v d Γ k' F' H' σ (hr d k' hR) G' x r
theorem sk_next (h : P.nx Γ k) : SK a b tNext Γ k P := fun c F H σ G E e1 e2 => e1 Γ k F H σ h G (Ex.refl F)
theorem sk_if {v : Bool} (h : EtP tt Γ v) (h1 : v = true → SK a b t Γ k P) (h2 : v = false → SK a b u Γ k P) : SK a b (tIfS tt t u) Γ k P := fun c F H σ G E e1 e2 => h c F H σ G.g _ fun F1 H1 S => by
  have w : ∀ {s : TS}, SK a b s Γ k P → s E σ H1 := fun hs => hs c F1 H1 σ (G.step S) E (fun Γ2 k2 F2 H2 σ2 n G2 x2 => e1 Γ2 k2 F2 H2 σ2 n G2 (S.f.trans x2)) fun v d Γ2 k2 F2 H2 σ2 n G2 x2 r => e2 v d Γ2 k2 F2 H2 σ2 n G2 (S.f.trans x2) r
  cases v with
  | true => rw [if_pos rfl]; exact w (h1 rfl)
  | false => rw [if_neg Bool.false_ne_true]; exact w (h2 rfl)
def EtK (a b : Addr) (tt : TT) (Γ : List En) (k : Fk) (R : Bool → Fk → Prop) : Prop := ∀ c F H σ, GK a b c F H σ Γ k → ∀ Q : Bool → Hp → Prop, (∀ v k' F' H', R v k' → GK a b c F' H' σ Γ k' → Ex F F' → Q v H') → tt σ H Q
theorem etk_p {v : Bool} {R : Bool → Fk → Prop} (h : EtP tt Γ v) (hr : R v k) : EtK a b tt Γ k R := fun c F H σ G Q q => h c F H σ G.g Q fun F' H' S => q v k F' H' hr (G.step S) S.f
theorem etk_test {R : Bool → Fk → Prop} (h : EvK a b te Γ k R1) (hr : ∀ d k', R1 d k' → ∃ v, d = .bl v ∧ R v k') : EtK a b (tTest te) Γ k R := fun c F H σ G Q q => h c F H σ G _ fun w d k' F' H' hd G' x r => by
  obtain ⟨v, rfl, hv⟩ := hr d k' hd
  exact ⟨v, r, q v k' F' H' hv G' x⟩
theorem etk_B {R : Bool → Fk → Prop} (h : EvK a b te Γ k R1) (hr : ∀ d k', R1 d k' → ∃ v, d = .bl v ∧ R v k') : EtK a b (tB te) Γ k R := fun c F H σ G Q q => h c F H σ G _ fun w d k' F' H' hd G' x r => by
  obtain ⟨v, rfl, hv⟩ := hr d k' hd
  exact ⟨v, r, q v k' F' H' hv G' x⟩
theorem etk_not {R R' : Bool → Fk → Prop} (h : EtK a b tt Γ k R') (hr : ∀ v k', R' v k' → R (!v) k') : EtK a b (tNot tt) Γ k R := fun c F H σ G Q q => h c F H σ G _ fun v k' F' H' hv G' x => q _ k' F' H' (hr v k' hv) G' x
theorem etk_and {tu : TT} {R R' : Bool → Fk → Prop} (h1 : EtK a b tt Γ k R') (hf : ∀ k', R' false k' → R false k') (ht : ∀ k', R' true k' → EtK a b tu Γ k' R) : EtK a b (tAnd tt tu) Γ k R := fun c F H σ G Q q => h1 c F H σ G _ fun v k' F' H' hv G' x => by
  cases v with
  | true => rw [if_pos rfl]; exact ht k' hv c F' H' σ G' Q fun w k2 F2 H2 hw G2 x2 => q w k2 F2 H2 hw G2 (x.trans x2)
  | false => rw [if_neg Bool.false_ne_true]; exact q false k' F' H' (hf k' hv) G' x
theorem sk_ifK {R : Bool → Fk → Prop} (h : EtK a b tt Γ k R) (h1 : ∀ k', R true k' → SK a b t Γ k' P) (h2 : ∀ k', R false k' → SK a b u Γ k' P) : SK a b (tIfS tt t u) Γ k P := fun c F H σ G E e1 e2 => h c F H σ G _ fun v k1 F1 H1 hv G1 x1 => by
  have w : ∀ {s : TS}, SK a b s Γ k1 P → s E σ H1 := fun hs => hs c F1 H1 σ G1 E (fun Γ2 k2 F2 H2 σ2 n G2 x2 => e1 Γ2 k2 F2 H2 σ2 n G2 (x1.trans x2)) fun v d Γ2 k2 F2 H2 σ2 n G2 x2 r => e2 v d Γ2 k2 F2 H2 σ2 n G2 (x1.trans x2) r
  cases v with
  | true => rw [if_pos rfl]; exact w (h1 k1 hv)
  | false => rw [if_neg Bool.false_ne_true]; exact w (h2 k1 hv)
theorem SK.imp {P' : PoK} (h : SK a b t Γ k P) (h1 : ∀ G k, P.nx G k → P'.nx G k) (h2 : ∀ d G k, P.rt d G k → P'.rt d G k) : SK a b t Γ k P' := fun c F H σ G E e1 e2 => h c F H σ G E (fun Γ' k' F' H' σ' n => e1 Γ' k' F' H' σ' (h1 _ _ n)) fun v d Γ' k' F' H' σ' n => e2 v d Γ' k' F' H' σ' (h2 _ _ _ n)
theorem sk_guard {v : Bool} (h : EtP tt Γ v) (h1 : v = true → SK a b t Γ k ⟨fun _ _ => False, P.rt⟩) (h2 : v = false → SK a b u Γ k P) : SK a b (tSeq (tIfS tt t tNext) u) Γ k P :=
  SK.seq (M := fun Γ' k' => v = false ∧ Γ' = Γ ∧ k' = k) (sk_if h (fun z => (h1 z).imp (fun _ _ z => z.elim) fun _ _ _ z => z) fun z => sk_next ⟨z, rfl, rfl⟩) fun Γ' k' ⟨e1, e2, e3⟩ => by subst e2 e3; exact h2 e1
theorem sk_guardK {R : Bool → Fk → Prop} (h : EtK a b tt Γ k R) (h1 : ∀ k', R true k' → SK a b t Γ k' ⟨fun _ _ => False, P.rt⟩) (h2 : ∀ k', R false k' → SK a b u Γ k' P) : SK a b (tSeq (tIfS tt t tNext) u) Γ k P :=
  SK.seq (M := fun Γ' k' => R false k' ∧ Γ' = Γ) (sk_ifK h (fun k' z => (h1 k' z).imp (fun _ _ z => z.elim) fun _ _ _ z => z) fun k' z => sk_next ⟨z, rfl⟩) fun Γ' k' ⟨e1, e2⟩ => by subst e2; exact h2 k' e1
theorem sk_while (I : Nat → Fk → Prop) (m0 : Nat) (h0 : I m0 k) (hs : ∀ m k', I m k' → ∃ R, EtK a b tt Γ k' R ∧ (∀ k2, R true k2 → SK a b t Γ k2 ⟨fun Γ' k3 => Γ' = Γ ∧ ∃ m', m' < m ∧ I m' k3, P.rt⟩) ∧ (∀ k2, R false k2 → P.nx Γ k2)) :
    SK a b (tWhile tt t) Γ k P := fun c F H σ G E e1 e2 => by
  refine ⟨fun m σ' H' => ∃ k' F', I m k' ∧ GK a b c F' H' σ' Γ k' ∧ Ex F F', ⟨m0, k, F, h0, G, Ex.refl _⟩, ?_⟩
  rintro m σ1 H1 ⟨ki, F1, p, G1, x1⟩
  obtain ⟨R, ht, h1, h2⟩ := hs m ki p
  refine ht c F1 H1 σ1 G1 _ fun v k2 F2 H2 hv G2 x2 => ?_
  cases v with
  | true =>
    rw [if_pos rfl]
    refine ⟨fun σ' H' => ∃ k' F', (∃ m', m' < m ∧ I m' k') ∧ GK a b c F' H' σ' Γ k' ∧ Ex F F', fun σ' H' ⟨k', F', ⟨m', hm, q⟩, G', x⟩ => ⟨m', hm, k', F', q, G', x⟩, ?_⟩
    exact h1 k2 hv c F2 H2 σ1 G2 _ (fun Γ'' k3 F' H' σ' ⟨e, q⟩ G' x => by subst e; exact ⟨k3, F', q, G', (x1.trans x2).trans x⟩) (fun v d Γ'' k3 F' H' σ' q G' x r => e2 v d Γ'' k3 F' H' σ' q G' ((x1.trans x2).trans x) r)
  | false =>
    rw [if_neg Bool.false_ne_true]
    exact e1 Γ k2 F2 H2 σ1 (h2 k2 hv) G2 (x1.trans x2)
/-- what is walked is the list ds -/
theorem sk_for {wi : TI} {g : TG} (I : Nat → List En → Fk → Prop) (h : WiP wi Γ ds) (h0 : I 0 Γ k) (hg : ∀ i d Γi ki v F H σ c, ds[i]? = some d → I i Γi ki → GK a b c F H σ Γi ki → Rep F d v → ∀ Q : L2.St → Hp → Prop, (∀ σ' Γ', GK a b c F H σ' Γ' ki → SK a b t Γ' ki ⟨I (i + 1), P.rt⟩ → Q σ' H) → g v σ H Q) (hd : ∀ Γ' k', I ds.length Γ' k' → P.nx Γ' k') :
    SK a b (tFor wi g t) Γ k P := fun c F H σ G E e1 e2 => h c F H σ G.g _ fun J F1 H1 Gd Y S w hG hY => by
  refine for_it w (fun i σ' H' => ∃ Γi ki F', I i Γi ki ∧ GK a b c F' H' σ' Γi ki ∧ Ex F1 F') ⟨Γ, k, F1, h0, G.step S, Ex.refl _⟩ (fun i σ' H' _ ⟨_, _, _, _, G', x⟩ => hG _ (x.trans G'.g.fh)) ?_ ?_
  · rintro i v σ1 H2 H3 hi ⟨Γi, ki, F2, p, G2, x2⟩ y
    obtain ⟨F3, d, hd', S3, r3⟩ := hY i H2 v H3 F2 hi x2 G2.g.fh y
    refine hg i d Γi ki v F3 H3 σ1 c hd' p (G2.step S3) r3 _ fun σ2 Γ' G3 hb => ?_
    exact hb c F3 H3 σ2 G3 _ (fun Γ'' k3 F' H' σ' q G' x => ⟨Γ'', k3, F', q, G', (x2.trans S3.f).trans x⟩) (fun v d Γ'' k3 F' H' σ' q G' x r => e2 v d Γ'' k3 F' H' σ' q G' ((S.f.trans (x2.trans S3.f)).trans x) r)
  · rintro σ1 H2 ⟨Γi, ki, F2, p, G2, x2⟩
    exact e1 Γi ki F2 H2 σ1 (hd _ _ p) G2 (S.f.trans x2)
/-- the loop's name is slot j -/
theorem sk_forN {wi : TI} {j : Nat} (I : Nat → List En → Fk → Prop) (h : WiP wi Γ ds) (h0 : I 0 Γ k) (hs : ∀ i d Γi ki, ds[i]? = some d → I i Γi ki → SK a b t (Γi.set j (.sh d)) ki ⟨I (i + 1), P.rt⟩) (hd : ∀ Γ' k', I ds.length Γ' k' → P.nx Γ' k') :
    SK a b (tFor wi (gName j) t) Γ k P := sk_for I h h0 (fun i d Γi ki v F H σ c hdi p G r Q q => q _ _ (G.setSh r) (hs i d Γi ki hdi p)) hd
/-! ### the flask itself: x[0], x[1], x[2] -/
theorem ixN0 {n : V} {l : List V} : ixN (n :: l).length 0 = some 0 := by
  unfold ixN
  simp [List.length_cons]
/-- x[0] -/
theorem ek_cell (hi : Γ[i]? = some (.sh (.ref a))) (hR : R (.ref b) k) : EvK a b (tOp (rIxL K) (tVar i) (tC (.int 0))) Γ k R := fun c F H σ G Q q => by
  obtain ⟨v0, e0, r0⟩ := G.g.sh hi
  have r0' : v0 = .ref a := r0
  subst r0'
  exact ⟨_, e0, a, _, 0, .ref b, rfl, rfl, SqL.of G.at_.1, rfl, q (.ref b) (.ref b) k F H hR G (Ex.refl F) rfl⟩
theorem ek_x (hi : Γ[i]? = some (.sh (.ref a))) (hR : R (.int k.x) k) : EvK a b (tOp (rIxL K) (tVar i) (tC (.int 1))) Γ k R := fun c F H σ G Q q => by
  obtain ⟨v0, e0, r0⟩ := G.g.sh hi
  have r0' : v0 = .ref a := r0
  subst r0'
  exact ⟨_, e0, a, _, 1, .int k.x, rfl, rfl, SqL.of G.at_.1, rfl, q (.int k.x) (.int k.x) k F H hR G (Ex.refl F) rfl⟩
theorem ek_y (hi : Γ[i]? = some (.sh (.ref a))) (hR : R (.int k.y) k) : EvK a b (tOp (rIxL K) (tVar i) (tC (.int 2))) Γ k R := fun c F H σ G Q q => by
  obtain ⟨v0, e0, r0⟩ := G.g.sh hi
  have r0' : v0 = .ref a := r0
  subst r0'
  exact ⟨_, e0, a, _, 2, .int k.y, rfl, rfl, SqL.of G.at_.1, rfl, q (.int k.y) (.int k.y) k F H hR G (Ex.refl F) rfl⟩
/-- x[0][0] -/
theorem ek_c0 {n : Int} {cs : List Int} (hi : Γ[i]? = some (.sh (.ref a))) (hc : k.cs = n :: cs) (hR : R (.int n) k) : EvK a b (tOp (rIxL K) (tOp (rIxL K) (tVar i) (tC (.int 0))) (tC (.int 0))) Γ k R := fun c F H σ G Q q =>
  ek_cell (R := fun d k' => d = .ref b ∧ k' = k) hi ⟨rfl, rfl⟩ c F H σ G _ fun v d k' F' H' ⟨h1, h2⟩ G' x r => by
    subst h1 h2
    have r' : v = .ref b := r
    subst r'
    have hb := G'.at_.2
    rw [hc] at hb
    exact ⟨b, _, 0, .int n, rfl, rfl, SqL.of hb, atI_nat (j := 0) rfl, q (.int n) (.int n) k' F' H' hR G' x rfl⟩
/-- x[0] != [] -/
theorem ek_some (hi : Γ[i]? = some (.sh (.ref a))) (hR : R (.bl (decide (k.cs ≠ []))) k) : EvK a b (tOp (rNeD K) (tOp (rIxL K) (tVar i) (tC (.int 0))) (tLst tNil)) Γ k R := fun c F H σ G Q q =>
  ek_cell (R := fun d k' => d = .ref b ∧ k' = k) hi ⟨rfl, rfl⟩ c F H σ G _ fun v d k' F' H' ⟨h1, h2⟩ G' x r => by
    subst h1 h2
    have r' : v = .ref b := r
    subst r'
    refine ⟨Nat.zero_le _, fun p hp => ?_⟩
    have S := Stp.loose G'.g.fh (.lst []) hp
    have G2 := G'.step S
    have dpi : ∀ l : List Int, DpAll K (upd H' p (.lst [])) (l.map V.int) (l.map PyData.int) := fun l => by
      induction l with
      | nil => exact .nil
      | cons n l ih => exact .cons (.int n) ih
    have lay : ∀ l : List Int, PyData.canLayAll0 (l.map PyData.int) = true := fun l => by
      induction l with
      | nil => rfl
      | cons n l ih => show (true && PyData.canLayAll0 (l.map PyData.int)) = true; rw [ih]; rfl
    have dep : ∀ l : List Int, PyData.depthAll (l.map PyData.int) = 0 := fun l => by
      induction l with
      | nil => rfl
      | cons n l ih => show max 0 (PyData.depthAll (l.map PyData.int)) = 0; rw [ih]; rfl
    refine ⟨.list (k'.cs.map .int), .list [], .lst (.inl (.inl G2.at_.2)) (dpi _), .lst (.inl (.inl upd_same)) .nil, ?_, by rfl, ?_⟩
    · unfold SeqAt.shaped
      have e1 : PyData.canLay0 (.list (k'.cs.map PyData.int)) = true := lay _
      have e2 : PyData.depth (.list (k'.cs.map PyData.int)) = 1 := by show PyData.depthAll (k'.cs.map PyData.int) + 1 = 1; rw [dep]
      rw [e1, e2]; rfl
    · have e : (!PyData.eqv (.list (k'.cs.map .int)) (.list [])) = decide (k'.cs ≠ []) := by
        cases k'.cs with
        | nil => rfl
        | cons n l => rfl
      rw [e]
      exact q _ _ k' F' _ hR G2 x rfl
/-- x[0].pop(0) -/
theorem sk_pop {n : Int} {cs : List Int} (hi : Γ[i]? = some (.sh (.ref a))) (hc : k.cs = n :: cs) (hn : P.nx Γ ⟨cs, k.x, k.y⟩) : SK a b (tDrop (tBM K "list" rPopAt (tOp (rIxL K) (tVar i) (tC (.int 0))) (tCons (tC (.int 0)) tNil))) Γ k P := fun c F H σ G E e1 e2 =>
  ek_cell (R := fun d k' => d = .ref b ∧ k' = k) hi ⟨rfl, rfl⟩ c F H σ G _ fun v d k' F' H' ⟨h1, h2⟩ G' x r => by
    subst h1 h2
    have r' : v = .ref b := r
    subst r'
    have hb := G'.at_.2
    rw [hc, List.map_cons] at hb
    refine .inl ⟨rfl, _, SqL.of hb⟩ |> fun z => ⟨z, ?_⟩
    exact ⟨b, _, 0, 0, .int n, rfl, rfl, hb, by decide, by decide, by unfold seqIndex?; simp, rfl, e1 Γ _ F' _ σ hn (G'.updB (cs := cs)) x⟩
/-- x[0][0] = e -/
theorem sk_set0 {n : Int} {cs : List Int} {m : Int} (hi : Γ[i]? = some (.sh (.ref a))) (hv : EvK a b te Γ k fun d k' => d = .int m ∧ k' = k) (hc : k.cs = n :: cs) (hn : P.nx Γ ⟨m :: cs, k.x, k.y⟩) : SK a b (tAsg te (gSub (tOp (rIxL K) (tVar i) (tC (.int 0))) (tC (.int 0)) rSetL)) Γ k P := fun c F H σ G E e1 e2 =>
  hv c F H σ G _ fun v d k' F1 H1 ⟨h1, h2⟩ G1 x1 r1 => by
    subst h1 h2
    refine ek_cell (R := fun d k2 => d = .ref b ∧ k2 = k') hi ⟨rfl, rfl⟩ c F1 H1 σ G1 _ fun w d k2 F2 H2 ⟨h3, h4⟩ G2 x2 r2 => ?_
    subst h3 h4
    have r' : w = .ref b := r2
    subst r'
    have hb := G2.at_.2
    rw [hc, List.map_cons] at hb
    have rv : v = .int m := r1
    subst rv
    exact ⟨b, _, 0, 0, rfl, rfl, hb, ixN0, e1 Γ _ F2 _ σ hn (G2.updB (cs := m :: cs)) (x1.trans x2)⟩
/-- x[1] = e, x[2] = e -/
theorem sk_setX {m : Int} (hi : Γ[i]? = some (.sh (.ref a))) (hv : EvK a b te Γ k fun d k' => d = .int m ∧ k' = k) (hn : P.nx Γ ⟨k.cs, m, k.y⟩) : SK a b (tAsg te (gSub (tVar i) (tC (.int 1)) rSetL)) Γ k P := fun c F H σ G E e1 e2 =>
  hv c F H σ G _ fun v d k' F1 H1 ⟨h1, h2⟩ G1 x1 r1 => by
    subst h1 h2
    obtain ⟨v0, e0, r0⟩ := G1.g.sh hi
    have r0' : v0 = .ref a := r0
    subst r0'
    have rv : v = .int m := r1
    subst rv
    exact ⟨_, e0, a, _, 1, 1, rfl, rfl, G1.at_.1, rfl, e1 Γ _ F1 _ σ hn (G1.updA (x := m) (y := k'.y)) x1⟩
theorem sk_setY {m : Int} (hi : Γ[i]? = some (.sh (.ref a))) (hv : EvK a b te Γ k fun d k' => d = .int m ∧ k' = k) (hn : P.nx Γ ⟨k.cs, k.x, m⟩) : SK a b (tAsg te (gSub (tVar i) (tC (.int 2)) rSetL)) Γ k P := fun c F H σ G E e1 e2 =>
  hv c F H σ G _ fun v d k' F1 H1 ⟨h1, h2⟩ G1 x1 r1 => by
    subst h1 h2
    obtain ⟨v0, e0, r0⟩ := G1.g.sh hi
    have r0' : v0 = .ref a := r0
    subst r0'
    have rv : v = .int m := r1
    subst rv
    exact ⟨_, e0, a, _, 2, 2, rfl, rfl, G1.at_.1, rfl, e1 Γ _ F1 _ σ hn (G1.updA (x := k'.x) (y := m)) x1⟩
theorem ek_someB (hi : Γ[i]? = some (.sh (.ref a))) : EvK a b (tOp (rNeD K) (tOp (rIxL K) (tVar i) (tC (.int 0))) (tLst tNil)) Γ k fun d k2 => d = .bl (decide (k.cs ≠ [])) ∧ k2 = k := ek_some hi ⟨rfl, rfl⟩
/-- an int, the flask as it stands -/
def EkI (a b : Addr) (te : TE) (Γ : List En) (k : Fk) (v : Int) : Prop := EvK a b te Γ k fun d k' => d = .int v ∧ k' = k
theorem eki_p {v : Int} (h : EvP te Γ (.int v)) : EkI a b te Γ k v := ek_p h ⟨rfl, rfl⟩
theorem eki_x (hi : Γ[i]? = some (.sh (.ref a))) : EkI a b (tOp (rIxL K) (tVar i) (tC (.int 1))) Γ k k.x := ek_x hi ⟨rfl, rfl⟩
theorem eki_y (hi : Γ[i]? = some (.sh (.ref a))) : EkI a b (tOp (rIxL K) (tVar i) (tC (.int 2))) Γ k k.y := ek_y hi ⟨rfl, rfl⟩
theorem eki_c {n : Int} {cs : List Int} (hi : Γ[i]? = some (.sh (.ref a))) (hc : k.cs = n :: cs) : EkI a b (tOp (rIxL K) (tOp (rIxL K) (tVar i) (tC (.int 0))) (tC (.int 0))) Γ k n := ek_c0 hi hc ⟨rfl, rfl⟩
theorem eki_op {r : L2.R2} {u v z : Int} (ha : EkI a b ta Γ k u) (hb : EkI a b tb Γ k v) (hr : RD r (.int u) (.int v) (.int z)) : EkI a b (tOp r ta tb) Γ k z := ek_op ha fun x k' ⟨e1, e2⟩ => by
  subst e1 e2
  exact EvK.imp hb fun y k'' ⟨e3, e4⟩ => by subst e3 e4; exact ⟨_, hr, rfl, rfl⟩
theorem EkI.cast {u v : Int} (h : EkI a b te Γ k u) (e : u = v) : EkI a b te Γ k v := e ▸ h
end
end DL
set_option Elab.async false
set_option linter.all false
set_option maxRecDepth 100000
set_option autoImplicit false
set_option maxHeartbeats 4000000
/-! X7: defs that are lent a flask, or make one. -/
namespace DL
open PySem PySem.Spec PyProof.Rows L2
section
variable {P : Program} {w : World} {K : PySem.W.Frag} {mg : Str → Option Value} {base : Heap} {x qual : Str} {params : Arguments} {body : List Stmt} {scope : Scope} {f : Addr} {fd : FuncData} {N ps : List Str} {k : Nat} {C : CnK}
theorem good_lend {F H : Hp} {es : List D} {vs : List V} {a b : Addr} (x : Ex F H) (r : Reps F es vs) (ha : ∃ o, H a = some o) (hb : ∃ o, H b = some o) : Good ⟨F, H, fun j => if j = 0 then some a else if j = 1 then some b else none⟩ F H (vs.map some) (es.map .sh) := by
  have G := good_args x r
  refine ⟨G.ff, G.fh, fun _ _ e _ => e, fun p ⟨j, e⟩ => ?_, G.nw, G.len, fun i e he => ?_, fun i j p e e' h1 h2 m1 m2 h3 h4 => G.dj i j p e e' h1 h2 m1 m2 h3 h4⟩
  · dsimp only at e
    by_cases z : j = 0
    · rw [if_pos z] at e; cases e; exact ha
    · rw [if_neg z] at e
      by_cases y : j = 1
      · rw [if_pos y] at e; cases e; exact hb
      · rw [if_neg y] at e; cases e
  · obtain ⟨d, v, rfl, h1, h2⟩ := reps_slots r i e he
    exact ⟨_, h1, v, rfl, h2⟩
theorem sh_nm {es : List D} {n : Nat} : ∀ (j : Nat) (e : En), (es.map En.sh ++ List.replicate n .un)[j]? = some e → e.mut = false := fun j e he => by
  have m := List.mem_of_getElem? he
  rcases List.mem_append.mp m with m | m
  · obtain ⟨d, _, rfl⟩ := List.mem_map.mp m; rfl
  · rw [(List.mem_replicate.mp m).2]; rfl
/-- THE RULE for a def that is lent a flask -/
theorem fn_okK (F : FunD K x qual params body scope [] [] f fd) (S : FnScope N ps scope) (hlen : ∀ k es R, C k es R → es.length + 1 = ps.length)
    (hb : ∀ (cdv : Value) (A : Around) (out : List Env) (s : Shared) (H : Hp) (E : XK), Room k (A.deeper (envOfC qual scope s.heap.objs.size f cdv)) →
      ∃ t, PSs (cxOf CX0 P w K mg base N qual scope f cdv A out s H E).nox body t ∧
        ∀ a b k es R, C k es R → SK a b t ((.ref a :: es).map En.sh ++ List.replicate (N.length - ps.length) .un) k ⟨fun _ k' => R .non k', fun d _ k' => R d k'⟩) :
    FnOk P w K mg base CX0 (k + 1) f fd ps (spK C) := by
  have ln : ∀ vs H Q E, spK C vs H Q E → vs.length = ps.length := fun vs H Q E ⟨a, b, F, k, es, ws, R, e, _, _, _, _, _, rs, hC, _⟩ => by rw [e, List.length_cons, rs.length]; exact hlen _ _ _ hC
  refine F.ok S ln fun cdv A out s H vs Q E hr h => ?_
  obtain ⟨t, h1, h2⟩ := hb cdv A out s H E hr
  refine ⟨_, PSs.nox h1, ?_⟩
  have lv := ln vs H Q E h
  obtain ⟨a, b, F0, k0, es, ws, R, rfl, x0, ne, fa, fb, hat, rs, hC, q⟩ := h
  have Gd := (good_lend (es := .ref a :: es) (vs := .ref a :: ws) (a := a) (b := b) x0 ⟨_, _, rfl, rfl, rs⟩ ⟨_, hat.1⟩ ⟨_, hat.2⟩).start (N.length - ps.length)
  have G : GK a b _ F0 H _ _ k0 := ⟨Gd, noS_of sh_nm, noS_of sh_nm, fa, fb, ne, .inl ⟨0, rfl⟩, .inl ⟨1, rfl⟩, hat⟩
  have fin : ∀ {k' F' H' σ' Γ'}, GK a b ⟨F0, H, fun j => if j = 0 then some a else if j = 1 then some b else none⟩ F' H' σ' Γ' k' → Ex F0 F' → StK a b F0 H F' H' := fun {k' F' H' σ' Γ'} G' x' => by
    refine ⟨x', G'.g.fh, fun p o n1 n2 e => G'.g.hh p o e fun ⟨j, z⟩ => ?_, G'.fa, G'.fb, G'.g.nw⟩
    dsimp only at z
    by_cases z0 : j = 0
    · rw [if_pos z0] at z; cases z; exact n1 rfl
    · rw [if_neg z0] at z
      by_cases z1 : j = 1
      · rw [if_pos z1] at z; cases z; exact n2 rfl
      · rw [if_neg z1] at z; cases z
  show t _ ((V.ref a :: ws).map some ++ List.replicate (N.length - (V.ref a :: ws).length) none) H
  rw [lv]
  exact h2 a b k0 es R hC _ F0 H _ G _ (fun Γ' k' F' H' σ' p G' x' => q .non .non k' F' H' p (fin G' x') G'.at_ rfl) fun v d Γ' k' F' H' σ' p G' x' r => q v d k' F' H' p (fin G' x') G'.at_ r
/-! ### made -/
/-- te is a new flask -/
def EvN (te : TE) (Γ : List En) (Rk : Fk → Prop) : Prop := ∀ c F H σ, Good c F H σ Γ → ∀ Q : VK, (∀ a b k F' H', Rk k → Stp F H F' H' → H a = none → H b = none → a ≠ b → F' a = none → F' b = none → FlAt a b H' k → Q (.ref a) H') → te σ H Q
theorem none_back {F H F' H' : Hp} {p : Addr} (S : Stp F H F' H') (h : H' p = none) : H p = none := by
  cases q : H p with
  | none => rfl
  | some o => rw [S.h _ _ q] at h; cases h
theorem en_lst {te t1 t2 : TE} {Γ : List En} {cs : List Int} {m n : Int} {Rk : Fk → Prop} (h : EvF te Γ (cs.map D.int)) (h1 : EvP t1 Γ (.int m)) (h2 : EvP t2 Γ (.int n)) (hk : Rk ⟨cs, m, n⟩) : EvN (tLst (tCons te (tCons t1 (tCons t2 tNil)))) Γ Rk := fun c F H σ G Q q =>
  h c F H σ G _ fun b xs F1 H1 S1 n1 f1 e1 r1 => h1 c F1 H1 σ (G.step S1) _ fun v F2 H2 S2 r2 => h2 c F2 H2 σ ((G.step S1).step S2) _ fun u F3 H3 S3 r3 => by
    have ev : v = .int m := r2
    have eu : u = .int n := r3
    subst ev eu
    have ex := r1.ints_eq
    subst ex
    refine ⟨by show 3 ≤ sizeLine; decide, fun p hp => ?_⟩
    have S := (S1.trans S2).trans S3
    have S4 := Stp.loose S3.fh (.lst [.ref b, .int m, .int n]) hp
    have hb : H3 b = some (.lst (cs.map V.int)) := S3.h _ _ (S2.h _ _ e1)
    have ne : p ≠ b := fun z => by subst z; rw [hb] at hp; cases hp
    have fb : F3 b = none := stp_none (S2.trans S3) f1 e1
    have fp : F3 p = none := by
      cases z : F3 p with
      | none => rfl
      | some o => rw [S3.fh _ _ z] at hp; cases hp
    exact q p b ⟨cs, m, n⟩ F3 _ hk (S.trans S4) (none_back S hp) n1 ne fp fb ⟨upd_same, by rw [upd_ne ne.symm]; exact hb⟩
def spN (C : List D → Prop) (Rk : Fk → Prop) : Sp := fun vs H Q _ => ∃ (F : Hp) (es : List D), Ex F H ∧ Reps F es vs ∧ C es ∧ ∀ a b k F' H', Rk k → Stp F H F' H' → H a = none → H b = none → a ≠ b → F' a = none → F' b = none → FlAt a b H' k → Q (.ref a) H'
theorem en_call {C : List D → Prop} {Rk : Fk → Prop} {ta : TA} {Γ : List En} {es : List D} {E : XK} (ha : EaP ta Γ es) (hc : C es) : EvN (tCall (spN C Rk) [] E ta) Γ Rk := fun c F H σ G Q q => ha c F H σ G _ fun vs F1 H1 S1 r1 => by
  show spN C Rk (vs ++ []) H1 Q E
  rw [List.append_nil]
  exact ⟨F1, es, S1.fh, r1, hc, fun a b k F' H' hk S na nb ne fa fb h => q a b k F' H' hk (S1.trans S) (none_back S1 na) (none_back S1 nb) ne fa fb h⟩
theorem fn_okN {C : List D → Prop} {Rk : Fk → Prop} (F : FunD K x qual params body scope [] [] f fd) (S : FnScope N ps scope) (hlen : ∀ es, C es → es.length = ps.length)
    (hb : ∀ (cdv : Value) (A : Around) (out : List Env) (s : Shared) (H : Hp) (E : XK), Room k (A.deeper (envOfC qual scope s.heap.objs.size f cdv)) →
      ∃ t te, PSs (cxOf CX0 P w K mg base N qual scope f cdv A out s H E).nox body (tSeq t (tRet te)) ∧
        ∀ es, C es → ∃ M : List En → Prop, SW t (es.map En.sh ++ List.replicate (N.length - ps.length) .un) ⟨M, fun _ _ => False, fun _ => False, fun _ => False⟩ ∧ ∀ Γ', M Γ' → EvN te Γ' Rk) :
    FnOk P w K mg base CX0 (k + 1) f fd ps (spN C Rk) := by
  have ln : ∀ vs H Q E, spN C Rk vs H Q E → vs.length = ps.length := fun vs H Q E ⟨F, es, x0, rs, hC, q⟩ => by rw [rs.length]; exact hlen _ hC
  refine F.ok S ln fun cdv A out s H vs Q E hr h => ?_
  obtain ⟨t, te, h1, h2⟩ := hb cdv A out s H E hr
  refine ⟨_, PSs.nox h1, ?_⟩
  have lv := ln vs H Q E h
  obtain ⟨F0, es, x0, rs, hC, q⟩ := h
  obtain ⟨M, h3, h4⟩ := h2 es hC
  have G := (good_args x0 rs).start (N.length - ps.length)
  show tSeq t (tRet te) _ (vs.map some ++ List.replicate (N.length - vs.length) none) H
  rw [lv]
  refine h3 _ F0 H _ G _ (fun Γ' F' H' σ' m G' xx => ?_) (fun _ _ _ _ _ _ z => z.elim) (fun _ _ _ _ z => z.elim) (fun _ _ _ _ z => z.elim)
  have S1 : Stp F0 H F' H' := ⟨xx, fun a o e => G'.hh a o e fun ⟨_, z⟩ => (nomatch z), G'.fh, G'.nw⟩
  exact h4 Γ' m _ F' H' σ' G' _ fun a b k F2 H2 hk S2 na nb ne fa fb hat => q a b k F2 H2 hk (S1.trans S2) (none_back S1 na) (none_back S1 nb) ne fa fb hat
end
/-- a flask made, used, and let go -/
theorem sw_flask {te : TE} {Γ : List En} {Rk : Fk → Prop} {j : Nat} {t u : TS} {P : Po} {M : List En → Prop} (nm : ∀ (j : Nat) (e : En), Γ[j]? = some e → e.mut = false) (h : EvN te Γ Rk) (hs : ∀ a b k, Rk k → SK a b t (Γ.set j (.sh (.ref a))) k ⟨fun Γ' _ => M Γ', fun d Γ' _ => P.rt d Γ'⟩) (hu : ∀ Γ', M Γ' → SW u Γ' P) :
    SW (tSeq (tAsg te (gName j)) (tSeq t u)) Γ P := fun c F H σ G D ea eb ee ef => h c F H σ G _ fun a b k F1 H1 hk S1 na nb ne fa fb hat => by
  have G1 : GK a b c F1 H1 (σ.set j (some (.ref a))) (Γ.set j (.sh (.ref a))) k := by
    have G0 : GK a b c F1 H1 σ Γ k := ⟨G.step S1, noS_of nm, noS_of nm, fa, fb, ne, .inr (G.fresh na), .inr (G.fresh nb), hat⟩
    exact G0.setSh rfl
  refine hs a b k hk c F1 H1 _ G1 _ (fun Γ' k' F' H' σ' m G' x => ?_) fun v d Γ' k' F' H' σ' hr G' x r => eb v d Γ' F' H' σ' hr G'.g (S1.f.trans x) r
  exact hu Γ' m c F' H' σ' G'.g _ (fun Γ2 F2 H2 σ2 n G2 x2 => ea Γ2 F2 H2 σ2 n G2 ((S1.f.trans x).trans x2)) (fun v d Γ2 F2 H2 σ2 n G2 x2 r => eb v d Γ2 F2 H2 σ2 n G2 ((S1.f.trans x).trans x2) r) (fun Γ2 F2 H2 σ2 n G2 x2 => ee Γ2 F2 H2 σ2 n G2 ((S1.f.trans x).trans x2)) fun Γ2 F2 H2 σ2 n G2 x2 => ef Γ2 F2 H2 σ2 n G2 ((S1.f.trans x).trans x2)
end DL
set_option Elab.async false
set_option linter.all false
set_option maxRecDepth 100000
set_option autoImplicit false
set_option maxHeartbeats 4000000
/-! X11: defs that give back a list which the caller may change, or raise an own exception with one int. -/
namespace XS
open PySem PySem.Spec PyProof.Rows L2 DL
def spUF (C : CnF) (CX : Addr) (fl : Str) (B : List D → Int → Prop) : Sp := fun vs H Q E => spF C vs H Q E ∨ ∃ (F : Hp) (es : List D) (v : Int), Ex F H ∧ Reps F es vs ∧ B es v ∧ OkX E CX fl v H
/-- t returns such a list -/
def SWL (t : TS) (Γ : List En) (Rl : List D → Prop) : Prop := ∀ c F H σ, Good c F H σ Γ → ∀ D : Ends, (∀ a xs ds Γ' F' H' σ', Rl ds → Good c F' H' σ' Γ' → Ex F F' → F' a = none → c.H0 a = none → H' a = some (.lst xs) → Reps F' ds xs → D.rt (.ref a) H') → t D σ H
section
variable {t u w : TS} {Γ : List En} {te : TE} {tt : TT} {Rl : List D → Prop} {ds : List D}
theorem swl_seq {M : List En → Prop} (h : SW t Γ ⟨M, fun _ _ => False, fun _ => False, fun _ => False⟩) (k : ∀ Γ', M Γ' → SWL u Γ' Rl) : SWL (tSeq t u) Γ Rl := fun c F H σ G D q =>
  h c F H σ G _ (fun Γ' F' H' σ' m G' x => k Γ' m c F' H' σ' G' D fun a xs ds Γ2 F2 H2 σ2 r G2 x2 => q a xs ds Γ2 F2 H2 σ2 r G2 (x.trans x2)) (fun _ _ _ _ _ _ z => z.elim) (fun _ _ _ _ z => z.elim) (fun _ _ _ _ z => z.elim)
theorem swl_ifT (h : EtP tt Γ true) (k : SWL t Γ Rl) : SWL (tSeq (tIfS tt t w) u) Γ Rl := fun c F H σ G D q => h c F H σ G _ fun F1 H1 S => by
  rw [if_pos rfl]
  exact k c F1 H1 σ (G.step S) _ fun a xs ds Γ2 F2 H2 σ2 r G2 x2 => q a xs ds Γ2 F2 H2 σ2 r G2 (S.f.trans x2)
theorem swl_guard (h : EtP tt Γ false) (k : SWL u Γ Rl) : SWL (tSeq (tIfS tt t tNext) u) Γ Rl :=
  swl_seq (M := fun Γ' => Γ' = Γ) (sw_if h (fun z => by cases z) fun _ => sw_next rfl) fun Γ' e => by subst e; exact k
theorem swl_ret (h : EvF te Γ ds) (hr : Rl ds) : SWL (tRet te) Γ Rl := fun c F H σ G D q => h c F H σ G _ fun a xs F1 H1 S n nf e r => q a xs ds Γ F1 H1 σ hr (G.step S) S.f nf (G.fresh n) e r
theorem swl_own {i : Nat} (h : Γ[i]? = some (.own ds)) (hr : Rl ds) : SWL (tRet (tVar i)) Γ Rl := fun c F H σ G D q => by
  obtain ⟨v, h1, h2⟩ := G.en i _ h
  obtain ⟨p, xs, e1, e2, e3, e4⟩ := h2
  subst e1
  exact ⟨_, h1, q p xs ds Γ F H σ hr G (Ex.refl F) e2 e4.2 e3 e4.1⟩
end
section
variable {Γ : List En} {es : List D} {Rl : List D → Prop} {ta : TA} {C : CnF} {CX : Addr} {fl : Str} {B : List D → Int → Prop} {E : XK}
/-- such a call that gives the list back -/
theorem ef_callUF (ha : EaP ta Γ es) (hc : C es Rl) : EvFR (tCall (spUF C CX fl B) [] E ta) Γ Rl := fun c F H σ G Q k => by
  refine ha c F H σ G _ fun vs F1 H1 S1 r1 => ?_
  show spUF C CX fl B (vs ++ []) H1 Q E
  rw [List.append_nil]
  refine .inl ⟨F1, es, Rl, S1.fh, r1, hc, fun a xs ds F' H' r S n f e q => k a xs ds F' H' r (S1.trans S) ?_ f e q⟩
  cases z : H a with
  | none => rfl
  | some o => rw [S1.h _ _ z] at n; cases n
/-- the same by names -/
theorem ef_callKUF {tk : TA} (ha : EaP tk Γ es) (hc : C es.reverse Rl) : EvFR (fun σ H Q => tk σ H fun vs H1 => spUF C CX fl B (gRV [] vs) H1 Q fun _ _ _ => False) Γ Rl := fun c F H σ G Q k => ha c F H σ G _ fun vs F1 H1 S1 r1 => by
  refine .inl ⟨F1, es.reverse, Rl, S1.fh, r1.reverse, hc, fun a xs ds F' H' r S n f e q => k a xs ds F' H' r (S1.trans S) ?_ f e q⟩
  cases z : H a with
  | none => rfl
  | some o => rw [S1.h _ _ z] at n; cases n
theorem EvFR.f {te : TE} {ds : List D} (h : EvFR te Γ Rl) (hr : ∀ es, Rl es → es = ds) : EvF te Γ ds := fun c F H σ G Q k => h c F H σ G Q fun a xs es F' H' r S n f e q => by
  have z := hr es r
  subst z
  exact k a xs F' H' S n f e q
end
section
variable {P : Program} {w : World} {K : PySem.W.Frag} {mg : Str → Option Value} {base : Heap} {x qual : Str} {params : Arguments} {body : List Stmt} {scope : Scope} {f : Addr} {fd : FuncData} {N ps : List Str} {k : Nat} {C : CnF} {CX : Addr} {fl : Str} {B : List D → Int → Prop}
theorem fn_okUF (F : FunD K x qual params body scope [] [] f fd) (S : FnScope N ps scope) (hlen : ∀ es Rl, C es Rl → es.length = ps.length) (hlenB : ∀ es v, B es v → es.length = ps.length)
    (hb : ∀ (cdv : Value) (A : Around) (outer : List Env) (s : Shared) (H : Hp) (E : XK), Room k (A.deeper (envOfC qual scope s.heap.objs.size f cdv)) →
      ∃ t, PSs (cxOf (L2.CX P w) P w K mg base N qual scope f cdv A outer s H E) body t ∧
        (∀ es Rl, C es Rl → SWL t (es.map .sh ++ List.replicate (N.length - ps.length) .un) Rl) ∧
        ∀ es v, B es v → RW E CX fl v t (es.map .sh ++ List.replicate (N.length - ps.length) .un)) :
    FnOk P w K mg base (L2.CX P w) (k + 1) f fd ps (spUF C CX fl B) := by
  have ln : ∀ vs H Q E, spUF C CX fl B vs H Q E → vs.length = ps.length := fun vs H Q E h => by
    rcases h with ⟨F, es, Rl, x0, rs, hC, q⟩ | ⟨F, es, v, x, r, hB, _⟩
    · rw [rs.length]; exact hlen _ _ hC
    · rw [r.length, hlenB _ _ hB]
  refine F.ok S ln fun cdv A outer s H vs Q E hr h => ?_
  obtain ⟨t, h1, h2, h3⟩ := hb cdv A outer s H E hr
  refine ⟨t, h1, ?_⟩
  have lv := ln vs H Q E h
  show t _ (vs.map some ++ List.replicate (N.length - vs.length) none) H
  rw [lv]
  rcases h with ⟨F0, es, Rl, x0, rs, hC, q⟩ | ⟨F0, es, v, x0, rs, hB, o⟩
  · exact h2 es Rl hC _ F0 H _ ((good_args x0 rs).start _) _ fun a xs ds Γ' F' H' σ' r G' xx nf n0 e rr => q a xs ds F' H' r ⟨xx, fun a o e => G'.hh a o e fun ⟨_, z⟩ => (nomatch z), G'.fh, G'.nw⟩ n0 nf e rr
  · exact h3 es v hB _ F0 H _ ((good_args x0 rs).start _) (fun a ⟨_, z⟩ => nomatch z) o _
end
end XS
set_option Elab.async false
set_option linter.all false
set_option maxRecDepth 100000
set_option autoImplicit false
set_option maxHeartbeats 4000000
/-! X12: own lists beside the flask: made, appended to, shared. -/
namespace DL
open PySem PySem.Spec PyProof.Rows L2
section
variable {K : PySem.W.Frag} {a b : Addr} {Γ : List En} {k : Fk} {te ta tb : TE} {t u : TS} {d x : D} {ds : List D} {R : D → Fk → Prop} {P : PoK} {i j : Nat} {σ : L2.St} {p : Addr}
theorem NoSlot.setOwn {q : Addr} (N : NoSlot σ Γ p) (n : q ≠ p) : NoSlot (σ.set i (some (.ref q))) (Γ.set i (.own ds)) p := fun j e he m w => by
  by_cases z : i = j
  · subst z
    rw [List.getElem?_set] at w
    rw [if_pos rfl] at w
    split at w
    · exact n (by injection w with w; injection w with w; injection w)
    · cases w
  · rw [List.getElem?_set_ne z] at he w
    exact N j e he m w
theorem NoSlot.put (N : NoSlot σ Γ p) (h : Γ[i]? = some (.own ds)) (es : List D) : NoSlot σ (DL.pt Γ i es) p := fun j e he m w => by
  unfold DL.pt at he
  by_cases z : i = j
  · subst z; exact N i _ h rfl w
  · rw [List.getElem?_set_ne z] at he
    exact N j e he m w
/-- x = [..] -/
theorem sk_asgF (h : EvF te Γ ds) (hn : P.nx (Γ.set i (.own ds)) k) : SK a b (tAsg te (gName i)) Γ k P := fun c F H σ G E e1 e2 => h c F H σ G.g _ fun p xs F' H' S n nf eq r => by
  have G1 := G.step S
  have na : p ≠ a := fun z => by subst z; rw [G.at_.1] at n; cases n
  have nb : p ≠ b := fun z => by subst z; rw [G.at_.2] at n; cases n
  exact e1 _ k F' H' _ hn ⟨G1.g.setOwn (G.g.noSlot n) nf eq r (G.g.fresh n), NoSlot.setOwn G1.na na, NoSlot.setOwn G1.nb nb, G1.fa, G1.fb, G1.ne, G1.la, G1.lb, G1.at_⟩ S.f
/-- x, y = [..], e -/
theorem sk_parF (hij : i ≠ j) (ha : EvF ta Γ ds) (hb : EvP tb Γ x) (hn : P.nx ((Γ.set i (.own ds)).set j (.sh x)) k) : SK a b (tPar i j (tCons ta (tCons tb tNil))) Γ k P := fun c F H σ G E e1 e2 => ha c F H σ G.g _ fun p xs F1 H1 S n nf eq r => by
  have G1 := G.step S
  refine hb c F1 H1 σ G1.g _ fun v F2 H2 S2 r2 => ⟨_, _, rfl, ?_⟩
  have G2 := G1.step S2
  have na : p ≠ a := fun z => by subst z; rw [G.at_.1] at n; cases n
  have nb : p ≠ b := fun z => by subst z; rw [G.at_.2] at n; cases n
  have f2 : F2 p = none := stp_none S2 nf eq
  have G3 : GK a b c F2 H2 (σ.set i (some (.ref p))) (Γ.set i (.own ds)) k := ⟨G2.g.setOwn (G.g.noSlot n) f2 (S2.h _ _ eq) (r.mono S2.f) (G.g.fresh n), NoSlot.setOwn G2.na na, NoSlot.setOwn G2.nb nb, G2.fa, G2.fb, G2.ne, G2.la, G2.lb, G2.at_⟩
  exact e1 _ k F2 H2 _ hn (G3.setSh r2) (S.f.trans S2.f)
/-- x.append(e), e may turn the flask -/
theorem sk_app (h : Γ[i]? = some (.own ds)) (hv : EvK a b te Γ k R) (hl : ds.length < sizeLine) (hn : ∀ d k', R d k' → P.nx (pt Γ i (ds ++ [d])) k') : SK a b (tDrop (tBM K "list" rAppend (tVar i) (tCons te tNil))) Γ k P := fun c F H σ G E e1 e2 => by
  obtain ⟨p, xs, e', h1, h2, h3, h4, h5, h6⟩ := G.g.mt (.inl h)
  refine ⟨_, h1, .inl ⟨rfl, _, SqL.of h2⟩, hv c F H σ G _ fun v d k' F1 H1 hr G1 x1 r1 => ?_⟩
  obtain ⟨p', xs', e'', k1, k2, k3, k4, k5, k6⟩ := G1.g.mt (.inl h)
  rw [h1] at k1
  cases k1
  have na : p ≠ a := fun z => by subst z; exact G1.na i _ h rfl h1
  have nb : p ≠ b := fun z => by subst z; exact G1.nb i _ h rfl h1
  refine ⟨p, xs', v, rfl, rfl, k2, by rw [k3.length]; exact hl, e1 _ k' F1 _ σ (hn d k' hr) ⟨G1.g.pt (.inl h) h1 (k3.append (.one r1)), NoSlot.put G1.na h _, NoSlot.put G1.nb h _, G1.fa, G1.fb, G1.ne, G1.la, G1.lb, ?_, ?_⟩ x1⟩
  · rw [upd_ne na.symm]; exact G1.at_.1
  · rw [upd_ne nb.symm]; exact G1.at_.2
theorem Good.freezeSlotN {c : Ct} {F H : Hp} (G : Good c F H σ Γ) (h : Γ[i]? = some (.own ds)) : ∃ F', Ex F F' ∧ Good c F' H σ (Γ.set i (.sh (.lst ds))) ∧ ∀ q, F' q ≠ none → F q ≠ none ∨ σ[i]? = some (some (.ref q)) := by
  obtain ⟨a, xs, e1, e2, e3, e4, e5⟩ := G.own h
  have hi : i < Γ.length := (List.getElem?_eq_some_iff.mp h).1
  have G1 : Good c F H (σ.set i (some (.ref a))) (Γ.set i .un) := G.setUn
  have es : σ.set i (some (.ref a)) = σ := by
    apply List.ext_getElem?
    intro j
    by_cases z : i = j
    · subst z; rw [List.getElem?_set_self (by rw [G.len]; exact hi), e1]
    · rw [List.getElem?_set_ne z]
  rw [es] at G1
  have n : NoSlot σ (Γ.set i .un) a := fun j e he m q => by
    by_cases z : i = j
    · subst z
      rw [List.getElem?_set_self hi] at he
      cases he; cases m
    · rw [List.getElem?_set_ne z] at he
      exact z (G.dj i j a _ _ h he rfl m e1 q)
  have G2 := G1.freeze n e2 e3 e5
  have r : Rep (upd F a (.lst xs)) (.lst ds) (.ref a) := ⟨a, xs, rfl, upd_same, e4.mono (Ex.new e2)⟩
  have G3 := G2.setSh (i := i) r
  rw [es, List.set_set] at G3
  refine ⟨_, Ex.new e2, G3, fun q e => ?_⟩
  by_cases z : q = a
  · subst z; exact .inr e1
  · rw [upd_ne z] at e; exact .inl e
/-- an own list is shared from here on -/
theorem sk_frz (h : Γ[i]? = some (.own ds)) (h1 : SK a b t (Γ.set i (.sh (.lst ds))) k P) : SK a b t Γ k P := fun c F H σ G E e1 e2 => by
  obtain ⟨F1, x1, G1, n⟩ := G.g.freezeSlotN h
  have no : ∀ {p : Addr}, NoSlot σ Γ p → F p = none → F1 p = none := fun {p} N f => by
    cases q : F1 p with
    | none => rfl
    | some o =>
      rcases n p (by rw [q]; exact Option.some_ne_none _) with z | z
      · exact absurd f z
      · exact absurd z (N i _ h rfl)
  have ns : ∀ {p : Addr}, NoSlot σ Γ p → NoSlot σ (Γ.set i (.sh (.lst ds))) p := fun {p} N j e he m w => by
    by_cases z : i = j
    · subst z
      rw [List.getElem?_set] at he
      rw [if_pos rfl] at he
      split at he
      · cases he; cases m
      · cases he
    · rw [List.getElem?_set_ne z] at he; exact N j e he m w
  exact h1 c F1 H σ ⟨G1, ns G.na, ns G.nb, no G.na G.fa, no G.nb G.fb, G.ne, G.la, G.lb, G.at_⟩ E (fun Γ' k' F' H' σ' m G' x => e1 Γ' k' F' H' σ' m G' (x1.trans x)) fun v d Γ' k' F' H' σ' m G' x r => e2 v d Γ' k' F' H' σ' m G' (x1.trans x) r
end
end DL
set_option Elab.async false
set_option linter.all false
set_option maxRecDepth 100000
set_option autoImplicit false
set_option maxHeartbeats 4000000
/-! X13: comprehensions whose elements turn the flask. -/
namespace DL
open PySem PySem.Spec PyProof.Rows L2
section
variable {K : PySem.W.Frag} {a b : Addr} {Γ : List En} {k : Fk} {te ta tb : TE} {wi : TI} {g : TG} {d x : D} {ds es : List D} {R : D → Fk → Prop} {Rl : List D → Fk → Prop} {i : Nat} {σ : L2.St} {p : Addr}
/-- as EvK, and what stands elsewhere stays, loose if it was loose -/
def EvKF (a b : Addr) (te : TE) (Γ : List En) (k : Fk) (R : D → Fk → Prop) : Prop := ∀ c F H σ, GK a b c F H σ Γ k → ∀ Q : VK, (∀ v d k' F' H', R d k' → GK a b c F' H' σ Γ k' → Ex F F' → (∀ p o, H p = some o → p ≠ a → p ≠ b → H' p = some o ∧ (F p = none → F' p = none)) → Rep F' d v → Q v H') → te σ H Q
theorem EvKF.toK (h : EvKF a b te Γ k R) : EvK a b te Γ k R := fun c F H σ G Q q => h c F H σ G Q fun v d k' F' H' hr G' x _ r => q v d k' F' H' hr G' x r
theorem ekf_call {C : CnK} {ta : TA} (hi : Γ[i]? = some (.sh (.ref a))) (ha : EaP ta Γ es) (hc : C k es R) : EvKF a b (tCall (spK C) [] E0 (tCons (tVar i) ta)) Γ k R := fun c F H σ G Q q => by
  obtain ⟨v0, e0, r0⟩ := G.g.sh hi
  have r0' : v0 = .ref a := r0
  subst r0'
  refine ⟨_, e0, ha c F H σ G.g _ fun vs F1 H1 S1 r1 => ?_⟩
  show spK C ((.ref a :: vs) ++ []) H1 Q E0
  rw [List.append_nil]
  have G1 := G.step S1
  refine ⟨a, b, F1, k, es, vs, R, rfl, S1.fh, G.ne, G1.fa, G1.fb, G1.at_, r1, hc, fun v d k' F' H' hr S h r => q v d k' F' H' hr (G1.call S h) (S1.f.trans S.f) (fun p o e na nb => ?_) r⟩
  have e1 := S1.h _ _ e
  refine ⟨S.keep p o na nb e1, fun f => ?_⟩
  have f1 := stp_none S1 f e
  cases z : F' p with
  | none => rfl
  | some w =>
    rcases S.nw p (by rw [z]; exact Option.some_ne_none _) with y | y
    · exact absurd f1 y
    · rw [e1] at y; cases y
/-- te is a new list, the flask turned -/
def EvFK (a b : Addr) (te : TE) (Γ : List En) (k : Fk) (Rl : List D → Fk → Prop) : Prop := ∀ c F H σ, GK a b c F H σ Γ k → ∀ Q : VK, (∀ p xs ds k' F' H', Rl ds k' → GK a b c F' H' σ Γ k' → Ex F F' → NoSlot σ Γ p → p ≠ a → p ≠ b → c.H0 p = none → F' p = none → H' p = some (.lst xs) → Reps F' ds xs → Q (.ref p) H') → te σ H Q
theorem NoSlot.wip {vs : List Nat} (N : NoSlot σ Γ p) : NoSlot (wipe σ vs) Γ p := fun j e he m q => by
  rw [wipe_at] at q
  by_cases z : j ∈ vs
  · rw [if_pos z] at q
    cases w : σ[j]? with
    | none => rw [w] at q; cases q
    | some u => rw [w] at q; cases q
  · rw [if_neg z] at q; exact N j e he m q
theorem efk_lc {α : Type} {vs : List Nat} (xs : List α) (f : α → D) (I : Nat → List D → Fk → Prop) (hΓ : wipG Γ vs = Γ) (h : WiP wi Γ (xs.map f)) (hl : ∀ i acc ki, I i acc ki → acc.length < sizeLine) (h0 : I 0 [] k)
    (hs : ∀ i x acc ki, xs[i]? = some x → I i acc ki → ∃ Γ', GtV g (f x) vs Γ Γ' ∧ SetV vs Γ Γ' ∧ wipG Γ' vs = Γ ∧ EvKF a b te Γ' ki fun e k2 => I (i + 1) (acc ++ [e]) k2) :
    EvFK a b (tLc wi g tYes te vs) Γ k fun ds k' => I xs.length ds k' := fun c F H σ G Q k0 => h c F H σ G.g _ fun J F1 H1 Gd Y S w hG hY => by
  intro Dl nD
  have nF1 : F1 Dl = none := by
    cases q : F1 Dl with
    | none => rfl
    | some u => rw [S.fh _ _ q] at nD; cases nD
  rw [List.length_map] at w
  have GS := G.step S
  have G1 : Good c F1 H1 (wipe σ vs) Γ := by
    have := GS.g.wip vs
    rwa [hΓ] at this
  have d0 : c.H0 Dl = none := G1.fresh nD
  have n0 : NoSlot (wipe σ vs) Γ Dl := G1.noSlot nD
  have nn : NoSlot σ Γ Dl := GS.g.noSlot nD
  have na : Dl ≠ a := fun z => by subst z; rw [GS.at_.1] at nD; cases nD
  have nb : Dl ≠ b := fun z => by subst z; rw [GS.at_.2] at nD; cases nD
  have back : ∀ {σ2 : L2.St}, (∀ j, j ∉ vs → σ2[j]? = (wipe σ vs)[j]?) → ∀ j, j ∉ vs → σ2[j]? = σ[j]? := fun {σ2} q j hj => by rw [q j hj, wipe_at, if_neg hj]
  have S0 : Stp F1 H1 F1 (upd H1 Dl (.lst [])) := .loose S.fh _ nD
  have GK1 : GK a b c F1 H1 (wipe σ vs) Γ k := ⟨G1, NoSlot.wip GS.na, NoSlot.wip GS.nb, GS.fa, GS.fb, GS.ne, GS.la, GS.lb, GS.at_⟩
  refine lc_it w (fun i H2 => ∃ F2 acc ds ki, I i ds ki ∧ GK a b c F2 H2 (wipe σ vs) Γ ki ∧ Ex F1 F2 ∧ F2 Dl = none ∧ H2 Dl = some (.lst acc) ∧ Reps F2 ds acc)
    ⟨F1, [], [], k, h0, GK1.step S0, Ex.refl _, nF1, upd_same, rfl⟩ (fun i H2 _ ⟨F2, _, _, _, _, G2, x2, _⟩ => hG _ (x2.trans G2.g.fh)) ?_ ?_
  · rintro i v H2 H3 hi ⟨F2, acc, ds, ki, hI, G2, x2, f2, e2, r2⟩ y
    obtain ⟨F3, d, hd, S3, r3⟩ := hY i H2 v H3 F2 (by rw [List.length_map]; exact hi) x2 G2.g.fh y
    have hx : xs[i]? = some xs[i] := List.getElem?_eq_getElem hi
    have ed : d = f xs[i] := by
      rw [List.getElem?_map, hx] at hd
      exact (Option.some.inj hd).symm
    subst ed
    obtain ⟨Γ', hg, sv, hw, ht⟩ := hs i _ ds ki hx hI
    have G3 := G2.step S3
    have e3 : H3 Dl = some (.lst acc) := S3.h _ _ e2
    have f3 : F3 Dl = none := stp_none S3 f2 e2
    refine hg c F3 H3 _ v G3.g r3 _ fun σ2 G4 q1 q2 => ⟨?_, ?_⟩
    · refine wipe_eq (back q1) ?_
      rw [q2, wipe_length]
    have toS : ∀ {p : Addr}, NoSlot (wipe σ vs) Γ p → NoSlot σ2 Γ' p := fun {p} n j e he m q => by
      obtain ⟨z1, z2⟩ := sv j e he m
      exact n j e z2 m (by rw [← q1 j z1]; exact q)
    show te σ2 H3 _
    have G5 : GK a b c F3 H3 σ2 Γ' ki := ⟨G4, toS G3.na, toS G3.nb, G3.fa, G3.fb, G3.ne, G3.la, G3.lb, G3.at_⟩
    refine ht c F3 H3 σ2 G5 _ fun u e k4 F4 H4 hI4 G6 x4 fr4 r4 => ?_
    obtain ⟨e4, f4'⟩ := fr4 Dl _ e3 na nb
    have f4 := f4' f3
    have G7 : Good c F4 (upd H4 Dl (.lst (acc ++ [u]))) (wipe σ vs) Γ := by
      have := (G6.g.wrL (o := .lst (acc ++ [u])) (toS n0) f4 d0).unw q1 (q2.trans rfl)
      rwa [hw] at this
    refine ⟨acc, e4, ?_, F4, acc ++ [u], ds ++ [e], k4, hI4, ⟨G7, G2.na, G2.nb, G6.fa, G6.fb, G6.ne, G6.la, G6.lb, ?_, ?_⟩, (x2.trans S3.f).trans x4, f4, upd_same, ((r2.mono S3.f).mono x4).append (.one r4)⟩
    · rw [r2.length]; exact hl i ds ki hI
    · rw [upd_ne na.symm]; exact G6.at_.1
    · rw [upd_ne nb.symm]; exact G6.at_.2
  · rintro H2 ⟨F2, acc, ds, ki, hI, G2, x2, f2, e2, r2⟩
    have q1 : ∀ j, j ∉ vs → (wipe σ vs)[j]? = σ[j]? := fun j hj => by rw [wipe_at, if_neg hj]
    have G3 : Good c F2 H2 σ Γ := by
      have := G2.g.unw q1 (wipe_length _ _)
      rwa [hΓ] at this
    exact k0 Dl acc ds ki F2 H2 hI ⟨G3, G.na, G.nb, G2.fa, G2.fb, G2.ne, G2.la, G2.lb, G2.at_⟩ (S.f.trans x2) nn na nb d0 f2 e2 r2
/-- range(e), e turns the flask -/
theorem efk_rng {te0 : TE} {tt : TT} {vs : List Nat} {R1 : D → Fk → Prop} (h : EvK a b te0 Γ k R1) (hs : ∀ d k', R1 d k' → ∃ n : Int, d = .int n ∧ EvFK a b (tLc (iRng1 (tCons (tC (.int n)) tNil)) g tt te vs) Γ k' Rl) : EvFK a b (tLc (iRng1 (tCons te0 tNil)) g tt te vs) Γ k Rl := fun c F H σ G Q q => h c F H σ G _ fun v d k1 F1 H1 hr G1 x1 r => by
  obtain ⟨n, rfl, hf⟩ := hs d k1 hr
  have e1 : v = .int n := r
  subst e1
  exact hf c F1 H1 σ G1 Q fun p xs ds k2 F' H' hr' G' x' n na nb h0 nf e r => q p xs ds k2 F' H' hr' G' (x1.trans x') n na nb h0 nf e r
/-- x = [..] -/
theorem sk_asgFK {P : PoK} (h : EvFK a b te Γ k Rl) (hn : ∀ ds k', Rl ds k' → P.nx (Γ.set i (.own ds)) k') : SK a b (tAsg te (gName i)) Γ k P := fun c F H σ G E e1 e2 => h c F H σ G _ fun p xs ds k' F' H' hr G' x n na nb h0 nf eq r =>
  e1 _ k' F' H' _ (hn ds k' hr) ⟨G'.g.setOwn n nf eq r h0, NoSlot.setOwn G'.na na, NoSlot.setOwn G'.nb nb, G'.fa, G'.fb, G'.ne, G'.la, G'.lb, G'.at_⟩ x
/-- the new list is data -/
theorem ek_ofF (h : EvFK a b te Γ k Rl) (hR : ∀ ds k', Rl ds k' → R (.lst ds) k') : EvK a b te Γ k R := fun c F H σ G Q q => h c F H σ G _ fun p xs ds k' F' H' hr G' x n na nb h0 nf eq r => by
  refine q (.ref p) _ k' (upd F' p (.lst xs)) H' (hR ds k' hr) ⟨G'.g.freeze n nf eq h0, G'.na, G'.nb, ?_, ?_, G'.ne, G'.la, G'.lb, G'.at_⟩ (x.trans (Ex.new nf)) ⟨p, xs, rfl, upd_same, r.mono (Ex.new nf)⟩
  · rw [upd_ne na.symm]; exact G'.fa
  · rw [upd_ne nb.symm]; exact G'.fb
end
end DL
set_option Elab.async false
set_option linter.all false
set_option maxRecDepth 100000
set_option autoImplicit false
set_option maxHeartbeats 4000000
/-! X14: more of the flask: calls with an argument that turns it, pairs, lists with such items. -/
namespace DL
open PySem PySem.Spec PyProof.Rows L2
section
variable {K : PySem.W.Frag} {a b : Addr} {Γ : List En} {k : Fk} {te ta tb : TE} {d x : D} {R R1 : D → Fk → Prop} {P : PoK} {i j : Nat}
theorem ek_callW2 {C : CnK} (hi : Γ[i]? = some (.sh (.ref a))) (ha : EvK a b ta Γ k R1) (hc : ∀ x k', R1 x k' → ∃ R2 : D → Fk → Prop, C k' [x] R2 ∧ ∀ d k2, R2 d k2 → R d k2) : EvK a b (tCall (spK C) [] E0 (tCons (tVar i) (tCons ta tNil))) Γ k R := fun c F H σ G Q q => by
  obtain ⟨v0, e0, r0⟩ := G.g.sh hi
  have r0' : v0 = .ref a := r0
  subst r0'
  refine ⟨_, e0, ha c F H σ G _ fun v x k1 F1 H1 hx G1 x1 r1 => ?_⟩
  show spK C ((.ref a :: [v]) ++ []) H1 Q E0
  rw [List.append_nil]
  obtain ⟨R2, hC, hR⟩ := hc x k1 hx
  exact ⟨a, b, F1, k1, [x], [v], R2, rfl, G1.g.fh, G1.ne, G1.fa, G1.fb, G1.at_, .one r1, hC, fun v d k' F' H' hr S h r => q v d k' F' H' (hR d k' hr) (G1.call S h) (x1.trans S.f) r⟩
/-- [..] as data, the items may turn the flask -/
theorem ek_lst {ta : TA} {R' : List D → Fk → Prop} (h : EaK a b ta Γ k R') (hR : ∀ ds k', R' ds k' → ds.length ≤ sizeLine ∧ R (.lst ds) k') : EvK a b (tLst ta) Γ k R := fun c F H σ G Q q => h c F H σ G _ fun vs ds k1 F1 H1 hr G1 x1 r1 => by
  obtain ⟨hl, hR'⟩ := hR ds k1 hr
  refine ⟨by rw [r1.length]; exact hl, fun p hp => ?_⟩
  have S := Stp.new G1.g.fh (.lst vs) hp
  exact q (.ref p) _ k1 _ _ hR' (G1.step S) (x1.trans S.f) ⟨p, vs, rfl, upd_same, r1.mono S.f⟩
/-- x, y = e, f, both turn the flask -/
theorem sk_parK (ha : EvK a b ta Γ k R1) (hb : ∀ x k', R1 x k' → EvK a b tb Γ k' fun y k2 => P.nx ((Γ.set i (.sh x)).set j (.sh y)) k2) : SK a b (tPar i j (tCons ta (tCons tb tNil))) Γ k P := fun c F H σ G E e1 e2 =>
  ha c F H σ G _ fun v x k1 F1 H1 hx G1 x1 r1 => hb x k1 hx c F1 H1 σ G1 _ fun u y k2 F2 H2 hn G2 x2 r2 => ⟨v, u, rfl, e1 _ k2 F2 H2 _ hn ((G2.setSh (r1.mono x2)).setSh r2) (x1.trans x2)⟩
end
end DL
set_option Elab.async false
set_option linter.all false
set_option maxRecDepth 100000
set_option autoImplicit false
set_option maxHeartbeats 4000000
/-! X15: more of the flask: loops with changing slots, conditional expressions, built-in calls, dicts filled, what is walked may turn the flask; readings of which one serves. -/
namespace DL
open PySem PySem.Spec PyProof.Rows L2
/-- two readings of one statement: the one that serves is chosen by the data -/
def tEitherS (t u : TS) : TS := fun D σ H => t D σ H ∨ u D σ H
theorem ps_either {X : Cx} {s : Stmt} {t u : TS} (h1 : PS X s t) (h2 : PS X s u) : PS X s (tEitherS t u) := ⟨fun pins s σ H D i q => q.elim (h1.run pins s σ H D i) (h2.run pins s σ H D i)⟩
def tEither (t u : TE) : TE := fun σ H Q => t σ H Q ∨ u σ H Q
theorem pe_either {X : Cx} {e : Expr} {t u : TE} (h1 : PE X e t) (h2 : PE X e u) : PE X e (tEither t u) := ⟨fun pins s σ H Q i q => q.elim (h1.run pins s σ H Q i) (h2.run pins s σ H Q i)⟩
section
variable {K : PySem.W.Frag} {a b : Addr} {Γ Γ' : List En} {k k' : Fk} {te ta tb tu tv : TE} {tt : TT} {t u : TS} {d x y : D} {ds es : List D} {R R1 : D → Fk → Prop} {P : PoK} {i j : Nat} {σ : L2.St} {p : Addr} {c : Ct} {F H F' H' : Hp} {o : HO} {wi : TI} {g : TG}
theorem sw_inl {P : Po} (h : SW t Γ P) : SW (tEitherS t u) Γ P := fun c F H σ G D a b e f => .inl (h c F H σ G D a b e f)
theorem sw_inr {P : Po} (h : SW u Γ P) : SW (tEitherS t u) Γ P := fun c F H σ G D a b e f => .inr (h c F H σ G D a b e f)
theorem ep_inl (h : EvP ta Γ d) : EvP (tEither ta tb) Γ d := fun c F H σ G Q q => .inl (h c F H σ G Q q)
theorem ep_inr (h : EvP tb Γ d) : EvP (tEither ta tb) Γ d := fun c F H σ G Q q => .inr (h c F H σ G Q q)
theorem rd_ixSeqL {n : Int} (h : atI ds n = some d) : RD (rIx K) (.lst ds) (.int n) d := fun F H vx vy e rx ry Q q => .inl (rd_ixL h F H vx vy e rx ry Q q)
theorem rd_ixSeqT {n : Int} (h : atI ds n = some d) : RD (rIx K) (.tup ds) (.int n) d := fun F H vx vy e rx ry Q q => .inr (.inl (rd_ixT h F H vx vy e rx ry Q q))
/-- xs[1:] -/
theorem ep_lstFrom (h : EvP te Γ (.lst (x :: ds))) : EvP (tSl (rSlL K) te (tPart (tC (.int 1))) tNoPart) Γ (.lst ds) := fun c F H σ G Q q => h c F H σ G _ fun v F1 H1 S1 r1 => by
  obtain ⟨w, xs, rfl, hw, u1, rest, e1, h2, h3⟩ := r1
  refine ⟨1, rfl, w, xs, rfl, .inl (.inl (S1.fh _ _ hw)), fun p hp => ?_⟩
  have eq : cutV xs (some 1) none = rest := by rw [cutV_from (α := D), e1]; rfl
  rw [eq]
  have S2 := Stp.new S1.fh (.lst rest) hp
  exact q (.ref p) _ _ (S1.trans S2) ⟨p, rest, rfl, upd_same, h3.mono S2.f⟩
/-! ### the frame: what no slot holds stays, for the judgement holds at every entry -/
def pinC (c : Ct) (p : Addr) (o : HO) : Ct := ⟨c.F0, upd c.H0 p o, c.P⟩
theorem GK.pin (G : GK a b c F H σ Γ k) (hp : H p = some o) (fp : F p = none) (np : NoSlot σ Γ p) (pa : p ≠ a) (pb : p ≠ b) : GK a b (pinC c p o) F H σ Γ k := by
  refine ⟨⟨G.g.ff, G.g.fh, fun q u e l => ?_, G.g.li, fun q e => ?_, G.g.len, fun i e he => ?_, G.g.dj⟩, G.na, G.nb, G.fa, G.fb, G.ne, ?_, ?_, G.at_⟩
  · by_cases z : q = p
    · subst z
      have e' : upd c.H0 q o q = some u := e
      rw [upd_same] at e'
      cases e'; exact hp
    · have e' : upd c.H0 p o q = some u := e
      rw [upd_ne z] at e'
      exact G.g.hh q u e' l
  · have z : q ≠ p := fun z => by subst z; exact e fp
    rcases G.g.nw q e with y | y
    · exact .inl y
    · exact .inr (by show upd c.H0 p o q = none; rw [upd_ne z]; exact y)
  · obtain ⟨v, h1, h2⟩ := G.g.en i e he
    refine ⟨v, h1, ?_⟩
    cases e with
    | un => trivial
    | sh d => exact h2
    | own ds =>
      obtain ⟨q, xs, e1, e2, e3, e4, e5⟩ := h2
      have z : q ≠ p := fun z => by subst z; exact np i _ he rfl (by rw [h1, e1])
      exact ⟨q, xs, e1, e2, e3, e4, by show upd c.H0 p o q = none; rw [upd_ne z]; exact e5⟩
    | lent ds => exact h2
  · rcases G.la with l | l
    · exact .inl l
    · exact .inr (by show upd c.H0 p o a = none; rw [upd_ne pa.symm]; exact l)
  · rcases G.lb with l | l
    · exact .inl l
    · exact .inr (by show upd c.H0 p o b = none; rw [upd_ne pb.symm]; exact l)
theorem GK.unpin (G : GK a b (pinC c p o) F H σ Γ k) (h0 : c.H0 p = none) (f0 : c.F0 p = none) (nl : ¬ c.L p) (la : c.L a ∨ c.H0 a = none) (lb : c.L b ∨ c.H0 b = none) : GK a b c F H σ Γ k ∧ H p = some o ∧ F p = none := by
  have key : ∀ q, (pinC c p o).H0 q = none → c.H0 q = none := fun q e => by
    by_cases z : q = p
    · subst z; exact h0
    · have e' : upd c.H0 p o q = none := e
      rwa [upd_ne z] at e'
  refine ⟨⟨⟨G.g.ff, G.g.fh, fun q u e l => ?_, G.g.li, fun q e => (G.g.nw q e).imp id (key q), G.g.len, fun i e he => ?_, G.g.dj⟩, G.na, G.nb, G.fa, G.fb, G.ne, la, lb, G.at_⟩, ?_, ?_⟩
  · have z : q ≠ p := fun z => by subst z; rw [h0] at e; cases e
    exact G.g.hh q u (by show upd c.H0 p o q = some u; rw [upd_ne z]; exact e) l
  · obtain ⟨v, h1, h2⟩ := G.g.en i e he
    refine ⟨v, h1, ?_⟩
    cases e with
    | un => trivial
    | sh d => exact h2
    | own ds =>
      obtain ⟨q, xs, e1, e2, e3, e4, e5⟩ := h2
      exact ⟨q, xs, e1, e2, e3, e4, key _ e5⟩
    | lent ds => exact h2
  · exact G.g.hh p o (by show upd c.H0 p o p = some o; exact upd_same) nl
  · cases z : F p with
    | none => rfl
    | some u =>
      rcases G.g.nw p (by rw [z]; exact Option.some_ne_none _) with y | y
      · exact absurd f0 y
      · have y' : upd c.H0 p o p = none := y
        rw [upd_same] at y'; cases y'
/-! ### expressions, statements -/
theorem ek_if {Rt : Bool → Fk → Prop} (ht : EtK a b tt Γ k Rt) (h1 : ∀ k', Rt true k' → EvK a b ta Γ k' R) (h2 : ∀ k', Rt false k' → EvK a b tb Γ k' R) : EvK a b (tIf tt ta tb) Γ k R := fun c F H σ G Q q => ht c F H σ G _ fun v k1 F1 H1 hv G1 x1 => by
  cases v with
  | true => rw [if_pos rfl]; exact h1 k1 hv c F1 H1 σ G1 Q fun w d k2 F2 H2 hr G2 x2 => q w d k2 F2 H2 hr G2 (x1.trans x2)
  | false => rw [if_neg Bool.false_ne_true]; exact h2 k1 hv c F1 H1 σ G1 Q fun w d k2 F2 H2 hr G2 x2 => q w d k2 F2 H2 hr G2 (x1.trans x2)
theorem ek_cb {r : List V → Hp → VK → Prop} {tr : TA} {R' : List D → Fk → Prop} (ha : EaK a b tr Γ k R') (hr : ∀ ds k', R' ds k' → ∃ z, RC r ds z ∧ R z k') : EvK a b (tCB r tr) Γ k R := fun c F H σ G Q q => ha c F H σ G _ fun vs ds k1 F1 H1 hd G1 x1 r1 => by
  obtain ⟨z, hz, hR⟩ := hr ds k1 hd
  exact hz F1 H1 vs G1.g.fh r1 Q fun v F2 H2 S2 r2 => q v z k1 F2 H2 hR (G1.step S2) (x1.trans S2.f) r2
/-- "..."[:e] -/
theorem ek_slTo {z : Str} (he : EvP te Γ (.str z)) (hl : z.length ≤ sizeLine) (hu : EvK a b tu Γ k R1) (hR : ∀ x k', R1 x k' → ∃ n : Int, x = .int n ∧ R (.str (cutS z none (some n))) k') : EvK a b (tSl rSlS te tNoPart (tPart tu)) Γ k R := fun c F H σ G Q q =>
  he c F H σ G.g _ fun v F1 H1 S1 r1 => hu c F1 H1 σ (G.step S1) _ fun w x k2 F2 H2 hx G2 x2 r2 => by
    obtain ⟨n, rfl, hr⟩ := hR x k2 hx
    have e1 : w = .int n := r2
    have e2 : v = .str z := r1
    subst e1 e2
    exact ⟨n, rfl, z, rfl, hl, q _ _ k2 F2 H2 hr G2 (S1.f.trans x2) rfl⟩
/-- x, y = e -/
theorem sk_asgT2 (h : EvP te Γ (.tup [x, y])) (hn : P.nx ((Γ.set i (.sh x)).set j (.sh y)) k) : SK a b (tAsg te (gTup K 2 (gCons (gName i) (gCons (gName j) gNil)))) Γ k P := fun c F H σ G E e1 e2 => h c F H σ G.g _ fun v F1 H1 S1 r1 => by
  obtain ⟨p, xs, rfl, hp, u1, r1, rfl, h1, u2, r2, rfl, h2, rfl⟩ := r1
  have G1 := G.step S1
  exact ⟨p, [u1, u2], rfl, .inl (.inl (G1.g.exH hp)), rfl, u1, [u2], rfl, u2, [], rfl, rfl, e1 _ k F1 H1 _ hn ((G1.setSh h1).setSh h2) S1.f⟩
theorem qk_asgT2 (h : EvP te Γ (.tup [x, y])) (hn : SK a b u ((Γ.set i (.sh x)).set j (.sh y)) k P) : SK a b (tSeq (tAsg te (gTup K 2 (gCons (gName i) (gCons (gName j) gNil)))) u) Γ k P :=
  SK.seq (M := fun Γ' k' => Γ' = (Γ.set i (.sh x)).set j (.sh y) ∧ k' = k) (sk_asgT2 h ⟨rfl, rfl⟩) fun Γ' k' ⟨e1, e2⟩ => by subst e1 e2; exact hn
theorem sk_whileG (I : Nat → List En → Fk → Prop) (m0 : Nat) (h0 : I m0 Γ k) (hs : ∀ m Γi ki, I m Γi ki → ∃ R, EtK a b tt Γi ki R ∧ (∀ k2, R true k2 → SK a b t Γi k2 ⟨fun Γ' k3 => ∃ m', m' < m ∧ I m' Γ' k3, P.rt⟩) ∧ (∀ k2, R false k2 → P.nx Γi k2)) :
    SK a b (tWhile tt t) Γ k P := fun c F H σ G E e1 e2 => by
  refine ⟨fun m σ' H' => ∃ Γi k' F', I m Γi k' ∧ GK a b c F' H' σ' Γi k' ∧ Ex F F', ⟨m0, Γ, k, F, h0, G, Ex.refl _⟩, ?_⟩
  rintro m σ1 H1 ⟨Γi, ki, F1, p, G1, x1⟩
  obtain ⟨R, ht, h1, h2⟩ := hs m Γi ki p
  refine ht c F1 H1 σ1 G1 _ fun v k2 F2 H2 hv G2 x2 => ?_
  cases v with
  | true =>
    rw [if_pos rfl]
    refine ⟨fun σ' H' => ∃ Γi k' F', (∃ m', m' < m ∧ I m' Γi k') ∧ GK a b c F' H' σ' Γi k' ∧ Ex F F', fun σ' H' ⟨Γi, k', F', ⟨m', hm, q⟩, G', x⟩ => ⟨m', hm, Γi, k', F', q, G', x⟩, ?_⟩
    exact h1 k2 hv c F2 H2 σ1 G2 _ (fun Γ'' k3 F' H' σ' q G' x => ⟨Γ'', k3, F', q, G', (x1.trans x2).trans x⟩) (fun v d Γ'' k3 F' H' σ' q G' x r => e2 v d Γ'' k3 F' H' σ' q G' ((x1.trans x2).trans x) r)
  | false =>
    rw [if_neg Bool.false_ne_true]
    exact e1 Γi k2 F2 H2 σ1 (h2 k2 hv) G2 (x1.trans x2)
/-- what is walked, the flask turned -/
def WiK (a b : Addr) (wi : TI) (Γ : List En) (k : Fk) (R : List D → Fk → Prop) : Prop := ∀ c F H σ, GK a b c F H σ Γ k → ∀ Rr : It → Hp → Prop,
  (∀ J k' ds F' H' (Gd : Hp → Prop) (Y : Nat → Hp → V → Hp → Prop), R ds k' → GK a b c F' H' σ Γ k' → Ex F F' → Walk J ds.length Gd Y → (∀ H2, Ex F' H2 → Gd H2) →
    (∀ i H1 v H2 F1, i < ds.length → Ex F' F1 → Ex F1 H1 → Y i H1 v H2 → ∃ F2 d, ds[i]? = some d ∧ Stp F1 H1 F2 H2 ∧ Rep F2 d v) → Rr J H') → wi σ H Rr
theorem wik_p {Rl : List D → Fk → Prop} (h : WiP wi Γ ds) (hR : Rl ds k) : WiK a b wi Γ k Rl := fun c F H σ G Rr q => h c F H σ G.g _ fun J F' H' Gd Y S w hG hY => q J k ds F' H' Gd Y hR (G.step S) S.f w hG hY
theorem wik_list {Rl : List D → Fk → Prop} (h : EvK a b te Γ k R1) (hR : ∀ d k', R1 d k' → ∃ ds, d = .lst ds ∧ Rl ds k') : WiK a b (iList K te) Γ k Rl := fun c F H σ G Rr q => h c F H σ G _ fun v d k1 F1 H1 hr G1 x1 r1 => by
  obtain ⟨ds, rfl, hl⟩ := hR d k1 hr
  obtain ⟨w, xs, rfl, hw, r⟩ := r1
  refine ⟨w, rfl, ⟨xs, .inl (.inl (G1.g.fh _ _ hw))⟩, q _ k1 ds F1 H1 (fun H => SqL K H w xs) (YAt xs) hl G1 x1 (r.length ▸ walk_list) (fun H2 e => .inl (.inl (e _ _ hw))) fun i H1' v H2 F2 hi x1 x2 y => ?_⟩
  obtain ⟨rfl, hv⟩ := y
  obtain ⟨d, hd, rd⟩ := r.get' hv
  exact ⟨F2, d, hd, .refl x2, rd.mono x1⟩
theorem sk_forNK {wi : TI} {j : Nat} (I : List D → Nat → List En → Fk → Prop) (h : WiK a b wi Γ k fun ds k' => I ds 0 Γ k') (hs : ∀ ds i d Γi ki, ds[i]? = some d → I ds i Γi ki → SK a b t (Γi.set j (.sh d)) ki ⟨I ds (i + 1), P.rt⟩) (hd : ∀ ds Γ' k', I ds ds.length Γ' k' → P.nx Γ' k') :
    SK a b (tFor wi (gName j) t) Γ k P := fun c F H σ G E e1 e2 => h c F H σ G _ fun J k1 ds F1 H1 Gd Y h0 G1 x1 w hG hY => by
  refine for_it w (fun i σ' H' => ∃ Γi ki F', I ds i Γi ki ∧ GK a b c F' H' σ' Γi ki ∧ Ex F1 F') ⟨Γ, k1, F1, h0, G1, Ex.refl _⟩ (fun i σ' H' _ ⟨_, _, _, _, G', x⟩ => hG _ (x.trans G'.g.fh)) ?_ ?_
  · rintro i v σ1 H2 H3 hi ⟨Γi, ki, F2, p, G2, x2⟩ y
    obtain ⟨F3, d, hd', S3, r3⟩ := hY i H2 v H3 F2 hi x2 G2.g.fh y
    exact hs ds i d Γi ki hd' p c F3 H3 _ ((G2.step S3).setSh r3) _ (fun Γ'' k3 F' H' σ' q G' x => ⟨Γ'', k3, F', q, G', (x2.trans S3.f).trans x⟩) (fun v d Γ'' k3 F' H' σ' q G' x r => e2 v d Γ'' k3 F' H' σ' q G' ((x1.trans (x2.trans S3.f)).trans x) r)
  · rintro σ1 H2 ⟨Γi, ki, F2, p, G2, x2⟩
    exact e1 Γi ki F2 H2 σ1 (hd ds _ _ p) G2 (x1.trans x2)
/-! ### a dict filled, the flask turned -/
theorem NoSlot.setUn {q : Addr} {v : Option V} (N : NoSlot σ Γ q) : NoSlot (σ.set i v) (Γ.set i .un) q := fun j e he m w => by
  by_cases z : i = j
  · subst z
    rw [List.getElem?_set] at he
    rw [if_pos rfl] at he
    split at he
    · cases he; cases m
    · cases he
  · rw [List.getElem?_set_ne z] at he w
    exact N j e he m w
theorem GK.setUn {v : Option V} (G : GK a b c F H σ Γ k) : GK a b c F H (σ.set i v) (Γ.set i .un) k := ⟨G.g.setUn, NoSlot.setUn G.na, NoSlot.setUn G.nb, G.fa, G.fb, G.ne, G.la, G.lb, G.at_⟩
theorem GK.forget (G : GK a b c F H σ Γ k) : GK a b c F H σ (Γ.set i .un) k := by
  have e : σ.set i (σ[i]?.getD none) = σ := by
    apply List.ext_getElem?
    intro j
    by_cases z : i = j
    · subst z
      rw [List.getElem?_set]
      rw [if_pos rfl]
      split
      · next h => rw [List.getElem?_eq_getElem h]; rfl
      · next h => rw [List.getElem?_eq_none (by omega)]
    · rw [List.getElem?_set_ne z]
  have G1 := G.setUn (i := i) (v := σ[i]?.getD none)
  rwa [e] at G1
theorem RepF.snoc {F : Hp} {w : Str} {d : D} {v : V} : ∀ {kvs : List (Str × D)} {xs : List (Str × V)}, RepF F kvs xs → Rep F d v → RepF F (kvs ++ [(w, d)]) (xs ++ [(w, v)])
  | [], _, h, r => by cases h; exact ⟨v, [], rfl, r, rfl⟩
  | (_, _) :: _, _, ⟨u, rest, h1, h2, h3⟩, r => by cases h1; exact ⟨u, rest ++ [(w, v)], rfl, h2, RepF.snoc h3 r⟩
theorem sk_dfill {iw ib : Nat} (hj : Γ[j]? = some .un) (hw0 : Γ[iw]? = some .un) (hb0 : Γ[ib]? = some .un) (njw : j ≠ iw) (njb : j ≠ ib)
    (I : List (Str × D) → Nat → List (Str × D) → Fk → Prop)
    (hw : WiK a b wi Γ k fun ds k' => ∃ xs : List (Str × D), ds = xs.map (fun q => .tup [.str q.1, q.2]) ∧ I xs 0 [] k')
    (hs : ∀ xs i w d acc ki, xs[i]? = some (w, d) → I xs i acc ki → acc.length < sizeLine ∧ (∀ q ∈ acc, q.1 ≠ w) ∧ EvK a b tv ((Γ.set iw (.sh (.str w))).set ib (.sh d)) ki fun e k2 => I xs (i + 1) (acc ++ [(w, e)]) k2)
    (niwb : iw ≠ ib) (hu : ∀ xs acc k', I xs xs.length acc k' → SK a b u (Γ.set j (.sh (.dct acc))) k' P) :
    SK a b (tSeq (tAsg tDNewK (gName j)) (tSeq (tFor wi (gTup K 2 (gCons (gName iw) (gCons (gName ib) gNil))) (sDPut (tVar j) (tVar iw) tv)) u)) Γ k P := fun c F H σ G E e1 e2 p hp => by
  have lj : j < Γ.length := (List.getElem?_eq_some_iff.mp hj).1
  have lw : iw < Γ.length := (List.getElem?_eq_some_iff.mp hw0).1
  have lb : ib < Γ.length := (List.getElem?_eq_some_iff.mp hb0).1
  have back : ∀ (l : Nat), Γ[l]? = some .un → Γ.set l .un = Γ := fun l hl => by
    apply List.ext_getElem?
    intro q
    by_cases z : l = q
    · subst z; rw [List.getElem?_set_self (List.getElem?_eq_some_iff.mp hl).1, hl]
    · rw [List.getElem?_set_ne z]
  have h0 : c.H0 p = none := G.g.fresh hp
  have fp : F p = none := by
    cases q : F p with
    | none => rfl
    | some o => rw [G.g.fh _ _ q] at hp; cases hp
  have f0 : c.F0 p = none := by
    cases q : c.F0 p with
    | none => rfl
    | some o => rw [G.g.ff _ _ q] at fp; cases fp
  have nl : ¬ c.L p := fun l => by
    obtain ⟨o, e⟩ := G.g.li p l
    rw [hp] at e; cases e
  have pa : p ≠ a := fun z => by subst z; rw [G.at_.1] at hp; cases hp
  have pb : p ≠ b := fun z => by subst z; rw [G.at_.2] at hp; cases hp
  have np : NoSlot σ Γ p := G.g.noSlot hp
  have G0 : GK a b c F (upd H p (.dK [])) (σ.set j (some (.ref p))) Γ k := by
    have := (G.step (Stp.loose G.g.fh (.dK []) hp)).setUn (i := j) (v := some (.ref p))
    rwa [back j hj] at this
  have np0 : NoSlot (σ.set j (some (.ref p))) Γ p := by
    have := np.setUn (i := j) (v := some (.ref p))
    rwa [back j hj] at this
  show tFor wi _ _ _ (σ.set j (some (.ref p))) (upd H p (.dK []))
  refine hw _ _ _ _ (G0.pin (p := p) (o := .dK []) upd_same fp np0 pa pb) _ fun J k1 ds F1 H1 Gd Y ⟨xs, eds, hI0⟩ G1 x1 w hG hY => ?_
  obtain ⟨G1, hp1, fp1⟩ := G1.unpin h0 f0 nl G.la G.lb
  subst eds
  rw [List.length_map] at w
  refine for_it w (fun i σ' H' => ∃ acc kvs ki F', I xs i acc ki ∧ GK a b c F' H' σ' Γ ki ∧ Ex F1 F' ∧ σ'[j]? = some (some (.ref p)) ∧ NoSlot σ' Γ p ∧ H' p = some (.dK (kvs.map kvV)) ∧ F' p = none ∧ RepF F' acc kvs)
    ⟨[], [], k1, F1, hI0, G1, Ex.refl _, List.getElem?_set_self (by rw [G.g.len]; exact lj), np0, hp1, fp1, rfl⟩ (fun i σ' H' _ ⟨_, _, _, _, _, G', x, _⟩ => hG _ (x.trans G'.g.fh)) ?_ ?_
  · rintro i v σ1 H2 H3 hi ⟨acc, kvs, ki, F2, hI, G2, x2, hσ, np2, hp2, fp2, rf⟩ y
    obtain ⟨F3, d, hd', S3, r3⟩ := hY i H2 v H3 F2 (by rw [List.length_map]; exact hi) x2 G2.g.fh y
    rw [List.getElem?_map, List.getElem?_eq_getElem hi] at hd'
    cases hd'
    obtain ⟨q, vs, rfl, hq, u1, s1, rfl, ru1, u2, s2, rfl, ru2, rfl⟩ := r3
    have G3 := G2.step S3
    have ew : u1 = .str xs[i].1 := ru1
    subst ew
    refine ⟨q, [.str xs[i].1, u2], rfl, .inl (.inl (G3.g.exH hq)), rfl, .str xs[i].1, [u2], rfl, u2, [], rfl, rfl, ?_⟩
    obtain ⟨hl, hn, hv⟩ := hs xs i xs[i].1 xs[i].2 acc ki (List.getElem?_eq_getElem hi) hI
    have G4 : GK a b c F3 H3 ((σ1.set iw (some (.str xs[i].1))).set ib (some u2)) ((Γ.set iw (.sh (.str xs[i].1))).set ib (.sh xs[i].2)) ki := (G3.setSh (i := iw) (d := .str xs[i].1) rfl).setSh (i := ib) ru2
    have np3 : NoSlot ((σ1.set iw (some (.str xs[i].1))).set ib (some u2)) ((Γ.set iw (.sh (.str xs[i].1))).set ib (.sh xs[i].2)) p := NoSlot.setSh (NoSlot.setSh np2)
    have hp3 : H3 p = some (.dK (kvs.map kvV)) := S3.h _ _ hp2
    have fp3 : F3 p = none := stp_none S3 fp2 hp2
    refine hv _ _ _ _ (G4.pin hp3 fp3 np3 pa pb) _ fun w e k2 F5 H5 hI5 G5 x5 r5 => ?_
    obtain ⟨G5, hp5, fp5⟩ := G5.unpin h0 f0 nl G.la G.lb
    have l1 : iw < σ1.length := by rw [G2.g.len]; exact lw
    refine ⟨.ref p, ?_, .str xs[i].1, ?_, p, _, rfl, DPut.k (k := .inr xs[i].1) hp5 (by rw [List.length_map, ← List.length_map (f := (·.1)), rf.keys, List.length_map]; exact hl), ?_⟩
    · rw [List.getElem?_set_ne njb.symm, List.getElem?_set_ne njw.symm]; exact hσ
    · rw [List.getElem?_set_ne niwb.symm, List.getElem?_set_self l1]
    have ek : putK (kvs.map kvV) (.inr xs[i].1) w = (kvs ++ [(xs[i].1, w)]).map kvV := by
      rw [putK_new, List.map_append]
      · rfl
      intro z hz e
      obtain ⟨z', hz', rfl⟩ := List.mem_map.mp hz
      have e1 : z'.1 = xs[i].1 := by injection e
      have m : z'.1 ∈ kvs.map (·.1) := List.mem_map_of_mem hz'
      rw [rf.keys] at m
      obtain ⟨y, hy, ey⟩ := List.mem_map.mp m
      exact hn y hy (ey.trans e1)
    rw [ek]
    have G6 : GK a b c F5 (upd H5 p (.dK ((kvs ++ [(xs[i].1, w)]).map kvV))) ((σ1.set iw (some (.str xs[i].1))).set ib (some u2)) Γ k2 := by
      have g6 := (GK.forget (i := ib) (GK.forget (i := iw) G5))
      have eΓ : ((((Γ.set iw (.sh (.str xs[i].1))).set ib (.sh xs[i].2)).set iw .un).set ib .un) = Γ := by
        rw [List.set_comm _ _ niwb.symm, List.set_set, List.set_set, back iw hw0, back ib hb0]
      rw [eΓ] at g6
      refine ⟨?_, g6.na, g6.nb, g6.fa, g6.fb, g6.ne, g6.la, g6.lb, ?_, ?_⟩
      · refine g6.g.wrK (p := p) ?_ fp5 (.inr h0)
        have n1 : NoSlot ((σ1.set iw (some (.str xs[i].1))).set ib (some u2)) ((Γ.set iw .un).set ib .un) p := NoSlot.setUn (NoSlot.setUn np2)
        rwa [back iw hw0, back ib hb0] at n1
      · rw [upd_ne pa.symm]; exact g6.at_.1
      · rw [upd_ne pb.symm]; exact g6.at_.2
    refine ⟨acc ++ [(xs[i].1, e)], kvs ++ [(xs[i].1, w)], k2, F5, hI5, G6, (x2.trans S3.f).trans x5, ?_, ?_, upd_same, fp5, RepF.snoc ((rf.mono S3.f).mono x5) r5⟩
    · rw [List.getElem?_set_ne njb.symm, List.getElem?_set_ne njw.symm]; exact hσ
    · have n1 : NoSlot ((σ1.set iw (some (.str xs[i].1))).set ib (some u2)) ((Γ.set iw .un).set ib .un) p := NoSlot.setUn (NoSlot.setUn np2)
      rwa [back iw hw0, back ib hb0] at n1
  · rintro σ1 H2 ⟨acc, kvs, ki, F2, hI, G2, x2, hσ, np2, hp2, fp2, rf⟩
    have r : Rep (upd F2 p (.dK (kvs.map kvV))) (.dct acc) (.ref p) := ⟨p, kvs, rfl, upd_same, rf.mono (Ex.new fp2)⟩
    have gf : Good c (upd F2 p (.dK (kvs.map kvV))) H2 σ1 Γ := by
      refine ⟨G2.g.ff.trans (Ex.new fp2), fun q o e => ?_, G2.g.hh, G2.g.li, fun q e => ?_, G2.g.len, fun i e he => ?_, G2.g.dj⟩
      · by_cases z : q = p
        · subst z; rw [upd_same] at e; cases e; exact hp2
        · rw [upd_ne z] at e; exact G2.g.fh _ _ e
      · by_cases z : q = p
        · subst z; exact .inr h0
        · rw [upd_ne z] at e; exact G2.g.nw q e
      · obtain ⟨v, h1, h2⟩ := G2.g.en i e he
        refine ⟨v, h1, ?_⟩
        cases e with
        | un => trivial
        | sh d => obtain ⟨w, e1, r⟩ := h2; exact ⟨w, e1, r.mono (Ex.new fp2)⟩
        | own ds =>
          obtain ⟨q, ys, e1, e2, e3, e4, e5⟩ := h2
          have z : q ≠ p := fun z => by subst z; exact np2 i _ he rfl (by rw [h1, e1])
          exact ⟨q, ys, e1, by rw [upd_ne z]; exact e2, e3, e4.mono (Ex.new fp2), e5⟩
        | lent ds =>
          obtain ⟨q, ys, e1, e2, e3, e4, e5⟩ := h2
          have z : q ≠ p := fun z => by subst z; exact np2 i _ he rfl (by rw [h1, e1])
          exact ⟨q, ys, e1, by rw [upd_ne z]; exact e2, e3, e4.mono (Ex.new fp2), e5⟩
    have G3 : GK a b c (upd F2 p (.dK (kvs.map kvV))) H2 σ1 (Γ.set j (.sh (.dct acc))) ki := by
      have g3 : GK a b c (upd F2 p (.dK (kvs.map kvV))) H2 σ1 Γ ki := ⟨gf, G2.na, G2.nb, by rw [upd_ne pa.symm]; exact G2.fa, by rw [upd_ne pb.symm]; exact G2.fb, G2.ne, G2.la, G2.lb, G2.at_⟩
      have g4 := g3.setSh (i := j) r
      have es : σ1.set j (some (.ref p)) = σ1 := by
        apply List.ext_getElem?
        intro q
        by_cases z : j = q
        · subst z; rw [List.getElem?_set_self (List.getElem?_eq_some_iff.mp hσ).1, hσ]
        · rw [List.getElem?_set_ne z]
      rwa [es] at g4
    have xx : Ex F (upd F2 p (.dK (kvs.map kvV))) := (x1.trans x2).trans (Ex.new fp2)
    exact hu xs acc ki hI c _ H2 σ1 G3 E (fun Γ' k' F' H' σ' m G' x => e1 Γ' k' F' H' σ' m G' (xx.trans x)) fun v d Γ' k' F' H' σ' m G' x r => e2 v d Γ' k' F' H' σ' m G' (xx.trans x) r
end
end DL
namespace DL
open PySem PySem.Spec PyProof.Rows L2
/-- a call that is lent the flask; all its other arguments may turn it -/
theorem ek_callA {a b : Addr} {Γ : List En} {k : Fk} {R : D → Fk → Prop} {i : Nat} {C : CnK} {ta : TA} {R1 : List D → Fk → Prop} (hi : Γ[i]? = some (.sh (.ref a))) (ha : EaK a b ta Γ k R1) (hc : ∀ es k', R1 es k' → ∃ R2 : D → Fk → Prop, C k' es R2 ∧ ∀ d k2, R2 d k2 → R d k2) : EvK a b (tCall (spK C) [] E0 (tCons (tVar i) ta)) Γ k R := fun c F H σ G Q q => by
  obtain ⟨v0, e0, r0⟩ := G.g.sh hi
  have r0' : v0 = .ref a := r0
  subst r0'
  refine ⟨_, e0, ha c F H σ G _ fun vs es k1 F1 H1 hx G1 x1 r1 => ?_⟩
  show spK C ((.ref a :: vs) ++ []) H1 Q E0
  rw [List.append_nil]
  obtain ⟨R2, hC, hR⟩ := hc es k1 hx
  exact ⟨a, b, F1, k1, es, vs, R2, rfl, G1.g.fh, G1.ne, G1.fa, G1.fb, G1.at_, r1, hC, fun v d k' F' H' hr S h r => q v d k' F' H' (hR d k' hr) (G1.call S h) (x1.trans S.f) r⟩
end DL
namespace DL
open PySem PySem.Spec PyProof.Rows L2
theorem EvKF.imp {a b : Addr} {Γ : List En} {k : Fk} {te : TE} {R R1 : D → Fk → Prop} (h : EvKF a b te Γ k R1) (q : ∀ d k', R1 d k' → R d k') : EvKF a b te Γ k R := fun c F H σ G Q w => h c F H σ G Q fun v d k' F' H' hr => w v d k' F' H' (q d k' hr)
end DL
namespace DL
open PySem PySem.Spec PyProof.Rows L2
theorem rd_ofF {r : R2} {x y : D} {zs : List D} (h : RDF r x y zs) : RD r x y (.lst zs) := fun F H vx vy e rx ry Q k => h F H vx vy e rx ry Q fun a xs F' H' S n nf e r =>
  k (.ref a) (upd F' a (.lst xs)) H' ⟨S.f.trans (Ex.new nf), S.h, fun b o q => by
    by_cases z : b = a
    · subst z; rw [upd_same] at q; cases q; exact e
    · rw [upd_ne z] at q; exact S.fh _ _ q, fun b q => by
    by_cases z : b = a
    · subst z; exact .inr n
    · rw [upd_ne z] at q; exact S.nw _ q⟩ ⟨a, xs, rfl, upd_same, r.mono (Ex.new nf)⟩
/-- a call of a pure def, its arguments turn the flask -/
theorem ek_callPA {a b : Addr} {Γ : List En} {k : Fk} {R : D → Fk → Prop} {C : Cn} {ta : TA} {R1 : List D → Fk → Prop} (ha : EaK a b ta Γ k R1) (hc : ∀ es k', R1 es k' → ∃ R'', C (es.map .sh) R'' ∧ ∀ e G, R'' e G → R e k') : EvK a b (tCall (spE C) [] E0 ta) Γ k R := fun c F H σ G Q q =>
  ha c F H σ G _ fun vs es k1 F1 H1 hx G1 x1 r1 => by
    obtain ⟨R'', hC, hR⟩ := hc es k1 hx
    show spE C (vs ++ []) H1 Q E0
    rw [List.append_nil]
    refine ⟨_, F1, _, R'', good_args G1.g.fh r1, argOk_sh es, hC, fun w e G' F' H' hr Gz x' r => ?_⟩
    have S2 : Stp F1 H1 F' H' := ⟨x', fun p o z => Gz.hh p o z (fun ⟨_, z⟩ => by cases z), Gz.fh, Gz.nw⟩
    exact q w e k1 F' H' (hR e G' hr) (G1.step S2) (x1.trans S2.f) r
/-- script == [] -/
theorem rd_eqScr {K : PySem.W.Frag} {a : Addr} {ns : List Int} {p : Prop} (hp : p → KLs K a (ns.map V.int)) : RD (rEqD K) (.scr a ns p) (.lst []) (.bl (decide (ns = []))) := fun F H vx vy e rx ry Q k => by
  obtain ⟨rfl, hs⟩ := scr_sq e rx hp
  obtain ⟨q, ys, rfl, hq, hys⟩ := ry
  have hys' : ys = [] := hys
  subst hys'
  have dpi : ∀ l : List Int, DpAll K H (l.map V.int) (l.map PyData.int) := fun l => by
    induction l with
    | nil => exact .nil
    | cons n l ih => exact .cons (.int n) ih
  have lay : ∀ l : List Int, PyData.canLayAll0 (l.map PyData.int) = true := fun l => by
    induction l with
    | nil => rfl
    | cons n l ih => show (true && PyData.canLayAll0 (l.map PyData.int)) = true; rw [ih]; rfl
  have dep : ∀ l : List Int, PyData.depthAll (l.map PyData.int) = 0 := fun l => by
    induction l with
    | nil => rfl
    | cons n l ih => show max 0 (PyData.depthAll (l.map PyData.int)) = 0; rw [ih]; rfl
  refine ⟨.list (ns.map .int), .list [], .lst hs (dpi _), .lst (.inl (.inl (e _ _ hq))) .nil, ?_, by rfl, ?_⟩
  · unfold SeqAt.shaped
    have e1 : PyData.canLay0 (.list (ns.map PyData.int)) = true := lay _
    have e2 : PyData.depth (.list (ns.map PyData.int)) = 1 := by show PyData.depthAll (ns.map PyData.int) + 1 = 1; rw [dep]
    rw [e1, e2]; rfl
  · have eq : PyData.eqv (.list (ns.map .int)) (.list []) = decide (ns = []) := by
      cases ns with
      | nil => rfl
      | cons n l => rfl
    rw [eq]
    exact k _ F H (.refl e) rfl
end DL
namespace DL
open PySem PySem.Spec PyProof.Rows L2
theorem EvFK.imp {a b : Addr} {Γ : List En} {k : Fk} {te : TE} {R R1 : List D → Fk → Prop} (h : EvFK a b te Γ k R1) (q : ∀ d k', R1 d k' → R d k') : EvFK a b te Γ k R := fun c F H σ G Q w => h c F H σ G Q fun p xs ds k' F' H' hr => w p xs ds k' F' H' (q ds k' hr)
end DL
set_option Elab.async false
set_option linter.all false
set_option maxRecDepth 100000
set_option maxHeartbeats 4000000
/-! R8g: a text n times; keyword calls of a def that may raise; list(range(n)); the texts that go too deep. -/
namespace XS
open PySem PySem.Spec PyProof.Rows L2 DL
abbrev rRepS : L2.R2 := fun x y H Q => ∃ a n, x = .str a ∧ y = .int n ∧ MulOk a n ∧ Q (.str (Txt.mul a n)) H
theorem op_repS {X : Cx} : OpR X (binaryOp .Mult) rRepS := by
  intro pins s σ H x y v u Q I rx ry h
  obtain ⟨a, n, rfl, rfl, hz, q⟩ := h
  obtain ⟨t, rfl⟩ := rx
  obtain ⟨t', rfl⟩ := ry
  exact SB.mul hz fun t' tk => ⟨.str (Txt.mul a n), H, I.tok _, ⟨_, rfl⟩, q⟩
theorem rd_repS {a : Str} {n : Int} (h : MulOk a n) : RD rRepS (.str a) (.int n) (.str (Txt.mul a n)) := fun F H vx vy e rx ry Q k => ⟨a, n, rx, ry, h, k _ F H (.refl e) rfl⟩
theorem passF {X : Cx} : Passes (L2.CX X.prog X.w) X (fun _ _ _ => False) := fun _ _ _ _ _ _ _ h => by
  obtain ⟨_, _, _, _, _, _, _, _, _, _, _, _, z⟩ := h
  exact z.elim
structure CalKU (P : Program) (w : World) (K : PySem.W.Frag) (mg : Str → Option Value) (base : Heap) (k : Nat) (x : Str) (ks : List Str) (sp : Sp) : Prop where
  ex : ∃ (f : Addr) (fd : FuncData) (ps : List Str), FnOk P w K mg base (L2.CX P w) k f fd ps sp ∧ mg x = some (.ref f) ∧ PySem.W.keepIn K (.ref f) = true ∧ KRev K fd ps ks
section
variable {X : Cx} {j k : Nat} {x : Str} {ks : List Str} {sp : Sp}
theorem pe_cku {p pos : Pos} {kws : List Keyword} {tk : TA} (c : CalKU X.prog X.w X.K X.mg X.base k x ks sp) (hr : Room j X.A) (hk : k ≤ j) (hgl : Gl X x) (hkw : PK X kws tk) (hdb : (x == ("__debug__" : Str)) = false := by decide)
    (hall : (backToKw pos (keywordEach kws X.env)).all (·.1.isSome) = true := by rfl) (hks : (backToKw pos (keywordEach kws X.env)).filterMap (·.1) = ks := by rfl)
    (hpl : ((backTo pos (starEach [] X.env)).any (·.1) || (backToKw pos (keywordEach kws X.env)).any (·.1.isNone)) = false := by rfl) : PE X (.Call (.Name x p) [] kws pos) (fun σ H Q => tk σ H fun vs H1 => sp (gRV [] vs) H1 Q fun _ _ _ => False) := by
  obtain ⟨f, fd, ps, F, hm, kp, b⟩ := c.ex
  constructor
  intro pins s σ H Q I h
  refine wpAny_Call_Name_kw (ld_glob I hgl hm ?_ hdb)
  refine PySem.W.callWith_KW0 (h₀ := X.base) I.ok.mod.kin kp hall ?_ hpl
  refine thn (hkw.run pos pins s σ H _ I h) ?_
  rintro ws s2 ⟨zs, H2, I2, rz, q2⟩
  rw [hks]
  have r3 := rz.reverse
  have l3 : zs.reverse.length = ps.length := F.len _ _ _ _ q2
  refine ⟨I2.kIn, wpAny_call (codeAny_mono (F.run X.A X.stack s2 H2 ⟨[], ks.zip ws⟩ ws.reverse zs.reverse Q (fun _ _ _ => False) (hr.mono hk) I2.env0 (b s2 ws I2.kIn (by rw [← l3, List.length_reverse, rz.length])) r3 q2) ?_)⟩
  rintro (e | fl) s' hq
  · exact passF (X := X) pins σ H2 s2 e s' I2 hq
  · match fl, hq with
    | .ret u, hq => exact I2.after hq
    | .next, hq => exact hq.elim
    | .brk, hq => exact hq.elim
    | .cont, hq => exact hq.elim
end
section
variable {Γ : List En} {es : List D} {z : D} {R : D → List En → Prop} {te : TE} {fl : Str} {CX : Addr} {B : List D → Int → Prop}
theorem ep_callKU {C : Cn} {tk : TA} (ha : EaP tk Γ es) (hc : C (es.reverse.map .sh) R) (hR : ∀ e Γ', R e Γ' → e = z) : EvP (fun σ H Q => tk σ H fun vs H1 => spU C CX fl B (gRV [] vs) H1 Q fun _ _ _ => False) Γ z := fun c F H σ G Q k => ha c F H σ G _ fun vs F1 H1 S1 r1 => by
  refine .inl ⟨_, F1, _, R, good_args S1.fh r1.reverse, argOk_sh _, hc, fun v d Γ' F' H' hr G' x r => ?_⟩
  have e := hR d Γ' hr
  subst e
  exact k v F' H' (S1.trans ⟨x, fun a o q => G'.hh a o q (fun ⟨_, z⟩ => by cases z), G'.fh, G'.nw⟩) r
end
end XS
namespace DL
open PySem PySem.Spec PyProof.Rows L2
section
variable {Γ : List En} {te : TE}
/-- list(range(n)) -/
theorem ef_listRg {n : Nat} (h : EvP te Γ (.int (n : Nat))) (hn : n ≤ 16777216) : EvF (tLstRg (tRg1 te)) Γ ((List.range n).map fun (i : Nat) => D.int (0 + (i : Int))) := fun c F H σ G Q k => h c F H σ G _ fun v F1 H1 S1 r1 => by
  cases (show v = .int (n : Nat) from r1)
  refine ⟨_, rfl, .of_le (by omega) (by omega) (by omega) (by omega), fun q hq => ?_⟩
  have e : rgV 0 (n : Nat) = ((List.range n).map fun (i : Nat) => (0 + (i : Int))).map V.int := by
    unfold rgV
    rw [List.map_map]
    have : ((n : Int) - 0).toNat = n := by omega
    rw [this]
    rfl
  have e2 : ((List.range n).map fun (i : Nat) => D.int (0 + (i : Int))) = ((List.range n).map fun (i : Nat) => (0 + (i : Int))).map D.int := by rw [List.map_map]; rfl
  have S2 := Stp.loose S1.fh (.lst (rgV 0 (n : Nat))) hq
  have rr : Reps F1 ((List.range n).map fun (i : Nat) => D.int (0 + (i : Int))) (rgV 0 (n : Nat)) := by rw [e2, e]; exact Reps.ints _
  refine k q _ _ _ (S1.trans S2) ?_ ?_ upd_same rr
  · cases z : H q with
    | none => rfl
    | some o => rw [S1.h _ _ z] at hq; cases hq
  · cases z : F1 q with
    | none => rfl
    | some o => rw [S1.fh _ _ z] at hq; cases hq
/-- a, b, c = e, f, g -/
theorem sw_par3P {ta tb tc : TE} {x y z : D} {P : Po} {i j l : Nat} (ha : EvP ta Γ x) (hb : EvP tb Γ y) (hc : EvP tc Γ z) (hn : P.nx (((Γ.set i (.sh x)).set j (.sh y)).set l (.sh z))) : SW (tPar3 i j l (tCons ta (tCons tb (tCons tc tNil)))) Γ P := fun c F H σ G D a b e f =>
  ha c F H σ G _ fun v F1 H1 S1 r1 => hb c F1 H1 σ (G.step S1) _ fun u F2 H2 S2 r2 => hc c F2 H2 σ ((G.step S1).step S2) _ fun w F3 H3 S3 r3 =>
    ⟨_, _, _, rfl, a _ F3 H3 _ hn ((((((G.step S1).step S2).step S3).setSh ((r1.mono S2.f).mono S3.f)).setSh (r2.mono S3.f)).setSh r3) ((S1.f.trans S2.f).trans S3.f)⟩
end
end DL
set_option Elab.async false
set_option linter.all false
set_option maxRecDepth 100000
set_option autoImplicit false
set_option maxHeartbeats 4000000
/-! E4g: a list of a slot whose items are lists that are changed in place: made, read, changed, forgotten. -/
namespace DL
open PySem PySem.Spec PyProof.Rows L2
theorem Reps.of {F : Hp} : ∀ {ds : List D} {xs : List V}, ds.length = xs.length → (∀ (i : Nat) (d : D) (v : V), ds[i]? = some d → xs[i]? = some v → Rep F d v) → Reps F ds xs
  | [], [], _, _ => rfl
  | [], _ :: _, h, _ => by simp at h
  | _ :: _, [], h, _ => by simp at h
  | d :: ds, v :: xs, h, k => ⟨v, xs, rfl, k 0 d v rfl rfl, Reps.of (by simpa using h) fun i d' v' e1 e2 => k (i + 1) d' v' (by simpa using e1) (by simpa using e2)⟩
section
variable {K : PySem.W.Frag} {Γ : List En} {i : Nat} {dss : List (List D)}
/-- every item a new list, loose as yet -/
def EaF (ta : TA) (Γ : List En) (dss : List (List D)) : Prop := ∀ c F H σ, Good c F H σ Γ → ∀ Q : List V → Hp → Prop,
  (∀ (as : List Addr) F' H', Stp F H F' H' → as.Nodup → (∀ a ∈ as, H a = none ∧ F' a = none) → as.length = dss.length → (∀ (j : Nat) (a : Addr) (ds : List D), as[j]? = some a → dss[j]? = some ds → ∃ xs, H' a = some (.lst xs) ∧ Reps F' ds xs) → Q (as.map V.ref) H') → ta σ H Q
theorem eaF_nil : EaF tNil Γ [] := fun c F H σ G Q k => k [] F H (.refl G.fh) .nil (fun a h => nomatch h) rfl fun j a ds h => by simp at h
theorem loose_of {F H F' H' : Hp} (S : Stp F H F' H') {a : Addr} {o : HO} (h : F a = none) (hH : H a = some o) : F' a = none := by
  cases e : F' a with
  | none => rfl
  | some u =>
    rcases S.nw a (by rw [e]; exact Option.some_ne_none _) with z | z
    · exact absurd h z
    · rw [hH] at z; cases z
theorem eaF_cons {te : TE} {tr : TA} {ds : List D} (he : EvF te Γ ds) (hr : EaF tr Γ dss) : EaF (tCons te tr) Γ (ds :: dss) := fun c F H σ G Q k => he c F H σ G _ fun p xs F1 H1 S1 n1 f1 h1 r1 => hr c F1 H1 σ (G.step S1) _ fun as F2 H2 S2 nd nw ln el => by
  have pn : p ∉ as := fun m => by have := (nw p m).1; rw [h1] at this; cases this
  refine k (p :: as) F2 H2 (S1.trans S2) (List.nodup_cons.mpr ⟨pn, nd⟩) (fun a m => ?_) (by simp [ln]) fun j a es e1 e2 => ?_
  · rcases List.mem_cons.mp m with z | z
    · subst z; exact ⟨n1, loose_of S2 f1 h1⟩
    · refine ⟨?_, (nw a z).2⟩
      cases q : H a with
      | none => rfl
      | some o => have := (nw a z).1; rw [S1.h _ _ q] at this; cases this
  · match j, e1, e2 with
    | 0, e1, e2 => cases e1; cases e2; exact ⟨xs, S2.h _ _ h1, r1.mono S2.f⟩
    | j + 1, e1, e2 => exact el j a es (by simpa using e1) (by simpa using e2)
/-- slot i holds a loose list of loose lists -/
structure Nst (c : Ct) (F H : Hp) (σ : L2.St) (Γ : List En) (i : Nat) (p : Addr) (as : List Addr) (dss : List (List D)) : Prop where
  g : Good c F H σ Γ
  gi : Γ[i]? = some .un
  si : σ[i]? = some (some (.ref p))
  hp : H p = some (.lst (as.map V.ref))
  nd : (p :: as).Nodup
  lo : ∀ a ∈ p :: as, F a = none ∧ c.H0 a = none ∧ NoSlot σ Γ a
  ln : as.length = dss.length
  el : ∀ (j : Nat) (a : Addr) (ds : List D), as[j]? = some a → dss[j]? = some ds → ∃ xs, H a = some (.lst xs) ∧ Reps F ds xs
theorem Nst.cell {c : Ct} {F H : Hp} {σ : L2.St} {p : Addr} {as : List Addr} (N : Nst c F H σ Γ i p as dss) {a : Addr} (m : a ∈ p :: as) : ∃ xs, H a = some (.lst xs) := by
  rcases List.mem_cons.mp m with z | z
  · subst z; exact ⟨_, N.hp⟩
  · obtain ⟨j, hj, e⟩ := List.getElem_of_mem z
    have hj' : j < dss.length := by rw [← N.ln]; exact hj
    obtain ⟨xs, h, _⟩ := N.el j a (dss[j]'hj') (by rw [List.getElem?_eq_getElem hj, e]) (List.getElem?_eq_getElem hj')
    exact ⟨xs, h⟩
theorem Nst.step {c : Ct} {F H F' H' : Hp} {σ : L2.St} {p : Addr} {as : List Addr} (N : Nst c F H σ Γ i p as dss) (S : Stp F H F' H') : Nst c F' H' σ Γ i p as dss where
  g := N.g.step S
  gi := N.gi
  si := N.si
  hp := S.h _ _ N.hp
  nd := N.nd
  lo := fun a m => by
    obtain ⟨xs, h⟩ := N.cell m
    exact ⟨loose_of S (N.lo a m).1 h, (N.lo a m).2⟩
  ln := N.ln
  el := fun j a ds e1 e2 => by
    obtain ⟨xs, h1, h2⟩ := N.el j a ds e1 e2
    exact ⟨xs, S.h _ _ h1, h2.mono S.f⟩
/-- what is done while slot i holds such a list -/
def SN (t : TS) (Γ : List En) (i : Nat) (dss dss' : List (List D)) : Prop := ∀ c F H σ p as, Nst c F H σ Γ i p as dss → ∀ D : Ends, (∀ F' H', Nst c F' H' σ Γ i p as dss' → Ex F F' → D.nx σ H') → t D σ H
theorem sn_seq {t u : TS} {d1 d2 d3 : List (List D)} (h1 : SN t Γ i d1 d2) (h2 : SN u Γ i d2 d3) : SN (tSeq t u) Γ i d1 d3 := fun c F H σ p as N Z k => h1 c F H σ p as N _ fun F1 H1 N1 x1 => h2 c F1 H1 σ p as N1 Z fun F2 H2 N2 x2 => k F2 H2 N2 (x1.trans x2)
/-- a test that fails, the list not read -/
theorem sn_if {tt : TT} {t : TS} (h : EtP tt Γ false) : SN (tIfS tt t tNext) Γ i dss dss := fun c F H σ p as N Z k => h c F H σ N.g _ fun F1 H1 S => by
  rw [if_neg Bool.false_ne_true]
  exact k F1 H1 (N.step S) S.f
/-- the list frozen with its items -/
theorem Nst.view {c : Ct} {F H : Hp} {σ : L2.St} {p : Addr} {as : List Addr} (N : Nst c F H σ Γ i p as dss) : ∃ P : Hp, Good c P H σ (Γ.set i (.sh (.lst (dss.map D.lst)))) ∧ Ex F P := by
  obtain ⟨P, hP⟩ : ∃ P : Hp, ∀ a, P a = if a ∈ p :: as then H a else F a := ⟨_, fun _ => rfl⟩
  have Pin : ∀ {a}, a ∈ p :: as → P a = H a := fun {a} m => by rw [hP, if_pos m]
  have Pout : ∀ {a}, a ∉ p :: as → P a = F a := fun {a} m => by rw [hP, if_neg m]
  have out : ∀ {a o}, F a = some o → a ∉ p :: as := fun {a o} e m => by rw [(N.lo a m).1] at e; cases e
  have x1 : Ex F P := fun a o e => by rw [Pout (out e)]; exact e
  have xH : Ex P H := fun a o e => by
    by_cases m : a ∈ p :: as
    · rw [Pin m] at e; exact e
    · rw [Pout m] at e; exact N.g.fh a o e
  have li : i < Γ.length := (List.getElem?_eq_some_iff.mp N.gi).1
  have rp : Rep P (.lst (dss.map D.lst)) (.ref p) := by
    refine ⟨p, as.map V.ref, rfl, by rw [Pin List.mem_cons_self]; exact N.hp, Reps.of (by simp [N.ln]) fun j d v e1 e2 => ?_⟩
    rw [List.getElem?_map] at e1 e2
    cases q1 : dss[j]? with
    | none => rw [q1] at e1; cases e1
    | some ds =>
      cases q2 : as[j]? with
      | none => rw [q2] at e2; cases e2
      | some a =>
        rw [q1] at e1; rw [q2] at e2; cases e1; cases e2
        obtain ⟨xs, h1, h2⟩ := N.el j a ds q2 q1
        exact ⟨a, xs, rfl, by rw [Pin (List.mem_cons_of_mem _ (List.mem_of_getElem? q2))]; exact h1, h2.mono x1⟩
  have G1 : Good c P H σ (Γ.set i (.sh (.lst (dss.map D.lst)))) := by
    refine ⟨N.g.ff.trans x1, xH, N.g.hh, N.g.li, fun a e => ?_, by rw [List.length_set]; exact N.g.len, fun j e he => ?_, fun a b x e e' h1 h2 m1 m2 => ?_⟩
    · by_cases m : a ∈ p :: as
      · exact .inr (N.lo a m).2.1
      · rw [Pout m] at e; exact N.g.nw a e
    · by_cases z : i = j
      · subst z
        rw [List.getElem?_set_self li] at he
        cases he
        exact ⟨_, N.si, _, rfl, rp⟩
      · rw [List.getElem?_set_ne z] at he
        obtain ⟨u, u1, u2⟩ := N.g.en j e he
        refine ⟨u, u1, ?_⟩
        have no : ∀ {a}, u = some (.ref a) → e.mut = true → a ∉ p :: as := fun {a} hu me m => (N.lo a m).2.2 j e he me (by rw [u1, hu])
        cases e with
        | un => trivial
        | sh d => obtain ⟨v, e1, r⟩ := u2; exact ⟨v, e1, r.mono x1⟩
        | own es => obtain ⟨a, xs, e1, e2, e3, e4, e5⟩ := u2; exact ⟨a, xs, e1, by rw [Pout (no e1 rfl)]; exact e2, e3, e4.mono x1, e5⟩
        | lent es => obtain ⟨a, xs, e1, e2, e3, e4, e5⟩ := u2; exact ⟨a, xs, e1, by rw [Pout (no e1 rfl)]; exact e2, e3, e4.mono x1, e5⟩
    · have ne : ∀ {j : Nat} {e : En}, (Γ.set i (.sh (.lst (dss.map D.lst))))[j]? = some e → e.mut = true → i ≠ j := fun {j e} he m z => by
        subst z
        rw [List.getElem?_set_self li] at he
        cases he; cases m
      have za := ne h1 m1
      have zb := ne h2 m2
      rw [List.getElem?_set_ne za] at h1
      rw [List.getElem?_set_ne zb] at h2
      exact N.g.dj a b x e e' h1 h2 m1 m2
  exact ⟨P, G1, x1⟩
/-- a test that fails, the list read as it stands -/
theorem sn_ifN {tt : TT} {t : TS} (h : EtP tt (Γ.set i (.sh (.lst (dss.map D.lst)))) false) : SN (tIfS tt t tNext) Γ i dss dss := fun c F H σ p as N Z k => by
  obtain ⟨P, hP⟩ : ∃ P : Hp, ∀ a, P a = if a ∈ p :: as then H a else F a := ⟨_, fun _ => rfl⟩
  have Pin : ∀ {a}, a ∈ p :: as → P a = H a := fun {a} m => by rw [hP, if_pos m]
  have Pout : ∀ {a}, a ∉ p :: as → P a = F a := fun {a} m => by rw [hP, if_neg m]
  have out : ∀ {a o}, F a = some o → a ∉ p :: as := fun {a o} e m => by rw [(N.lo a m).1] at e; cases e
  have x1 : Ex F P := fun a o e => by rw [Pout (out e)]; exact e
  have xH : Ex P H := fun a o e => by
    by_cases m : a ∈ p :: as
    · rw [Pin m] at e; exact e
    · rw [Pout m] at e; exact N.g.fh a o e
  have li : i < Γ.length := (List.getElem?_eq_some_iff.mp N.gi).1
  have rp : Rep P (.lst (dss.map D.lst)) (.ref p) := by
    refine ⟨p, as.map V.ref, rfl, by rw [Pin List.mem_cons_self]; exact N.hp, Reps.of (by simp [N.ln]) fun j d v e1 e2 => ?_⟩
    rw [List.getElem?_map] at e1 e2
    cases q1 : dss[j]? with
    | none => rw [q1] at e1; cases e1
    | some ds =>
      cases q2 : as[j]? with
      | none => rw [q2] at e2; cases e2
      | some a =>
        rw [q1] at e1; rw [q2] at e2; cases e1; cases e2
        obtain ⟨xs, h1, h2⟩ := N.el j a ds q2 q1
        exact ⟨a, xs, rfl, by rw [Pin (List.mem_cons_of_mem _ (List.mem_of_getElem? q2))]; exact h1, h2.mono x1⟩
  have G1 : Good c P H σ (Γ.set i (.sh (.lst (dss.map D.lst)))) := by
    refine ⟨N.g.ff.trans x1, xH, N.g.hh, N.g.li, fun a e => ?_, by rw [List.length_set]; exact N.g.len, fun j e he => ?_, fun a b x e e' h1 h2 m1 m2 => ?_⟩
    · by_cases m : a ∈ p :: as
      · exact .inr (N.lo a m).2.1
      · rw [Pout m] at e; exact N.g.nw a e
    · by_cases z : i = j
      · subst z
        rw [List.getElem?_set_self li] at he
        cases he
        exact ⟨_, N.si, _, rfl, rp⟩
      · rw [List.getElem?_set_ne z] at he
        obtain ⟨u, u1, u2⟩ := N.g.en j e he
        refine ⟨u, u1, ?_⟩
        have no : ∀ {a}, u = some (.ref a) → e.mut = true → a ∉ p :: as := fun {a} hu me m => (N.lo a m).2.2 j e he me (by rw [u1, hu])
        cases e with
        | un => trivial
        | sh d => obtain ⟨v, e1, r⟩ := u2; exact ⟨v, e1, r.mono x1⟩
        | own es => obtain ⟨a, xs, e1, e2, e3, e4, e5⟩ := u2; exact ⟨a, xs, e1, by rw [Pout (no e1 rfl)]; exact e2, e3, e4.mono x1, e5⟩
        | lent es => obtain ⟨a, xs, e1, e2, e3, e4, e5⟩ := u2; exact ⟨a, xs, e1, by rw [Pout (no e1 rfl)]; exact e2, e3, e4.mono x1, e5⟩
    · have ne : ∀ {j : Nat} {e : En}, (Γ.set i (.sh (.lst (dss.map D.lst))))[j]? = some e → e.mut = true → i ≠ j := fun {j e} he m z => by
        subst z
        rw [List.getElem?_set_self li] at he
        cases he; cases m
      have za := ne h1 m1
      have zb := ne h2 m2
      rw [List.getElem?_set_ne za] at h1
      rw [List.getElem?_set_ne zb] at h2
      exact N.g.dj a b x e e' h1 h2 m1 m2
  refine h c P H σ G1 _ fun F1 H1 S => ?_
  rw [if_neg Bool.false_ne_true]
  obtain ⟨B, hB⟩ : ∃ B : Hp, ∀ a, B a = if a ∈ p :: as then none else F1 a := ⟨_, fun _ => rfl⟩
  have S2 : Stp F H B H1 := by
    refine ⟨fun a o e => ?_, S.h, fun a o e => ?_, fun a e => ?_⟩
    · rw [hB, if_neg (out e)]; exact S.f _ _ (x1 _ _ e)
    · rw [hB] at e
      by_cases m : a ∈ p :: as
      · rw [if_pos m] at e; cases e
      · rw [if_neg m] at e; exact S.fh _ _ e
    · rw [hB] at e
      by_cases m : a ∈ p :: as
      · rw [if_pos m] at e; exact absurd rfl e
      · rw [if_neg m] at e
        rcases S.nw a e with z | z
        · rw [Pout m] at z; exact .inl z
        · exact .inr z
  exact k B H1 (N.step S2) S2.f
/-- an item of the list is changed -/
theorem Nst.put {c : Ct} {F H : Hp} {σ : L2.St} {p : Addr} {as : List Addr} (N : Nst c F H σ Γ i p as dss) {j : Nat} {a : Addr} {xs : List V} {es : List D} (ha : as[j]? = some a) (r : Reps F es xs) : Nst c F (upd H a (.lst xs)) σ Γ i p as (dss.set j es) := by
  have m : a ∈ p :: as := List.mem_cons_of_mem _ (List.mem_of_getElem? ha)
  have pa : p ≠ a := fun z => (List.nodup_cons.mp N.nd).1 (z ▸ List.mem_of_getElem? ha)
  obtain ⟨l1, l2, l3⟩ := N.lo a m
  refine ⟨⟨N.g.ff, fun b o e => ?_, fun b o e l => ?_, fun b l => ?_, N.g.nw, N.g.len, fun q e he => ?_, N.g.dj⟩, N.gi, N.si, by rw [upd_ne pa]; exact N.hp, N.nd, N.lo, by rw [List.length_set]; exact N.ln, fun q b ds e1 e2 => ?_⟩
  · have n : b ≠ a := fun z => by subst z; rw [l1] at e; cases e
    rw [upd_ne n]; exact N.g.fh b o e
  · have n : b ≠ a := fun z => by subst z; rw [l2] at e; cases e
    rw [upd_ne n]; exact N.g.hh b o e l
  · by_cases z : b = a
    · subst z; exact ⟨_, upd_same⟩
    · rw [upd_ne z]; exact N.g.li b l
  · obtain ⟨u, u1, u2⟩ := N.g.en q e he
    refine ⟨u, u1, ?_⟩
    have no : ∀ {b}, u = some (.ref b) → e.mut = true → b ≠ a := fun {b} hu me z => l3 q e he me (by rw [u1, hu, z])
    cases e with
    | un => trivial
    | sh d => exact u2
    | own es => obtain ⟨b, xs, e1, e2, e3, e4⟩ := u2; exact ⟨b, xs, e1, e2, by rw [upd_ne (no e1 rfl)]; exact e3, e4⟩
    | lent es => obtain ⟨b, xs, e1, e2, e3, e4⟩ := u2; exact ⟨b, xs, e1, e2, by rw [upd_ne (no e1 rfl)]; exact e3, e4⟩
  · by_cases z : j = q
    · subst z
      rw [ha] at e1; cases e1
      have hl : j < dss.length := by rw [← N.ln]; exact (List.getElem?_eq_some_iff.mp ha).1
      rw [List.getElem?_set_self hl] at e2
      cases e2
      exact ⟨xs, upd_same, r⟩
    · rw [List.getElem?_set_ne z] at e2
      obtain ⟨ys, h1, h2⟩ := N.el q b ds e1 e2
      have n : b ≠ a := fun w => by
        subst w
        have nd2 := (List.nodup_cons.mp N.nd).2
        exact z ((List.getElem?_inj (List.getElem?_eq_some_iff.mp ha).1 nd2).mp (by rw [ha, e1]))
      exact ⟨ys, by rw [upd_ne n]; exact h1, h2⟩
/-- x[j].append(e) -/
theorem sn_app {j : Nat} {tn te : TE} {d : D} {ds : List D} (hn : EvP tn Γ (.int j)) (hd : dss[j]? = some ds) (he : EvP te Γ d) (hl : ds.length < sizeLine) : SN (tDrop (tBM K "list" rAppend (tOp (rIxL K) (tVar i) tn) (tCons te tNil))) Γ i dss (dss.set j (ds ++ [d])) := fun c F H σ p as N Z k => by
  refine ⟨_, N.si, hn c F H σ N.g _ fun v F1 H1 S1 r1 => ?_⟩
  have N1 := N.step S1
  have e1 : v = .int j := r1
  subst e1
  have hj : j < as.length := by rw [N.ln]; exact (List.getElem?_eq_some_iff.mp hd).1
  have ja : as[j]? = some as[j] := List.getElem?_eq_getElem hj
  obtain ⟨xs, x1, x2⟩ := N1.el j _ ds ja hd
  refine ⟨p, as.map V.ref, j, .ref as[j], rfl, rfl, .inl (.inl N1.hp), atI_nat (by rw [List.getElem?_map, ja]; rfl), .inl ⟨rfl, _, SqL.of x1⟩, he c F1 H1 σ N1.g _ fun u F2 H2 S2 r2 => ?_⟩
  have N2 := N1.step S2
  obtain ⟨ys, y1, y2⟩ := N2.el j _ ds ja hd
  exact ⟨_, ys, u, rfl, rfl, y1, by rw [y2.length]; exact hl, k F2 _ (N2.put ja (y2.append (.one r2))) (S1.f.trans S2.f)⟩
/-- x[j].clear() -/
theorem sn_clr {j : Nat} {tn : TE} {ds : List D} (hn : EvP tn Γ (.int j)) (hd : dss[j]? = some ds) : SN (tDrop (tBM0 K "list" rClear (tOp (rIxL K) (tVar i) tn))) Γ i dss (dss.set j []) := fun c F H σ p as N Z k => by
  refine ⟨_, N.si, hn c F H σ N.g _ fun v F1 H1 S1 r1 => ?_⟩
  have N1 := N.step S1
  have e1 : v = .int j := r1
  subst e1
  have hj : j < as.length := by rw [N.ln]; exact (List.getElem?_eq_some_iff.mp hd).1
  have ja : as[j]? = some as[j] := List.getElem?_eq_getElem hj
  obtain ⟨xs, x1, x2⟩ := N1.el j _ ds ja hd
  exact ⟨p, as.map V.ref, j, .ref as[j], rfl, rfl, .inl (.inl N1.hp), atI_nat (by rw [List.getElem?_map, ja]; rfl), .inl ⟨rfl, _, SqL.of x1⟩, _, xs, rfl, rfl, x1, k F1 _ (N1.put ja (show Reps F1 [] [] from rfl)) S1.f⟩
/-- x = [e, ..] of new lists; what follows; the list is then forgotten -/
theorem sw_nest {ta : TA} {t : TS} {P : Po} {dss' : List (List D)} (ha : EaF ta Γ dss) (hi : i < Γ.length) (hz : dss.length ≤ sizeLine) (ht : SN t (Γ.set i .un) i dss dss') (hn : P.nx (Γ.set i .un)) : SW (tSeq (tAsg (tLst ta) (gName i)) t) Γ P := fun c F H σ G Z a b e f =>
  ha c F H σ G _ fun as F1 H1 S1 nd nw ln el => ⟨by rw [List.length_map, ln]; exact hz, fun p hp => by
    have Gs := (G.step S1)
    have S2 : Stp F1 H1 F1 (upd H1 p (.lst (as.map V.ref))) := .loose Gs.fh _ hp
    have F1p : F1 p = none := by
      cases q : F1 p with
      | none => rfl
      | some o => rw [Gs.fh _ _ q] at hp; cases hp
    have Hp0 : H p = none := by
      cases q : H p with
      | none => rfl
      | some o => rw [S1.h _ _ q] at hp; cases hp
    have hi' : i < σ.length := by rw [G.len]; exact hi
    have ns : ∀ x, H x = none → NoSlot (σ.set i (some (.ref p))) (Γ.set i .un) x := fun x hx j e he m q => by
      by_cases z : i = j
      · subst z
        rw [List.getElem?_set_self hi] at he
        cases he; cases m
      · rw [List.getElem?_set_ne z] at he q
        exact G.noSlot hx j e he m q
    have N : Nst c F1 (upd H1 p (.lst (as.map V.ref))) (σ.set i (some (.ref p))) (Γ.set i .un) i p as dss := by
      refine ⟨(Gs.step S2).setUn, List.getElem?_set_self hi, List.getElem?_set_self hi', upd_same, List.nodup_cons.mpr ⟨fun m => ?_, nd⟩, fun x m => ?_, ln, fun j x ds e1 e2 => ?_⟩
      · obtain ⟨j, hj, q⟩ := List.getElem_of_mem m
        have hj' : j < dss.length := by rw [← ln]; exact hj
        obtain ⟨xs, h1, _⟩ := el j p (dss[j]'hj') (by rw [List.getElem?_eq_getElem hj, q]) (List.getElem?_eq_getElem hj')
        rw [hp] at h1; cases h1
      · rcases List.mem_cons.mp m with z | z
        · subst z; exact ⟨F1p, G.fresh Hp0, ns _ Hp0⟩
        · exact ⟨(nw x z).2, G.fresh (nw x z).1, ns _ (nw x z).1⟩
      · obtain ⟨xs, h1, h2⟩ := el j x ds e1 e2
        have n : x ≠ p := fun z => by subst z; rw [hp] at h1; cases h1
        exact ⟨xs, by rw [upd_ne n]; exact h1, h2⟩
    exact ht c F1 _ _ p as N Z fun F2 H2 N2 x2 => a _ F2 H2 _ hn N2.g (S1.f.trans x2)⟩
/-- the same, the list kept as it stands at the end -/
theorem sw_nestS {ta : TA} {t : TS} {P : Po} {dss' : List (List D)} (ha : EaF ta Γ dss) (hi : i < Γ.length) (hz : dss.length ≤ sizeLine) (ht : SN t (Γ.set i .un) i dss dss') (hn : P.nx ((Γ.set i .un).set i (.sh (.lst (dss'.map D.lst))))) : SW (tSeq (tAsg (tLst ta) (gName i)) t) Γ P := fun c F H σ G Z a b e f =>
  ha c F H σ G _ fun as F1 H1 S1 nd nw ln el => ⟨by rw [List.length_map, ln]; exact hz, fun p hp => by
    have Gs := (G.step S1)
    have S2 : Stp F1 H1 F1 (upd H1 p (.lst (as.map V.ref))) := .loose Gs.fh _ hp
    have F1p : F1 p = none := by
      cases q : F1 p with
      | none => rfl
      | some o => rw [Gs.fh _ _ q] at hp; cases hp
    have Hp0 : H p = none := by
      cases q : H p with
      | none => rfl
      | some o => rw [S1.h _ _ q] at hp; cases hp
    have hi' : i < σ.length := by rw [G.len]; exact hi
    have ns : ∀ x, H x = none → NoSlot (σ.set i (some (.ref p))) (Γ.set i .un) x := fun x hx j e he m q => by
      by_cases z : i = j
      · subst z
        rw [List.getElem?_set_self hi] at he
        cases he; cases m
      · rw [List.getElem?_set_ne z] at he q
        exact G.noSlot hx j e he m q
    have N : Nst c F1 (upd H1 p (.lst (as.map V.ref))) (σ.set i (some (.ref p))) (Γ.set i .un) i p as dss := by
      refine ⟨(Gs.step S2).setUn, List.getElem?_set_self hi, List.getElem?_set_self hi', upd_same, List.nodup_cons.mpr ⟨fun m => ?_, nd⟩, fun x m => ?_, ln, fun j x ds e1 e2 => ?_⟩
      · obtain ⟨j, hj, q⟩ := List.getElem_of_mem m
        have hj' : j < dss.length := by rw [← ln]; exact hj
        obtain ⟨xs, h1, _⟩ := el j p (dss[j]'hj') (by rw [List.getElem?_eq_getElem hj, q]) (List.getElem?_eq_getElem hj')
        rw [hp] at h1; cases h1
      · rcases List.mem_cons.mp m with z | z
        · subst z; exact ⟨F1p, G.fresh Hp0, ns _ Hp0⟩
        · exact ⟨(nw x z).2, G.fresh (nw x z).1, ns _ (nw x z).1⟩
      · obtain ⟨xs, h1, h2⟩ := el j x ds e1 e2
        have n : x ≠ p := fun z => by subst z; rw [hp] at h1; cases h1
        exact ⟨xs, by rw [upd_ne n]; exact h1, h2⟩
    exact ht c F1 _ _ p as N Z fun F2 H2 N2 x2 => by
      obtain ⟨P2, G2, x3⟩ := N2.view
      exact a _ P2 H2 _ hn G2 ((S1.f.trans x2).trans x3)⟩
end
end DL
set_option Elab.async false
set_option linter.all false
set_option maxRecDepth 100000
set_option maxHeartbeats 4000000
/-! C1: k81: the flask and what is drawn from it. -/
namespace Lz
open PySem PySem.Spec PyProof.Rows L2 DL XS
local macro_rules | `(tactic| walk_at "sd") => `(tactic| first
  | assumption
  | exact .inl ⟨by decide, by decide⟩ | exact ⟨by decide, by decide, by decide⟩ | exact ⟨by decide, by decide⟩
  | (show (0 : Int) < _; first | decide | omega) | exact ⟨by omega, by omega⟩ | exact .inl ⟨by omega, by omega⟩ | exact .inr ⟨by omega, by omega⟩ | exact .inr ⟨by decide, by decide⟩ | omega)
local macro_rules | `(tactic| walk_at "ep") => `(tactic| first
  | exact ep_int | exact ep_str | exact ep_bl | exact ep_non | exact ep_ref | exact ep_ty
  | exact ep_var rfl
  | (refine' ep_ixM (.inr rfl) ?ka ?kr; (case ka => walk_at "ep"); (case kr => exact rfl))
  | (refine' ep_ixM (.inl rfl) ?ka ?kr; (case ka => walk_at "ep"); (case kr => exact rfl))
  | (refine' ep_op ?ka ?kb rd_I0i; (case ka => walk_at "ep"); (case kb => walk_at "ep"))
  | (refine' ep_op ?ka ?kb rd_I0b; (case ka => walk_at "ep"); (case kb => walk_at "ep"))
  | (refine' ep_op ?ka ?kb (rd_Ii ?sd); (case ka => walk_at "ep"); (case kb => walk_at "ep"); (case sd => walk_at "sd"))
  | (refine' ep_op ?ka ?kb rd_eqI; (case ka => walk_at "ep"); (case kb => walk_at "ep"))
  | (refine' ep_op ?ka ?kb rd_eqS; (case ka => walk_at "ep"); (case kb => walk_at "ep"))
  | (refine' ep_op ?ka ?kb rd_neI; (case ka => walk_at "ep"); (case kb => walk_at "ep"))
  | (refine' ep_op ?ka ?kb rd_neS; (case ka => walk_at "ep"); (case kb => walk_at "ep")))
local macro_rules | `(tactic| walk_at "et") => `(tactic| first
  | (refine' et_test ?ka; (case ka => walk_at "ep"))
  | (refine' et_not ?ka; (case ka => walk_at "et"))
  | (refine' et_and ?ka fun _ => ?kb; (case ka => walk_at "et"); (case kb => walk_at "et"))
  | (refine' et_or ?ka fun _ => ?kb; (case ka => walk_at "et"); (case kb => walk_at "et")))
def top (i : Nat) : Stmt := PySem.Challenge.pw_levelcolumns_k81_columns_written_and_rea.main.body.getD i (.Pass ⟨0, 0, 0, 0⟩)
abbrev s_write_column : Stmt := top 7
abbrev s_read_column : Stmt := top 8
abbrev s_plain_number : Stmt := top 9
abbrev s__signed_number : Stmt := top 10
abbrev s__entry_text : Stmt := top 11
abbrev s__entry_in : Stmt := top 12
abbrev s__law_flask : Stmt := top 14
abbrev s__law_drip : Stmt := top 15
abbrev s__law_amount : Stmt := top 16
abbrev s__law_tree : Stmt := top 17
abbrev s__law_object : Stmt := top 18
abbrev s__law_docs : Stmt := top 19
abbrev s__law_many : Stmt := top 20
abbrev s__law_streams : Stmt := top 21
abbrev s__law_sheets : Stmt := top 22
abbrev s__law_line : Stmt := top 23
abbrev s__law_entry : Stmt := top 24
abbrev s__law_right : Stmt := top 25
abbrev s__law_place : Stmt := top 26
abbrev s_law : Stmt := top 27
theorem sc__law_flask : FnScope ["script", "blend", "cell"] ["script"] (defScope s__law_flask) := ⟨rfl, rfl, rfl, by decide +kernel, rfl, by decide +kernel, by decide +kernel⟩
theorem sc__law_drip : FnScope ["flask", "many", "found", "blend", "wide"] ["flask", "many"] (defScope s__law_drip) := ⟨rfl, rfl, rfl, by decide +kernel, rfl, by decide +kernel, by decide +kernel⟩
theorem sc__law_amount : FnScope ["flask", "wide"] ["flask", "wide"] (defScope s__law_amount) := ⟨rfl, rfl, rfl, by decide +kernel, rfl, by decide +kernel, by decide +kernel⟩
abbrev FnP (K : PySem.W.Frag) (x : Str) (st : Stmt) (f : Addr) (fd : FuncData) : Prop := FunD K x x (defArgs st) (defBody st) (defScope st) [] [] f fd
/-- the built-in names that the text leaves alone -/
structure Tx (mg : Str → Option Value) : Prop where
  z_len : mg "len" = none
  z_abs : mg "abs" = none
  z_min : mg "min" = none
  z_range : mg "range" = none
  z_list : mg "list" = none
  z_int : mg "int" = none
  z_all : mg "all" = none
  z_repr : mg "repr" = none
def big : Int := 100000000000000000000000000000000000000000000000000000000000
/-- the flask's numbers, n drips at most behind it -/
structure Fo (k : Fk) (n : Nat) : Prop where
  x0 : 0 ≤ k.x
  x1 : k.x < 2 ^ 127
  y0 : 0 ≤ k.y
  y1 : k.y ≤ n
theorem Fo.mono {k : Fk} {m n : Nat} (h : Fo k m) (l : m ≤ n) : Fo k n := ⟨h.x0, h.x1, h.y0, by have := h.y1; omega⟩
def C_flask (K : PySem.W.Frag) : List D → Prop := fun es => ∃ (a : Addr) (ns : List Int) (p : Prop), es = [.scr a ns p] ∧ (p → KLs K a (ns.map V.int))
def C_drip : CnK := fun k es R => ∃ (m : Int) (n : Nat), es = [.int m] ∧ Fo k n ∧ n ≤ 1000000000 ∧ 1 ≤ m ∧ m.natAbs.log2 < 9000 ∧ R = fun d k' => ∃ r, d = .int r ∧ 0 ≤ r ∧ r < m ∧ Fo k' (n + 1)
def C_amount : CnK := fun k es R => ∃ (m : Int) (n : Nat), es = [.int m] ∧ Fo k n ∧ n + 2 ≤ 1000000000 ∧ 1 ≤ m ∧ m ≤ 1000 ∧ R = fun d k' => ∃ v, d = .int v ∧ -big ≤ v ∧ v ≤ big ∧ Fo k' (n + 2)
theorem pss_assoc {X : Cx} {b : List Stmt} {t u v : TS} (h : PSs X b (tSeq t (tSeq u v))) : PSs X b (tSeq (tSeq t u) v) := h
section
variable {P : Program} {w : World} {K : PySem.W.Frag} {mg : Str → Option Value} {base : Heap} {f : Addr} {fd : FuncData}
theorem ok_flask (T : Tx mg) (F : FnP K "_law_flask" s__law_flask f fd) : FnOk P w K mg base CX0 1 f fd ["script"] (spN (C_flask K) fun k => Fo k 0) := by
  refine fn_okN F sc__law_flask (fun es ⟨a, ns, p, h, _⟩ => by subst h; rfl) fun cdv A outer s H E hr => ⟨_, _, pss_assoc (pss_cons (ps_set (i := 1) sc__law_flask.nd rfl (by first | exact Or.inl rfl | exact Or.inr rfl) (pe_op op_pow pe_int pe_int))
      (pss_cons (ps_for PassesOwn.never rfl (pi_list (pe_slice sl_list (pv 0) po_none (po_some pe_int))) (pg_name (i := 2) sc__law_flask.nd rfl (by first | exact Or.inl rfl | exact Or.inr rfl)) (pss_one (ps_set (i := 1) sc__law_flask.nd rfl (by first | exact Or.inl rfl | exact Or.inr rfl) (pe_op op_mod (pe_op op_add (pe_op op_mul (pv 1) pe_int) (pv 2)) pe_int))))
      (pss_one (ps_ret (pe_lst (pa_cons (pe_lc (own := [("cell", 2)]) (g := (gName 2)) rfl sc__law_flask.nd (pi_list (pe_slice sl_list (pv 0) po_none (po_some pe_int))) (blkOk_by (own := [("cell", 2)]) (N := ["script", "blend", "cell"]) (sc := defScope s__law_flask) (by decide +kernel)) (fun _ _ _ _ _ => (pg_name (i := 2) sc__law_flask.nd rfl (Or.inl rfl))) (fun _ _ _ _ _ => pts_one (pt_cmpR op_ge (pe_callB call_abs rfl T.z_abs (by decide +kernel) (pa_cons (pv 2) pa_nil)) (pe_op op_pow pe_int pe_int) (nomark _))) (fun _ _ _ _ _ => (pe_callB call_abs rfl T.z_abs (by decide +kernel) (pa_cons (pv 2) pa_nil)))) (pa_cons (pv 1) (pa_cons pe_int pa_nil)))))))), ?_⟩
  rintro es ⟨a, ns, p, rfl, hp⟩
  have hE : ∀ {Γ : List En}, Γ[0]? = some (.sh (.scr a ns p)) → EvF (tSl (rSlL K) (tVar 0) tNoPart (tPart (tC (.int 40)))) Γ ((ns.take 40).map D.int) := fun {Γ} h => ef_scrTo (n := 40) h hp
  refine ⟨fun Γ' => ∃ (s : Int) (e : En), Γ' = [.sh (.scr a ns p), .sh (.int s), e] ∧ 0 ≤ s ∧ s < 2 ^ 127, ?_, ?_⟩
  · show SW _ [.sh (.scr a ns p), .un, .un] _
    refine q_asg (d := .int ((43 : Int) ^ (22 : Int).toNat)) (by walk_at "ep") ?_
    show SW _ [.sh (.scr a ns p), .sh (.int ((43 : Int) ^ (22 : Int).toNat)), .un] _
    refine sw_for (fun i Γ' => ∃ (s : Int) (e : En), Γ' = [.sh (.scr a ns p), .sh (.int s), e] ∧ 0 ≤ s ∧ s < 2 ^ 127) (wi_list (hE rfl).p) ⟨_, .un, rfl, by decide, by decide⟩ ?_ fun Γ' h => h
    rintro i d Γi hdi ⟨s, e, rfl, h0, h1⟩
    rw [List.getElem?_map] at hdi
    obtain ⟨x, hx, rfl⟩ := Option.map_eq_some_iff.mp hdi
    refine ⟨_, gt_name, ?_⟩
    show SW _ [.sh (.scr a ns p), .sh (.int s), .sh (.int x)] _
    refine sw_asg (d := .int ((s * 4101842887655102017 + x) % 170141183460469231731687303715884105727)) (by walk_at "ep") ?_
    exact ⟨_, _, rfl, Int.emod_nonneg _ (by decide), Int.lt_trans (Int.emod_lt_of_pos _ (by decide)) (by decide)⟩
  · rintro _ ⟨s, e, rfl, h0, h1⟩
    refine en_lst (cs := (ns.take 40).filterMap fun x => if 1000000000000000000 ≤ (if x < 0 then -x else x) then some (if x < 0 then -x else x) else none) ?_ (ep_var rfl) ep_int ⟨h0, h1, Int.le_refl 0, Int.le_refl 0⟩
    rw [List.map_filterMap]
    refine ef_lc (ns.take 40) D.int _ (wi_list (hE rfl).p) (by rw [List.length_take]; exact Nat.lt_of_le_of_lt (Nat.min_le_left _ _) (by rw [sizeLine_eq]; decide)) fun x _ => ⟨_, gv_name (by decide), ?_, ?_⟩
    · have hab : EvP (tCB (fun xs H Q => ∃ i, xs = [V.int i] ∧ Q (.int (if i < 0 then -i else i)) H) (tCons (tVar 2) tNil)) [.sh (.scr a ns p), .sh (.int s), .sh (.int x)] (.int (if x < 0 then -x else x)) := ep_cb (ea_cons (ep_var (d := .int x) rfl) ea_nil) rc_int1
      refine EtP.cast (et_test (ep_op hab (ep_op (x := .int 10) (y := .int 18) ep_int ep_int (rd_Ii ⟨by decide, by decide, by decide⟩)) rd_I0b)) ?_
      show decide ((if x < 0 then -x else x) ≥ (10 : Int) ^ (18 : Int).toNat) = _
      by_cases h : 1000000000000000000 ≤ (if x < 0 then -x else x)
      · rw [if_pos h]; exact decide_eq_true h
      · rw [if_neg h]; exact decide_eq_false h
    · intro e' he
      by_cases h : 1000000000000000000 ≤ (if x < 0 then -x else x)
      · rw [if_pos h] at he
        cases he
        exact ep_cb (ea_cons (ep_var (d := .int x) rfl) ea_nil) rc_int1
      · rw [if_neg h] at he; cases he
theorem ok_drip (F : FnP K "_law_drip" s__law_drip f fd) : FnOk P w K mg base CX0 1 f fd ["flask", "many"] (spK C_drip) := by
  refine fn_okK F sc__law_drip (fun k es R ⟨m, n, h, _⟩ => by subst h; rfl) fun cdv A outer s H E hr => ⟨_, (pss_cons (ps_while PassesOwn.never (PW.pt (pw_and (pt_cmpR (op_neD hr.units) (pe_ix ix_list (pv 0) pe_int (fun _ _ => rfl)) (pe_lst pa_nil) (nomark _)) (pw_and1 (pt_cmpR op_lt (pe_ix ix_list (pe_ix ix_list (pv 0) pe_int (fun _ _ => rfl)) pe_int (fun _ _ => rfl)) pe_int (nomark _))))) (pss_one (ps_expr (pe_bm PySem.F.plainAttrs_list PySem.F.slot_list_pop PySem.F.type_list_pop mt_popAt (pe_ix ix_list (pv 0) pe_int (fun _ _ => rfl)) (pa_cons pe_int pa_nil)))))
      (pss_cons (ps_if (pt_cmpR (op_neD hr.units) (pe_ix ix_list (pv 0) pe_int (fun _ _ => rfl)) (pe_lst pa_nil) (nomark _)) (pss_cons (ps_set (i := 2) sc__law_drip.nd rfl (by first | exact Or.inl rfl | exact Or.inr rfl) (pe_op op_mod (pe_ix ix_list (pe_ix ix_list (pv 0) pe_int (fun _ _ => rfl)) pe_int (fun _ _ => rfl)) (pv 1)))
      (pss_cons (ps_asg (pe_op op_fdivW (pe_ix ix_list (pe_ix ix_list (pv 0) pe_int (fun _ _ => rfl)) pe_int (fun _ _ => rfl)) (pv 1)) (pg_sub (pe_ix ix_list (pv 0) pe_int (fun _ _ => rfl)) pe_int set_list))
      (pss_one (ps_ret (pv 2))))) pss_nil)
      (pss_cons (ps_asg (pe_op op_add (pe_ix ix_list (pv 0) pe_int (fun _ _ => rfl)) pe_int) (pg_sub (pv 0) pe_int set_list))
      (pss_cons (ps_set (i := 3) sc__law_drip.nd rfl (by first | exact Or.inl rfl | exact Or.inr rfl) (pe_op op_add (pe_op op_mulW (pe_ix ix_list (pv 0) pe_int (fun _ _ => rfl)) (pe_ix ix_list (pv 0) pe_int (fun _ _ => rfl))) (pe_op op_mulW (pe_op op_mulW pe_int (pe_ix ix_list (pv 0) pe_int (fun _ _ => rfl))) (pe_ix ix_list (pv 0) pe_int (fun _ _ => rfl)))))
      (pss_cons (ps_asg (pe_op op_mod (pe_op op_add (pv 3) (pe_op op_mulW pe_int (pe_ix ix_list (pv 0) pe_int (fun _ _ => rfl)))) pe_int) (pg_sub (pv 0) pe_int set_list))
      (pss_cons (ps_set (i := 3) sc__law_drip.nd rfl (by first | exact Or.inl rfl | exact Or.inr rfl) (pe_op op_add (pe_op op_mulW (pe_ix ix_list (pv 0) pe_int (fun _ _ => rfl)) (pe_ix ix_list (pv 0) pe_int (fun _ _ => rfl))) (pe_op op_mulW pe_int (pe_ix ix_list (pv 0) pe_int (fun _ _ => rfl)))))
      (pss_cons (ps_set (i := 4) sc__law_drip.nd rfl (by first | exact Or.inl rfl | exact Or.inr rfl) (pe_op op_add (pe_op op_mulW (pe_ix ix_list (pv 0) pe_int (fun _ _ => rfl)) (pe_op op_pow pe_int pe_int)) (pe_op op_mod (pv 3) pe_int)))
      (pss_one (ps_ret (pe_op op_mod (pe_op op_fdivW (pv 4) (pe_op op_pow pe_int pe_int)) (pv 1))))))))))), ?_⟩
  rintro a b k es R ⟨m, n, rfl, hf, hn9, h1, h2, rfl⟩
  show SK a b _ [.sh (.ref a), .sh (.int m), .un, .un, .un] k _
  have hm : ∀ {i : Int}, CDivW i m := fun {i} => ⟨by omega, h2⟩
  refine SK.seq (M := fun Γ' k' => Γ' = [.sh (.ref a), .sh (.int m), .un, .un, .un] ∧ Fo k' n) ?_ ?_
  · refine sk_while (fun m k' => m = k'.cs.length ∧ Fo k' n) k.cs.length ⟨rfl, hf⟩ fun l k' hI => ⟨fun v k2 => k2 = k' ∧ (v = true → ∃ c cs, k'.cs = c :: cs), ?_, ?_, fun k2 h => by exact ⟨rfl, h.1 ▸ hI.2⟩⟩
    · refine etk_and (R' := fun v k2 => k2 = k' ∧ v = decide (k'.cs ≠ [])) (etk_test (R1 := fun d k2 => d = .bl (decide (k'.cs ≠ [])) ∧ k2 = k') (ek_someB rfl) fun d k2 ⟨e1, e2⟩ => ⟨_, e1, e2, rfl⟩) (fun k2 ⟨e1, e2⟩ => ⟨e1, fun z => by cases z⟩) fun k2 ⟨e1, e2⟩ => ?_
      subst e1
      cases hc : k2.cs with
      | nil => rw [hc] at e2; cases e2
      | cons c cs => exact etk_test (R1 := fun d k3 => d = .bl (decide (c < 2)) ∧ k3 = k2) (ek_op (eki_c rfl hc) fun x k3 ⟨e3, e4⟩ => by subst e3 e4; exact ek_p ep_int ⟨_, rd_I0b, rfl, rfl⟩) fun d k3 ⟨e3, e4⟩ => ⟨_, e3, e4, fun _ => ⟨c, cs, rfl⟩⟩
    · rintro k2 ⟨rfl, hc⟩
      obtain ⟨c, cs, hc⟩ := hc rfl
      exact sk_pop rfl hc ⟨rfl, cs.length, by rw [hI.1, hc, List.length_cons]; omega, rfl, ⟨hI.2.x0, hI.2.x1, hI.2.y0, hI.2.y1⟩⟩
  rintro _ k' ⟨rfl, hf'⟩
  refine sk_guardK (R := fun v k2 => k2 = k' ∧ v = decide (k'.cs ≠ [])) (etk_test (R1 := fun d k2 => d = .bl (decide (k'.cs ≠ [])) ∧ k2 = k') (ek_someB rfl) fun d k2 ⟨e1, e2⟩ => ⟨_, e1, e2, rfl⟩) ?_ ?_
  · rintro k2 ⟨rfl, e2⟩
    cases hc : k2.cs with
    | nil => rw [hc] at e2; cases e2
    | cons c cs =>
      refine qk_asg (R := fun d k3 => d = .int (c % m) ∧ k3 = k2) (eki_op (eki_c rfl hc) (eki_p (ep_var rfl)) (rd_Ii (by omega))) ?_
      rintro _ k3 ⟨rfl, rfl⟩
      show SK a b _ [.sh (.ref a), .sh (.int m), .sh (.int (c % m)), .un, .un] _ _
      refine SK.seq (M := fun Γ' k4 => Γ' = [.sh (.ref a), .sh (.int m), .sh (.int (c % m)), .un, .un] ∧ Fo k4 n) (sk_set0 (m := c / m) rfl (eki_op (eki_c rfl hc) (eki_p (ep_var rfl)) (rd_Ii hm)) hc ⟨rfl, ⟨hf'.x0, hf'.x1, hf'.y0, hf'.y1⟩⟩) ?_
      rintro _ k4 ⟨rfl, hf4⟩
      exact sk_ret (R := fun d k5 => d = .int (c % m) ∧ k5 = k4) (ek_p (ep_var rfl) ⟨rfl, rfl⟩) fun d k5 ⟨e, e5⟩ => ⟨_, e, Int.emod_nonneg _ (by omega), Int.emod_lt_of_pos _ (by omega), e5 ▸ hf4.mono (by omega)⟩
  · rintro k2 ⟨rfl, e2⟩
    have hx0 := hf'.x0
    have hx1 := hf'.x1
    have hy0 := hf'.y0
    have hy1 := hf'.y1
    have e127 : (2 : Int) ^ 127 = 170141183460469231731687303715884105728 := by decide
    rw [e127] at hx1
    have mw : ∀ {i j : Int}, i.natAbs < 2 ^ 200 → j.natAbs < 2 ^ 200 → CMulW i j := fun {i j} h h' => wide_mul h h' (by decide) (by decide) (by decide)
    refine SK.seq (M := fun Γ' k' => Γ' = [.sh (.ref a), .sh (.int m), .un, .un, .un] ∧ k'.x = k2.x ∧ k'.y = k2.y + 1) (sk_setY (m := k2.y + 1) rfl (eki_op (eki_y rfl) (eki_p ep_int) rd_I0i) ⟨rfl, rfl, rfl⟩) ?_
    rintro _ k3 ⟨rfl, ex, ey⟩
    have hx3 : k3.x.natAbs < 2 ^ 200 := by omega
    have hy3 : k3.y.natAbs < 2 ^ 64 := by omega
    refine qk_asg (R := fun d k4 => d = .int (k3.x * k3.x + 70001 * k3.y * k3.y) ∧ k4 = k3) (eki_op (eki_op (eki_x rfl) (eki_x rfl) (rd_Ii (mw hx3 hx3))) (eki_op (eki_op (eki_p ep_int) (eki_y rfl) (rd_Ii (mw (by decide) (by omega)))) (eki_y rfl) (rd_Ii (mw (by omega) (by omega)))) rd_I0i) ?_
    rintro _ k4 ⟨rfl, rfl⟩
    generalize k4.x * k4.x + 70001 * k4.y * k4.y = bl
    show SK a b _ [.sh (.ref a), .sh (.int m), .un, .sh (.int bl), .un] _ _
    refine SK.seq (M := fun Γ' k' => Γ' = [.sh (.ref a), .sh (.int m), .un, .sh (.int bl), .un] ∧ 0 ≤ k'.x ∧ k'.x < 170141183460469231731687303715884105727 ∧ k'.y = k2.y + 1) (sk_setX (m := (bl + 31 * k4.y) % 170141183460469231731687303715884105727) rfl (eki_op (eki_op (eki_p (ep_var rfl)) (eki_op (eki_p ep_int) (eki_y rfl) (rd_Ii (mw (by decide) (by omega)))) rd_I0i) (eki_p ep_int) (rd_Ii (by decide))) ⟨rfl, Int.emod_nonneg _ (by decide), Int.emod_lt_of_pos _ (by decide), ey⟩) ?_
    rintro _ k5 ⟨rfl, g0, g1, ey5⟩
    have hx5 : k5.x.natAbs < 2 ^ 200 := by omega
    refine qk_asg (R := fun d k6 => d = .int (k5.x * k5.x + 90001 * k5.y) ∧ k6 = k5) (eki_op (eki_op (eki_x rfl) (eki_x rfl) (rd_Ii (mw hx5 hx5))) (eki_op (eki_p ep_int) (eki_y rfl) (rd_Ii (mw (by decide) (by omega)))) rd_I0i) ?_
    rintro _ k6 ⟨rfl, rfl⟩
    generalize k6.x * k6.x + 90001 * k6.y = bl2
    show SK a b _ [.sh (.ref a), .sh (.int m), .un, .sh (.int bl2), .un] _ _
    refine qk_asg (R := fun d k7 => d = .int (k6.x * (10 : Int) ^ (38 : Int).toNat + bl2 % 170141183460469231731687303715884105727) ∧ k7 = k6) (eki_op (eki_op (eki_x rfl) (eki_p (ep_op (x := .int 10) (y := .int 38) ep_int ep_int (rd_Ii ⟨by decide, by decide, by decide⟩))) (rd_Ii (mw hx5 (by decide)))) (eki_op (eki_p (ep_var rfl)) (eki_p ep_int) (rd_Ii (by decide))) rd_I0i) ?_
    rintro _ k7 ⟨rfl, rfl⟩
    generalize k7.x * (10 : Int) ^ (38 : Int).toNat + bl2 % 170141183460469231731687303715884105727 = wd
    show SK a b _ [.sh (.ref a), .sh (.int m), .un, .sh (.int bl2), .sh (.int wd)] _ _
    refine sk_ret (R := fun d k8 => d = .int (wd / (2 : Int) ^ (35 : Int).toNat % m) ∧ k8 = k7) (eki_p (ep_op (ep_op (ep_var rfl) (ep_op (x := .int 2) (y := .int 35) ep_int ep_int (rd_Ii ⟨by decide, by decide, by decide⟩)) (rd_Ii ⟨by decide, by decide⟩)) (ep_var rfl) (rd_Ii (by omega)))) ?_
    rintro d k8 ⟨rfl, rfl⟩
    exact ⟨_, rfl, Int.emod_nonneg _ (by omega), Int.emod_lt_of_pos _ (by omega), g0, by rw [e127]; omega, by omega, by omega⟩
theorem lg9 {m : Int} (h0 : 1 ≤ m) (h1 : m < 2 ^ 200) : m.natAbs.log2 < 9000 := by
  have z : m.natAbs ≠ 0 := by omega
  have h : m.natAbs < 2 ^ 200 := by omega
  exact Nat.lt_trans ((Nat.log2_lt z).mpr h) (by decide)
theorem ek_drip {a b : Addr} {Γ : List En} {k : Fk} {i n : Nat} {ta : TA} {m : Int} {R : D → Fk → Prop} (hi : Γ[i]? = some (.sh (.ref a))) (ha : EaP ta Γ [.int m]) (hf : Fo k n) (hn : n ≤ 1000000000) (h1 : 1 ≤ m) (h2 : m < 2 ^ 200) (hR : ∀ r k', 0 ≤ r → r < m → Fo k' (n + 1) → R (.int r) k') : EvK a b (tCall (spK C_drip) [] E0 (tCons (tVar i) ta)) Γ k R :=
  EvK.imp (ek_call hi ha ⟨m, n, rfl, hf, hn, h1, lg9 h1 h2, rfl⟩) fun d k' ⟨r, e, h3, h4, h5⟩ => by subst e; exact hR r k' h3 h4 h5
theorem e59 : (10 : Int) ^ (59 : Int).toNat = big := by decide
theorem ok_amount (c__law_drip : Cal P w K mg base 1 "_law_drip" (spK C_drip)) (F : FnP K "_law_amount" s__law_amount f fd) : FnOk P w K mg base CX0 2 f fd ["flask", "wide"] (spK C_amount) := by
  refine fn_okK F sc__law_amount (fun k es R ⟨m, n, h, _⟩ => by subst h; rfl) fun cdv A outer s H E hr => ⟨_, (pss_cons (ps_if (pt_cmpR op_eq (pe_c c__law_drip hr (by first | decide | omega) rfl (pa_cons (pv 0) (pa_cons pe_int pa_nil))) pe_int (nomark _)) (pss_one (ps_ret (pe_op op_sub (pe_c c__law_drip hr (by first | decide | omega) rfl (pa_cons (pv 0) (pa_cons (pe_op op_mul pe_int (pe_op op_pow pe_int pe_int)) pa_nil))) (pe_op op_pow pe_int pe_int)))) pss_nil)
      (pss_one (ps_ret (pe_op op_sub (pe_c c__law_drip hr (by first | decide | omega) rfl (pa_cons (pv 0) (pa_cons (pe_op op_mul pe_int (pv 1)) pa_nil))) (pv 1))))), ?_⟩
  rintro a b k es R ⟨m, n, rfl, hf, hn, h1, h2, rfl⟩
  show SK a b _ [.sh (.ref a), .sh (.int m)] k _
  refine sk_guardK (R := fun v k' => Fo k' (n + 1)) (etk_test (R1 := fun d k' => (∃ v, d = .bl v) ∧ Fo k' (n + 1)) (ek_opL (R1 := fun x k' => (∃ r, x = .int r) ∧ Fo k' (n + 1)) (ek_drip rfl (ea_cons ep_int ea_nil) hf (by omega) (by decide) (by decide) fun r k' _ _ h => ⟨⟨r, rfl⟩, h⟩) fun x k' ⟨⟨r, e⟩, h⟩ => by subst e; exact ⟨_, _, ep_int, rd_eqI, ⟨_, rfl⟩, h⟩) fun d k' ⟨⟨v, e⟩, h⟩ => ⟨v, e, h⟩) ?_ ?_
  · rintro k' hf'
    have ew : EvP (tOp (rI CMul fun i j => V.int (i * j)) (tC (.int 2)) (tOp (rI CPow fun i j => V.int (i ^ j.toNat)) (tC (.int 10)) (tC (.int 59)))) [.sh (.ref a), .sh (.int m)] (.int (2 * big)) := EvP.cast (ep_op ep_int (ep_op (x := .int 10) (y := .int 59) ep_int ep_int (rd_Ii ⟨by decide, by decide, by decide⟩)) (rd_Ii (.inl ⟨by decide, by decide⟩))) (by rw [e59])
    refine sk_ret (R := fun d k2 => ∃ v, d = .int v ∧ -big ≤ v ∧ v ≤ big ∧ Fo k2 (n + 2)) (ek_opL (R1 := fun x k' => ∃ r, x = .int r ∧ 0 ≤ r ∧ r < 2 * big ∧ Fo k' (n + 2)) (ek_drip rfl (ea_cons ew ea_nil) hf' (by omega) (by decide) (by decide) fun r k' h0 h1 h => ⟨r, rfl, h0, h1, h⟩) fun x k' ⟨r, e, q0, q1, q2⟩ => ?_) fun d k2 h => h
    subst e
    exact ⟨.int big, .int (r - big), EvP.cast (ep_op (x := .int 10) (y := .int 59) ep_int ep_int (rd_Ii ⟨by decide, by decide, by decide⟩)) (by rw [e59]), rd_I0i, _, rfl, by omega, by omega, q2⟩
  · rintro k' hf'
    have eb : big = 100000000000000000000000000000000000000000000000000000000000 := rfl
    refine sk_ret (R := fun d k2 => ∃ v, d = .int v ∧ -big ≤ v ∧ v ≤ big ∧ Fo k2 (n + 2)) (ek_opL (R1 := fun x k' => ∃ r, x = .int r ∧ 0 ≤ r ∧ r < 2 * m ∧ Fo k' (n + 2)) (ek_drip (m := 2 * m) rfl (ea_cons (ep_op ep_int (ep_var rfl) (rd_Ii (.inl ⟨by decide, by decide⟩))) ea_nil) hf' (by omega) (by omega) (by omega) fun r k' h0 h1 h => ⟨r, rfl, h0, h1, h⟩) fun x k' ⟨r, e, q0, q1, q2⟩ => ?_) fun d k2 h => h
    subst e
    exact ⟨.int m, .int (r - m), ep_var rfl, rd_I0i, _, rfl, by omega, by omega, q2⟩
end
end Lz
set_option Elab.async false
set_option linter.all false
set_option maxRecDepth 100000
set_option maxHeartbeats 4000000
/-! C2: k81: numbers as texts, and read. -/
namespace DL
open PySem PySem.Spec PyProof.Rows L2
theorem ep_neg {te : TE} {Γ : List En} {i : Int} (h : EvP te Γ (.int i)) : EvP (tUn (rU fun i => .int (-i)) te) Γ (.int (-i)) := fun c F H σ G Q k => h c F H σ G _ fun v F1 H1 S1 r => ⟨i, r, k _ F1 H1 S1 rfl⟩
theorem rd_ixStr {z : Str} {i : Int} {c : Nat} (hz : z.length ≤ sizeLine) (h : atI z.cps.toList i = some c) : RD rIxS (.str z) (.int i) (.str ⟨#[c]⟩) := fun F H vx vy e rx ry Q k => ⟨z, i, c, rx, ry, hz, h, k _ F H (.refl e) rfl⟩
end DL
namespace Lz
open PySem PySem.Spec PyProof.Rows L2 DL XS
local macro_rules | `(tactic| walk_at "sd") => `(tactic| first
  | assumption
  | exact .inl ⟨by decide, by decide⟩ | exact ⟨by decide, by decide, by decide⟩ | exact ⟨by decide, by decide⟩
  | (show (0 : Int) < _; first | decide | omega) | exact ⟨by omega, by omega⟩ | exact .inl ⟨by omega, by omega⟩ | exact .inr ⟨by omega, by omega⟩ | exact .inr ⟨by decide, by decide⟩ | omega)
local macro_rules | `(tactic| walk_at "ep") => `(tactic| first
  | exact ep_int | exact ep_str | exact ep_bl | exact ep_non | exact ep_ref | exact ep_ty
  | exact ep_var rfl
  | (refine' ep_ixM (.inr rfl) ?ka ?kr; (case ka => walk_at "ep"); (case kr => exact rfl))
  | (refine' ep_ixM (.inl rfl) ?ka ?kr; (case ka => walk_at "ep"); (case kr => exact rfl))
  | (refine' ep_op ?ka ?kb rd_I0i; (case ka => walk_at "ep"); (case kb => walk_at "ep"))
  | (refine' ep_op ?ka ?kb rd_I0b; (case ka => walk_at "ep"); (case kb => walk_at "ep"))
  | (refine' ep_op ?ka ?kb (rd_Ii ?sd); (case ka => walk_at "ep"); (case kb => walk_at "ep"); (case sd => walk_at "sd"))
  | (refine' ep_op ?ka ?kb rd_eqI; (case ka => walk_at "ep"); (case kb => walk_at "ep"))
  | (refine' ep_op ?ka ?kb rd_eqS; (case ka => walk_at "ep"); (case kb => walk_at "ep"))
  | (refine' ep_op ?ka ?kb rd_neI; (case ka => walk_at "ep"); (case kb => walk_at "ep"))
  | (refine' ep_op ?ka ?kb rd_neS; (case ka => walk_at "ep"); (case kb => walk_at "ep")))
local macro_rules | `(tactic| walk_at "et") => `(tactic| first
  | (refine' et_test ?ka; (case ka => walk_at "ep"))
  | (refine' et_not ?ka; (case ka => walk_at "et"))
  | (refine' et_and ?ka fun _ => ?kb; (case ka => walk_at "et"); (case kb => walk_at "et"))
  | (refine' et_or ?ka fun _ => ?kb; (case ka => walk_at "et"); (case kb => walk_at "et")))
theorem sc_plain_number : FnScope ["word", "sign"] ["word"] (defScope s_plain_number) := ⟨rfl, rfl, rfl, by decide +kernel, rfl, by decide +kernel, by decide +kernel⟩
theorem sc__signed_number : FnScope ["word", "number"] ["word"] (defScope s__signed_number) := ⟨rfl, rfl, rfl, by decide +kernel, rfl, by decide +kernel, by decide +kernel⟩
/-- what the defs of the text read of the top -/
structure Kx (mg : Str → Option Value) : Prop extends Tx mg where
  z_enumerate : mg "enumerate" = none
  z_zip : mg "zip" = none
  z_sum : mg "sum" = none
  z_max : mg "max" = none
  g_MOST_ENTRIES : ∃ u, mg "MOST_ENTRIES" = some u ∧ RelV (.int 400) u
  g_MOST_DIGITS : ∃ u, mg "MOST_DIGITS" = some u ∧ RelV (.int 60) u
  g_GREATEST_LEVEL : ∃ u, mg "GREATEST_LEVEL" = some u ∧ RelV (.int 99) u
/-- the greatest number of sixty digits -/
def bg : Int := 999999999999999999999999999999999999999999999999999999999999
/-- a number's text -/
abbrev nT (m : Int) : Str := Str.ofString (toString m)
theorem lgB {m : Int} (h0 : -bg ≤ m) (h1 : m ≤ bg) : m.natAbs.log2 < 1920 := by
  have eb : bg = 999999999999999999999999999999999999999999999999999999999999 := rfl
  by_cases z : m.natAbs = 0
  · rw [z]; decide
  · exact Nat.lt_trans ((Nat.log2_lt (k := 200) z).mpr (by omega)) (by decide)
theorem len_nT {m : Int} (h : m.natAbs.log2 < 1920) : (nT m).length ≤ 1921 := int_text_len_1921 h
theorem tl_nn (n : Nat) : nT (n : Int) = SX.S (TL.numL n) := TL.ext_tl (TL.tl_num n)
theorem tl_neg {m : Int} (h : m < 0) : nT m = SX.S (45 :: TL.numL m.natAbs) := by
  have e : toString m = "-" ++ toString ((m.natAbs : Nat) : Int) := by
    rw [toString_neg h]
    congr 2
    omega
  have e2 : nT m = Str.ofString ("-" ++ toString ((m.natAbs : Nat) : Int)) := congrArg Str.ofString e
  rw [e2]
  have h1 := tl_nn m.natAbs
  have h3 : ((toString ((m.natAbs : Nat) : Int)).toList.map Char.toNat) = TL.numL m.natAbs := by
    have := congrArg (fun x : Str => x.cps.toList) ((Str.ofString_eq_toList (toString ((m.natAbs : Nat) : Int))).symm.trans h1)
    simpa [SX.S] using this
  rw [Str.ofString_eq_toList, String.toList_append, List.map_append, h3]
  rfl
theorem numL_len60 {n : Nat} (h : (n : Int) ≤ bg) : (TL.numL n).length ≤ 60 := TL.numL_len (k := 60) (by decide) (by
  have eb : bg = 999999999999999999999999999999999999999999999999999999999999 := rfl
  omega)
theorem numL_pos (n : Nat) : 1 ≤ (TL.numL n).length := by
  cases h : TL.numL n with
  | nil => exact absurd h (TL.numL_ne n)
  | cons _ _ => simp
theorem numL_first : ∀ n : Nat, 1 ≤ n → ∃ c r, TL.numL n = c :: r ∧ c ≠ 48 := fun n => by
  induction n using Nat.strongRecOn with
  | _ n ih =>
    intro h1
    by_cases h : n < 10
    · exact ⟨48 + n, [], TL.numL_lt h, by omega⟩
    · obtain ⟨c, r, e, hc⟩ := ih (n / 10) (by omega) (by omega)
      exact ⟨c, r ++ [48 + n % 10], by rw [TL.numL_step (by omega), e]; rfl, hc⟩
theorem numL_long {n : Nat} (h : 1 < (TL.numL n).length) : 1 ≤ n := by
  by_cases z : n = 0
  · subst z; rw [TL.numL_lt (by decide)] at h; simp at h
  · omega
theorem lt1 (a b : Nat) : decide (([a] : List Nat) < [b]) = decide (a < b) := by
  by_cases h : a < b
  · rw [decide_eq_true h]; exact decide_eq_true (List.Lex.rel h)
  · rw [decide_eq_false h]
    refine decide_eq_false fun z => ?_
    cases z with
    | rel z => exact h z
    | cons z => cases z
/-- a number or none, as a text and as a value -/
def oT : Option Int → Str
  | none => Str.ofString ""
  | some m => nT m
def oD : Option Int → D
  | none => .non
  | some m => .int m
def okO : Option Int → Prop
  | none => True
  | some m => -bg ≤ m ∧ m ≤ bg
def C_plain : Cn := fun Γ R => (∃ n : Nat, Γ = [.sh (.str (nT (n : Int)))] ∧ (n : Int) ≤ bg ∧ R = fun d Γ' => d = .int n) ∨ (Γ = [.sh (.str (Str.ofString ""))] ∧ R = fun d Γ' => d = .non)
def C_signed : Cn := fun Γ R => ∃ o : Option Int, Γ = [.sh (.str (oT o))] ∧ okO o ∧ R = fun d Γ' => d = oD o
section
variable {P : Program} {w : World} {K : PySem.W.Frag} {mg : Str → Option Value} {base : Heap} {f : Addr} {fd : FuncData}
theorem ok_plain (T : Kx mg) (F : FnP K "plain_number" s_plain_number f fd) : FnOk P w K mg base CX0 1 f fd ["word"] (spE C_plain) := by
  refine fn_ok F sc_plain_number (fun Γ R h => by rcases h with ⟨p, h, _⟩ | ⟨h, _⟩ <;> subst h <;> rfl) fun cdv A outer s H E hr => ⟨_, (pss_cons (ps_if (PW.pt (pw_or (pt_not (pt_chain op_le op_le pe_int (pe_callB call_len_str rfl T.z_len (by decide +kernel) (pa_cons (pv 0) pa_nil)) (pe_gc rfl T.g_MOST_DIGITS))) (pw_or1 (pt_not (pt_val (pe_callB (cr_all rfl) rfl T.z_all (by decide +kernel) (pa_cons (pe_lc (own := [("sign", 1)]) (g := (gName 1)) (tt := tYes) rfl sc_plain_number.nd (pi_str (pv 0)) (blkOk_by (own := [("sign", 1)]) (N := ["word", "sign"]) (sc := defScope s_plain_number) (by decide +kernel)) (fun _ _ _ _ _ => (pg_name (i := 1) sc_plain_number.nd rfl (Or.inl rfl))) (fun _ _ _ _ _ => pts_nil) (fun _ _ _ _ _ => (pe_chain op_le_str op_le_str pe_str (pv 1) pe_str))) pa_nil))))))) (pss_one (ps_ret pe_non)) pss_nil)
      (pss_cons (ps_if (PW.pt (pw_and (pt_cmpR op_gt (pe_callB call_len_str rfl T.z_len (by decide +kernel) (pa_cons (pv 0) pa_nil)) pe_int (nomark _)) (pw_and1 (pt_cmpR op_eq (pe_ix ix_str (pv 0) pe_int (fun _ _ => rfl)) pe_str (nomark _))))) (pss_one (ps_ret pe_non)) pss_nil)
      (pss_one (ps_ret (pe_callTy call_int_str rfl T.z_int (by decide +kernel) (pa_cons (pv 0) pa_nil)))))), ?_⟩
  rintro Γ R hC _
  rcases hC with ⟨n, rfl, hn, rfl⟩ | ⟨rfl, rfl⟩
  rotate_left
  · show SW _ [.sh (.str (Str.ofString "")), .un] _
    have e0 : (Str.ofString "").length = 0 := by decide +kernel
    refine sw_guard (b := true) (EtP.cast (et_or (a := true) (b := false) (et_not (a := false) (et_test (EvP.cast (ep_chain (b := false) ep_int (EvP.cast (ep_cb (ea_cons (ep_var rfl) ea_nil) (rc_lenStr (by rw [e0, sizeLine_eq]; decide))) (by rw [e0])) ep_int rd_I0b fun z => absurd (of_decide_eq_true z) (by decide)) (by rw [Bool.and_false])))) fun z => by cases z) rfl) (fun _ => ?_) fun z => by cases z
    exact sw_ret ep_non ⟨rfl, trivial⟩
  rw [tl_nn n]
  have l1 := numL_len60 hn
  have l2 := numL_pos n
  have lens : (SX.S (TL.numL n)).length = (TL.numL n).length := SX.S_len _
  show SW _ [.sh (.str (SX.S (TL.numL n))), .un] _
  have hlen : ∀ {Γ : List En}, Γ[0]? = some (.sh (.str (SX.S (TL.numL n)))) → EvP (tCB rLenStr (tCons (tVar 0) tNil)) Γ (.int ((TL.numL n).length : Nat)) := fun {Γ} h => EvP.cast (ep_cb (ea_cons (ep_var h) ea_nil) (rc_lenStr (by rw [lens, sizeLine_eq]; omega))) (by rw [lens])
  refine sw_guard (b := false) (EtP.cast (et_or (et_not (a := true) (et_test (EvP.cast (ep_chain ep_int (hlen rfl) ep_int rd_I0b fun _ => rd_I0b) (by rw [decide_eq_true (show (1 : Int) ≤ ((TL.numL n).length : Nat) by omega), decide_eq_true (show (((TL.numL n).length : Nat) : Int) ≤ 60 by omega)]; rfl)))) fun _ => et_not (et_B (ep_cb (ea_cons (EvF.p (EvF.cast (ef_map (TL.numL n) (fun c => D.str ⟨#[c]⟩) (fun c => D.bl true) (wi_str (ep_var rfl)) (by rw [sizeLine_eq]; omega) fun c hc => ⟨_, gv_name (by decide), ?_⟩) (es := ((TL.numL n).map fun _ => true).map D.bl) (by rw [List.map_map]; rfl))) ea_nil) rc_all))) ?_) (fun z => by cases z) fun _ => ?_
  · obtain ⟨h1, h2⟩ := TL.numL_digits n c hc
    refine EvP.cast (ep_chain ep_str (ep_var (d := .str ⟨#[c]⟩) rfl) ep_str rd_leS fun _ => rd_leS) ?_
    show D.bl ((!decide (([c] : List Nat) < (Str.ofString "0").cps.toList)) && (!decide ((Str.ofString "9").cps.toList < ([c] : List Nat)))) = D.bl true
    have e0 : (Str.ofString "0").cps.toList = [48] := by decide +kernel
    have e9 : (Str.ofString "9").cps.toList = [57] := by decide +kernel
    rw [e0, e9, lt1, lt1]
    congr 1
    simp; omega
  · have e : (((TL.numL n).map fun _ => true).all id) = true := by simp
    rw [e]; rfl
  refine sw_guard (b := false) ?_ (fun z => by cases z) fun _ => ?_
  · by_cases hl : 1 < (TL.numL n).length
    · obtain ⟨c, r, e, hc⟩ := numL_first n (numL_long hl)
      refine EtP.cast (et_and (et_test (ep_op (hlen rfl) ep_int rd_I0b)) fun _ => et_test (ep_op (ep_op (ep_var rfl) ep_int (rd_ixStr (c := c) (by rw [lens, sizeLine_eq]; omega) ?_)) ep_str rd_eqS)) ?_
      · show atI (TL.numL n) ((0 : Nat) : Int) = some c
        rw [e]; exact atI_nat rfl
      · have hz : decide ((⟨#[c]⟩ : Str) = Str.ofString "0") = false := decide_eq_false fun z => hc (by
          have := congrArg (fun x : Str => x.cps.toList) z
          have e0 : (Str.ofString "0").cps.toList = [48] := by decide +kernel
          rw [e0] at this
          simpa using this)
        rw [hz, Bool.and_false]
    · exact EtP.cast (et_and (b := false) (et_test (ep_op (hlen rfl) ep_int rd_I0b)) fun z => absurd (of_decide_eq_true z) (by omega)) (by rw [Bool.and_false])
  have e3 : PySem.intText? (SX.S (TL.numL n)) = some (n : Int) := by rw [← tl_nn n]; exact TL.int_num (by omega)
  exact sw_ret (ep_cb (ea_cons (ep_var rfl) ea_nil) (rc_intS e3 (by rw [lens]; omega))) ⟨rfl, trivial⟩
theorem starts_S (c : Nat) (r : List Nat) : Txt.startswith (SX.S (c :: r)) "-" = decide (c = 45) := by
  have ey : (Str.ofString "-") = ⟨#[45]⟩ := by decide +kernel
  show (decide (0 + (Str.ofString "-").length ≤ (SX.S (c :: r)).length) && ((SX.S (c :: r)).cps.extract 0 (0 + (Str.ofString "-").length) == (Str.ofString "-").cps)) = _
  rw [ey]
  have l1 : (⟨#[45]⟩ : Str).length = 1 := rfl
  rw [l1, SX.S_len, decide_eq_true (by rw [List.length_cons]; omega), Bool.true_and]
  have e : (SX.S (c :: r)).cps.extract 0 (0 + 1) = #[c] := by
    apply Array.toList_inj.mp
    simp [SX.S]
  rw [e]
  show ((#[c] : Array Nat) == #[45]) = _
  by_cases h : c = 45
  · subst h; decide
  · rw [decide_eq_false h]
    refine beq_false_of_ne fun z => h ?_
    have := congrArg Array.toList z
    simpa using this
theorem ok_signed (T : Kx mg) (c_plain_number : Cal P w K mg base 1 "plain_number" (spE C_plain)) (F : FnP K "_signed_number" s__signed_number f fd) : FnOk P w K mg base CX0 2 f fd ["word"] (spE C_signed) := by
  refine fn_ok F sc__signed_number (fun Γ R ⟨m, h, _⟩ => by subst h; rfl) fun cdv A outer s H E hr => ⟨_, (pss_cons (ps_if (pt_not (pt_val (pe_m1 PySem.F.slot_str_startswith PySem.F.type_str_startswith mt_startswith (pv 0) pe_str))) (pss_one (ps_ret (pe_c c_plain_number hr (by first | decide | omega) rfl (pa_cons (pv 0) pa_nil)))) pss_nil)
      (pss_cons (ps_set (i := 1) sc__signed_number.nd rfl (by first | exact Or.inl rfl | exact Or.inr rfl) (pe_c c_plain_number hr (by first | decide | omega) rfl (pa_cons (pe_slice sl_str (pv 0) (po_some pe_int) po_none) pa_nil)))
      (pss_cons (ps_if (PW.pt (pw_or (pt_cmpR op_isN1 (pv 1) pe_non (nomark _)) (pw_or1 (pt_cmpR op_eq (pv 1) pe_int (nomark _))))) (pss_one (ps_ret pe_non)) pss_nil)
      (pss_one (ps_ret (pe_un un_neg (pv 1))))))), ?_⟩
  rintro Γ R ⟨o, rfl, ho, rfl⟩ _
  cases o with
  | none =>
    show SW _ [.sh (.str (Str.ofString "")), .un] _
    have e : Txt.startswith (Str.ofString "") "-" = false := by decide +kernel
    refine sw_guard (b := true) (EtP.cast (et_not (et_B (ep_starts (ep_var rfl) ep_str))) (by rw [e]; rfl)) (fun _ => ?_) fun z => by cases z
    exact sw_ret (ep_call (ea_cons (ep_var rfl) ea_nil) (.inr ⟨rfl, rfl⟩) fun e Γ' h => h) ⟨rfl, trivial⟩
  | some m =>
  obtain ⟨h0, h1⟩ := ho
  show SW _ [.sh (.str (nT m)), .un] _
  by_cases hm : m < 0
  · rw [tl_neg hm]
    have hb : ((m.natAbs : Nat) : Int) ≤ bg := by omega
    refine sw_guard (b := false) (EtP.cast (et_not (et_B (ep_starts (ep_var rfl) ep_str))) (by rw [starts_S]; rfl)) (fun z => by cases z) fun _ => ?_
    have l1 := numL_len60 hb
    refine q_asg (d := .int (m.natAbs : Nat)) (ep_call (ea_cons (EvP.cast (ep_strFrom (ep_var rfl) (by rw [sizeLine_eq]; omega)) (congrArg D.str (tl_nn m.natAbs).symm)) ea_nil) (.inl ⟨m.natAbs, rfl, hb, rfl⟩) fun e Γ' h => h) ?_
    show SW _ [.sh (.str (SX.S (45 :: TL.numL m.natAbs))), .sh (.int (m.natAbs : Nat))] _
    refine sw_guard (b := false) (EtP.cast (et_or (et_test (ep_op (ep_var rfl) ep_non (rd_isN fun p z => by cases z))) fun _ => et_test (ep_op (ep_var rfl) ep_int rd_eqI)) ?_) (fun z => by cases z) fun _ => ?_
    · show (false || decide (((m.natAbs : Nat) : Int) = 0)) = false
      rw [decide_eq_false (by omega)]; rfl
    · exact sw_ret (EvP.cast (ep_neg (ep_var rfl)) (congrArg D.int (by omega))) ⟨rfl, trivial⟩
  · obtain ⟨n, rfl⟩ : ∃ n : Nat, m = (n : Int) := ⟨m.toNat, by omega⟩
    refine sw_guard (b := true) (EtP.cast (et_not (et_B (ep_starts (ep_var rfl) ep_str))) ?_) (fun _ => ?_) fun z => by cases z
    · rw [tl_nn n]
      have hd := TL.numL_digits n
      cases e : TL.numL n with
      | nil => exact absurd e (TL.numL_ne n)
      | cons c r =>
        rw [starts_S]
        have := hd c (by rw [e]; exact List.mem_cons_self)
        rw [decide_eq_false (by omega)]; rfl
    · exact sw_ret (ep_call (ea_cons (ep_var rfl) ea_nil) (.inl ⟨n, rfl, h1, rfl⟩) fun e Γ' h => h) ⟨rfl, trivial⟩
end
end Lz
set_option Elab.async false
set_option linter.all false
set_option maxRecDepth 100000
set_option maxHeartbeats 4000000
/-! C3: k81: entries and columns as texts. -/
namespace DL
open PySem PySem.Spec PyProof.Rows L2
section
variable {Γ : List En} {ta tb : TE} {x y z : D}
abbrev rPart : V → List V → Hp → VK → Prop := fun x xs H Q => ∃ a b, x = .str a ∧ xs = [.str b] ∧ (b.length == 0) = false ∧ a.length ≤ sizeLine ∧ ∀ p, H p = none → Q (.ref p) (upd H p (.tup [.str (Txt.partition a b).1, .str (Txt.partition a b).2.1, .str (Txt.partition a b).2.2]))
/-- x.partition(sep) -/
theorem ep_part {a b p q r : Str} (ha : EvP ta Γ (.str a)) (hb : EvP tb Γ (.str b)) (hn : (b.length == 0) = false) (hl : a.length ≤ sizeLine) (h : Txt.partition a b = (p, q, r)) : EvP (tM1 rPart ta tb) Γ (.tup [.str p, .str q, .str r]) := fun c F H σ G Q k =>
  ha c F H σ G _ fun v F1 H1 S1 r1 => ⟨⟨a, r1⟩, hb c F1 H1 σ (G.step S1) _ fun u F2 H2 S2 r2 => ⟨a, b, r1, by rw [show u = .str b from r2], hn, hl, fun l hl => by
    rw [h]
    have S := (S1.trans S2).trans (Stp.new S2.fh (.tup [V.str p, V.str q, V.str r]) hl)
    exact k (.ref l) _ _ S ⟨l, _, rfl, upd_same, .str p, _, rfl, rfl, .str q, _, rfl, rfl, .str r, [], rfl, rfl, rfl⟩⟩⟩
end
end DL
namespace Lz
open PySem PySem.Spec PyProof.Rows L2 DL XS
local macro_rules | `(tactic| walk_at "sd") => `(tactic| first
  | assumption
  | exact .inl ⟨by decide, by decide⟩ | exact ⟨by decide, by decide, by decide⟩ | exact ⟨by decide, by decide⟩
  | (show (0 : Int) < _; first | decide | omega) | exact ⟨by omega, by omega⟩ | exact .inl ⟨by omega, by omega⟩ | exact .inr ⟨by omega, by omega⟩ | exact .inr ⟨by decide, by decide⟩ | omega)
local macro_rules | `(tactic| walk_at "ep") => `(tactic| first
  | exact ep_int | exact ep_str | exact ep_bl | exact ep_non | exact ep_ref | exact ep_ty
  | exact ep_var rfl
  | (refine' ep_ixM (.inr rfl) ?ka ?kr; (case ka => walk_at "ep"); (case kr => exact rfl))
  | (refine' ep_ixM (.inl rfl) ?ka ?kr; (case ka => walk_at "ep"); (case kr => exact rfl))
  | (refine' ep_op ?ka ?kb rd_I0i; (case ka => walk_at "ep"); (case kb => walk_at "ep"))
  | (refine' ep_op ?ka ?kb rd_I0b; (case ka => walk_at "ep"); (case kb => walk_at "ep"))
  | (refine' ep_op ?ka ?kb (rd_Ii ?sd); (case ka => walk_at "ep"); (case kb => walk_at "ep"); (case sd => walk_at "sd"))
  | (refine' ep_op ?ka ?kb rd_eqI; (case ka => walk_at "ep"); (case kb => walk_at "ep"))
  | (refine' ep_op ?ka ?kb rd_eqS; (case ka => walk_at "ep"); (case kb => walk_at "ep"))
  | (refine' ep_op ?ka ?kb rd_neI; (case ka => walk_at "ep"); (case kb => walk_at "ep"))
  | (refine' ep_op ?ka ?kb rd_neS; (case ka => walk_at "ep"); (case kb => walk_at "ep")))
local macro_rules | `(tactic| walk_at "et") => `(tactic| first
  | (refine' et_test ?ka; (case ka => walk_at "ep"))
  | (refine' et_not ?ka; (case ka => walk_at "et"))
  | (refine' et_and ?ka fun _ => ?kb; (case ka => walk_at "et"); (case kb => walk_at "et"))
  | (refine' et_or ?ka fun _ => ?kb; (case ka => walk_at "et"); (case kb => walk_at "et")))
theorem sc__entry_text : FnScope ["entry", "level", "reached", "value"] ["entry"] (defScope s__entry_text) := ⟨rfl, rfl, rfl, by decide +kernel, rfl, by decide +kernel, by decide +kernel⟩
theorem sc_write_column : FnScope ["column", "entry"] ["column"] (defScope s_write_column) := ⟨rfl, rfl, rfl, by decide +kernel, rfl, by decide +kernel, by decide +kernel⟩
theorem sc__entry_in : FnScope ["word", "levels", "sign", "told", "before", "_", "behind", "level", "reached", "value"] ["word"] (defScope s__entry_in) := ⟨rfl, rfl, rfl, by decide +kernel, rfl, by decide +kernel, by decide +kernel⟩
/-- an entry -/
structure Ey where
  l : Nat
  r : Nat
  v : Option Int
def okE (e : Ey) : Prop := e.l < 100 ∧ e.r < 100 ∧ okO e.v
def eD (e : Ey) : D := .tup [.int e.l, .int e.r, oD e.v]
abbrev lT (e : Ey) : Str := nT (e.l : Int) ++ Str.ofString "." ++ nT (e.r : Int)
def eT (e : Ey) : Str := match e.v with
  | none => lT e
  | some m => lT e ++ Str.ofString "=" ++ nT m
abbrev jn (ws : List Str) : Str := Txt.join " " ws
def cT : List Ey → Str
  | [] => Str.ofString "-"
  | e :: es => jn ((e :: es).map eT)
def cD (es : List Ey) : D := .lst (es.map eD)
theorem lgE {n : Nat} (h : n < 100) : ((n : Int)).natAbs.log2 < 1920 := lgB (by unfold bg; omega) (by unfold bg; omega)
theorem len_nTl {n : Nat} (h : n < 100) : (nT (n : Int)).length ≤ 1921 := len_nT (lgE h)
theorem len_eT {e : Ey} (h : okE e) : (eT e).length ≤ 6000 := by
  obtain ⟨h1, h2, h3⟩ := h
  have a1 := len_nTl h1
  have a2 := len_nTl h2
  have d1 : (Str.ofString ".").length = 1 := by decide +kernel
  have d2 : (Str.ofString "=").length = 1 := by decide +kernel
  have al : (lT e).length ≤ 3900 := by rw [Str.length_append, Str.length_append]; omega
  unfold eT
  cases hv : e.v with
  | none => exact Nat.le_trans al (by decide)
  | some m =>
    rw [hv] at h3
    have a3 := len_nT (lgB h3.1 h3.2)
    show (lT e ++ Str.ofString "=" ++ nT m).length ≤ 6000
    rw [Str.length_append, Str.length_append]; omega
/-! ### what is shown of them -/
def oP : Option Int → PyData
  | none => .none
  | some m => .int m
def eP (e : Ey) : PyData := .tuple [.int e.l, .int e.r, oP e.v]
theorem pyD_o : ∀ o : Option Int, pyD (oD o) = some (oP o)
  | none => rfl
  | some _ => rfl
theorem pyD_e (e : Ey) : pyD (eD e) = some (eP e) := by
  show (pyDs [.int e.l, .int e.r, oD e.v]).map PyData.tuple = _
  simp only [pyDs, pyD, pyD_o]; rfl
theorem pyDs_c : ∀ es : List Ey, pyDs (es.map eD) = some (es.map eP)
  | [] => rfl
  | e :: es => by
    rw [List.map_cons, List.map_cons]
    simp only [pyDs, pyD_e, pyDs_c es]
theorem pyD_c (es : List Ey) : pyD (cD es) = some (.list (es.map eP)) := by
  show (pyDs (es.map eD)).map PyData.list = _
  rw [pyDs_c]; rfl
theorem shaped_c (es : List Ey) : SeqAt.shaped (.list (es.map eP)) = true := by
  have l1 : ∀ e, PyData.canLay0 (eP e) = true := fun ⟨l, r, v⟩ => by cases v <;> rfl
  have d1 : ∀ e, PyData.depth (eP e) = 1 := fun ⟨l, r, v⟩ => by cases v <;> rfl
  have l : ∀ es : List Ey, PyData.canLayAll0 (es.map eP) = true := fun es => by
    induction es with
    | nil => rfl
    | cons e es ih => show (PyData.canLay0 (eP e) && PyData.canLayAll0 (es.map eP)) = true; rw [l1, ih]; rfl
  have d : ∀ es : List Ey, PyData.depthAll (es.map eP) ≤ 1 := fun es => by
    induction es with
    | nil => decide
    | cons e es ih => show max (PyData.depth (eP e)) (PyData.depthAll (es.map eP)) ≤ 1; rw [d1]; omega
  unfold SeqAt.shaped
  have e1 : PyData.canLay0 (.list (es.map eP)) = true := l es
  have e2 : PyData.depth (.list (es.map eP)) ≤ 64 := by show PyData.depthAll (es.map eP) + 1 ≤ 64; have := d es; omega
  rw [e1, decide_eq_true e2]; rfl
theorem rd_eqNil {K : PySem.W.Frag} (es : List Ey) : RD (rEqD K) (cD es) (.lst []) (.bl (decide (es = []))) := by
  have h := rd_eqD (K := K) (x := cD es) (y := .lst []) (p := .list (es.map eP)) (q := .list []) (pyD_c es) rfl (shaped_c es) rfl
  have e : PyData.eqv (.list (es.map eP)) (.list []) = decide (es = []) := by
    cases es with
    | nil => rfl
    | cons e es => rw [decide_eq_false (by simp)]; rfl
  rw [e] at h
  exact h
/-! ### the defs -/
def C_et : Cn := fun Γ R => ∃ e : Ey, Γ = [.sh (eD e)] ∧ okE e ∧ R = fun d Γ' => d = .str (eT e)
def C_wc : Cn := fun Γ R => ∃ es : List Ey, Γ = [.sh (cD es)] ∧ (∀ e ∈ es, okE e) ∧ es.length ≤ 1000 ∧ R = fun d Γ' => d = .str (cT es)
theorem str_e (a : Str) : Str.empty ++ a = a := TL.ext_tl (by rw [TL.tl_append]; rfl)
theorem sum_eT : ∀ {es : List Ey}, (∀ e ∈ es, okE e) → ((es.map eT).map (·.length)).sum ≤ es.length * 6000
  | [], _ => Nat.le_refl 0
  | e :: es, h => by
    have h1 := len_eT (h e List.mem_cons_self)
    have h2 := sum_eT (es := es) fun x hx => h x (List.mem_cons_of_mem _ hx)
    rw [List.map_cons, List.map_cons, List.sum_cons, List.length_cons, Nat.add_mul]
    omega
section
variable {P : Program} {w : World} {K : PySem.W.Frag} {mg : Str → Option Value} {base : Heap} {f : Addr} {fd : FuncData}
theorem ok_et (F : FnP K "_entry_text" s__entry_text f fd) : FnOk P w K mg base CX0 1 f fd ["entry"] (spE C_et) := by
  refine fn_ok F sc__entry_text (fun Γ R ⟨p, h, _⟩ => by subst h; rfl) fun cdv A outer s H E hr => ⟨_, (pss_cons (ps_asg (pv 0) (pg_tup rfl (pgs_cons (pg_name (i := 1) sc__entry_text.nd rfl (by first | exact Or.inl rfl | exact Or.inr rfl)) (pgs_cons (pg_name (i := 2) sc__entry_text.nd rfl (by first | exact Or.inl rfl | exact Or.inr rfl)) (pgs_cons (pg_name (i := 3) sc__entry_text.nd rfl (by first | exact Or.inl rfl | exact Or.inr rfl)) pgs_nil)))))
      (pss_cons (ps_if (pt_cmpR op_isN1 (pv 3) pe_non (nomark _)) (pss_one (ps_ret (pe_joined (.cons (pe_fmt (pv 1)) (.cons pe_str (.cons (pe_fmt (pv 2)) .nil)))))) pss_nil)
      (pss_one (ps_ret (pe_joined (.cons (pe_fmt (pv 1)) (.cons pe_str (.cons (pe_fmt (pv 2)) (.cons pe_str (.cons (pe_fmt (pv 3)) .nil)))))))))), ?_⟩
  rintro Γ R ⟨e, rfl, ⟨h1, h2, h3⟩, rfl⟩ _
  obtain ⟨l, r, v⟩ := e
  have h1 : l < 100 := h1
  have h2 : r < 100 := h2
  have h3 : okO v := h3
  have g1 := lgE h1
  have g2 := lgE h2
  have b1 := len_nT g1
  have b2 := len_nT g2
  have d1 : (Str.ofString ".").length = 1 := by decide +kernel
  have d2 : (Str.ofString "=").length = 1 := by decide +kernel
  show SW _ [.sh (.tup [.int (l : Nat), .int (r : Nat), oD v]), .un, .un, .un] _
  refine sw_seq1 (sw_asgG (ep_var rfl) gt_tup3 rfl) ?_
  show SW _ [.sh (.tup [.int (l : Nat), .int (r : Nat), oD v]), .sh (.int (l : Nat)), .sh (.int (r : Nat)), .sh (oD v)] _
  cases v with
  | none =>
    refine sw_guard (b := true) (EtP.cast (et_test (ep_op (ep_var rfl) ep_non (rd_isN fun p z => by cases z))) rfl) (fun _ => ?_) fun z => by cases z
    refine sw_ret (EvP.cast (ep_fj (ej_cons (ep_fmtI (ep_var rfl) g1) (ej_cons ep_str (ej_cons (ep_fmtI (ep_var rfl) g2) ej_nil))) ?_) ?_) ⟨rfl, trivial⟩
    · show (nT (l : Nat)).length + ((Str.ofString ".").length + ((nT (r : Nat)).length + 0)) ≤ sizeLine
      rw [sizeLine_eq]; omega
    · show D.str (Str.empty ++ nT (l : Nat) ++ Str.ofString "." ++ nT (r : Nat)) = _
      rw [str_e]; rfl
  | some m =>
    have g3 := lgB h3.1 h3.2
    have b3 := len_nT g3
    refine sw_guard (b := false) (EtP.cast (et_test (ep_op (ep_var rfl) ep_non (rd_isN fun p z => by cases z))) rfl) (fun z => by cases z) fun _ => ?_
    refine sw_ret (EvP.cast (ep_fj (ej_cons (ep_fmtI (ep_var rfl) g1) (ej_cons ep_str (ej_cons (ep_fmtI (ep_var rfl) g2) (ej_cons ep_str (ej_cons (ep_fmtI (ep_var (d := .int m) rfl) g3) ej_nil))))) ?_) ?_) ⟨rfl, trivial⟩
    · show (nT (l : Nat)).length + ((Str.ofString ".").length + ((nT (r : Nat)).length + ((Str.ofString "=").length + ((nT m).length + 0)))) ≤ sizeLine
      rw [sizeLine_eq]; omega
    · show D.str (Str.empty ++ nT (l : Nat) ++ Str.ofString "." ++ nT (r : Nat) ++ Str.ofString "=" ++ nT m) = _
      rw [str_e]; rfl
theorem ok_wc (c__entry_text : Cal P w K mg base 1 "_entry_text" (spE C_et)) (F : FnP K "write_column" s_write_column f fd) : FnOk P w K mg base CX0 2 f fd ["column"] (spE C_wc) := by
  refine fn_ok F sc_write_column (fun Γ R ⟨p, h, _⟩ => by subst h; rfl) fun cdv A outer s H E hr => ⟨_, (pss_cons (ps_if (pt_cmpR (op_eqD hr.units) (pv 0) (pe_lst pa_nil) (nomark _)) (pss_one (ps_ret pe_str)) pss_nil)
      (pss_one (ps_ret (pe_join pe_str (pe_lc (own := [("entry", 1)]) (g := (gName 1)) (tt := tYes) rfl sc_write_column.nd (pi_list (pv 0)) (blkOk_by (own := [("entry", 1)]) (N := ["column", "entry"]) (sc := defScope s_write_column) (by decide +kernel)) (fun _ _ _ _ _ => (pg_name (i := 1) sc_write_column.nd rfl (Or.inl rfl))) (fun _ _ _ _ _ => pts_nil) (fun _ _ _ _ _ => (pe_c c__entry_text hr (by first | decide | omega) rfl (pa_cons (pv 1) pa_nil)))))))), ?_⟩
  rintro Γ R ⟨es, rfl, h, hl, rfl⟩ _
  show SW _ [.sh (cD es), .un] _
  refine sw_guard (b := decide (es = [])) (et_test (ep_op (ep_var rfl) (EvF.p (ef_lst ea_nil (by show 0 ≤ sizeLine; decide))) (rd_eqNil es))) (fun z => ?_) fun z => ?_
  · have e := of_decide_eq_true z
    subst e
    exact sw_ret ep_str ⟨rfl, trivial⟩
  · have ne := of_decide_eq_false z
    have e : cT es = Txt.join (Str.ofString " ") (es.map eT) := by
      cases es with
      | nil => exact absurd rfl ne
      | cons e es => rfl
    have s1 := sum_eT h
    have e1 : (Str.ofString " ").length = 1 := by decide +kernel
    refine sw_ret (EvP.cast (ep_join ep_str (EvP.cast (EvF.p (ef_map es eD (fun e => .str (eT e)) (wi_list (ep_var rfl)) (by rw [sizeLine_eq]; omega) fun e he => ⟨_, gv_name (by decide), ep_call (ea_cons (ep_var rfl) ea_nil) ⟨e, rfl, h e he, rfl⟩ fun e Γ' h => h⟩)) ?_) ?_) (congrArg D.str e.symm)) ⟨rfl, trivial⟩
    · show D.lst _ = D.lst _
      rw [List.map_map]; rfl
    · rw [List.length_map, e1]; omega
end
end Lz
set_option Elab.async false
set_option linter.all false
set_option maxRecDepth 100000
set_option maxHeartbeats 4000000
/-! C4: k81: an entry read. -/
namespace Lz
open PySem PySem.Spec PyProof.Rows L2 DL XS
local macro_rules | `(tactic| walk_at "sd") => `(tactic| first
  | assumption
  | exact .inl ⟨by decide, by decide⟩ | exact ⟨by decide, by decide, by decide⟩ | exact ⟨by decide, by decide⟩
  | (show (0 : Int) < _; first | decide | omega) | exact ⟨by omega, by omega⟩ | exact .inl ⟨by omega, by omega⟩ | exact .inr ⟨by omega, by omega⟩ | exact .inr ⟨by decide, by decide⟩ | omega)
local macro_rules | `(tactic| walk_at "ep") => `(tactic| first
  | exact ep_int | exact ep_str | exact ep_bl | exact ep_non | exact ep_ref | exact ep_ty
  | exact ep_var rfl
  | (refine' ep_ixM (.inr rfl) ?ka ?kr; (case ka => walk_at "ep"); (case kr => exact rfl))
  | (refine' ep_ixM (.inl rfl) ?ka ?kr; (case ka => walk_at "ep"); (case kr => exact rfl))
  | (refine' ep_op ?ka ?kb rd_I0i; (case ka => walk_at "ep"); (case kb => walk_at "ep"))
  | (refine' ep_op ?ka ?kb rd_I0b; (case ka => walk_at "ep"); (case kb => walk_at "ep"))
  | (refine' ep_op ?ka ?kb (rd_Ii ?sd); (case ka => walk_at "ep"); (case kb => walk_at "ep"); (case sd => walk_at "sd"))
  | (refine' ep_op ?ka ?kb rd_eqI; (case ka => walk_at "ep"); (case kb => walk_at "ep"))
  | (refine' ep_op ?ka ?kb rd_eqS; (case ka => walk_at "ep"); (case kb => walk_at "ep"))
  | (refine' ep_op ?ka ?kb rd_neI; (case ka => walk_at "ep"); (case kb => walk_at "ep"))
  | (refine' ep_op ?ka ?kb rd_neS; (case ka => walk_at "ep"); (case kb => walk_at "ep")))
local macro_rules | `(tactic| walk_at "et") => `(tactic| first
  | (refine' et_test ?ka; (case ka => walk_at "ep"))
  | (refine' et_not ?ka; (case ka => walk_at "et"))
  | (refine' et_and ?ka fun _ => ?kb; (case ka => walk_at "et"); (case kb => walk_at "et"))
  | (refine' et_or ?ka fun _ => ?kb; (case ka => walk_at "et"); (case kb => walk_at "et")))
theorem sc__law_line : FnScope ["sheet", "found", "first", "opens", "worth", "word"] ["sheet"] (defScope s__law_line) := ⟨rfl, rfl, rfl, by decide +kernel, rfl, by decide +kernel, by decide +kernel⟩
def C_ei : Cn := fun Γ R => ∃ e : Ey, Γ = [.sh (.str (eT e))] ∧ okE e ∧ R = fun d Γ' => d = eD e
theorem dot_tl : TL.tl (Str.ofString ".") = [46] := by decide +kernel
theorem eq_tl : TL.tl (Str.ofString "=") = [61] := by decide +kernel
theorem nT_no {c : Nat} (hc : c < 48 ∨ 57 < c) (n : Nat) : c ∉ TL.tl (nT (n : Int)) := fun h => by
  rw [tl_nn] at h
  exact TL.numL_free hc h
theorem lT_no {c : Nat} (hc : c < 48 ∨ 57 < c) (hd : c ≠ 46) (e : Ey) : c ∉ TL.tl (lT e) := fun h => by
  rw [TL.tl_append, TL.tl_append, dot_tl] at h
  rcases List.mem_append.mp h with h | h
  · rcases List.mem_append.mp h with h | h
    · exact nT_no hc _ h
    · exact hd (List.mem_singleton.mp h)
  · exact nT_no hc _ h
section
variable {P : Program} {w : World} {K : PySem.W.Frag} {mg : Str → Option Value} {base : Heap} {f : Addr} {fd : FuncData}
theorem ok_ei (T : Kx mg) (c_plain_number : Cal P w K mg base 1 "plain_number" (spE C_plain)) (c__signed_number : Cal P w K mg base 2 "_signed_number" (spE C_signed)) (F : FnP K "_entry_in" s__entry_in f fd) : FnOk P w K mg base CX0 3 f fd ["word"] (spE C_ei) := by
  refine fn_ok F sc__entry_in (fun Γ R ⟨p, h, _⟩ => by subst h; rfl) fun cdv A outer s H E hr => ⟨_, (pss_cons (ps_asg (pe_partition (pv 0) pe_str) (pg_tup rfl (pgs_cons (pg_name (i := 1) sc__entry_in.nd rfl (by first | exact Or.inl rfl | exact Or.inr rfl)) (pgs_cons (pg_name (i := 2) sc__entry_in.nd rfl (by first | exact Or.inl rfl | exact Or.inr rfl)) (pgs_cons (pg_name (i := 3) sc__entry_in.nd rfl (by first | exact Or.inl rfl | exact Or.inr rfl)) pgs_nil)))))
      (pss_cons (ps_asg (pe_partition (pv 1) pe_str) (pg_tup rfl (pgs_cons (pg_name (i := 4) sc__entry_in.nd rfl (by first | exact Or.inl rfl | exact Or.inr rfl)) (pgs_cons (pg_name (i := 5) sc__entry_in.nd rfl (by first | exact Or.inl rfl | exact Or.inr rfl)) (pgs_cons (pg_name (i := 6) sc__entry_in.nd rfl (by first | exact Or.inl rfl | exact Or.inr rfl)) pgs_nil)))))
      (pss_cons (ps_par3 (i := 7) (j := 8) (l := 9) rfl sc__entry_in.nd rfl rfl rfl (by decide) (by decide) (by decide) rfl rfl rfl (pa_cons (pe_c c_plain_number hr (by first | decide | omega) rfl (pa_cons (pv 4) pa_nil)) (pa_cons (pe_c c_plain_number hr (by first | decide | omega) rfl (pa_cons (pv 6) pa_nil)) (pa_cons (pe_c c__signed_number hr (by first | decide | omega) rfl (pa_cons (pv 3) pa_nil)) pa_nil))) (by rfl))
      (pss_cons (ps_if (PW.pt (pw_or (pt_cmpR op_isN1 (pv 7) pe_non (nomark _)) (pw_or (pt_cmpR op_isN1 (pv 8) pe_non (nomark _)) (pw_or (pt_cmpR op_gt (pv 7) (pe_gc rfl T.g_GREATEST_LEVEL) (nomark _)) (pw_or1 (pt_cmpR op_gt (pv 8) (pe_gc rfl T.g_GREATEST_LEVEL) (nomark _))))))) (pss_one (ps_ret pe_non)) pss_nil)
      (pss_cons (ps_if (pt_cmpR op_ne (pe_cmpR op_eq (pv 2) pe_str (nomark _)) (pe_cmpR op_isN1 (pv 9) pe_non (nomark _)) (nomark _)) (pss_one (ps_ret pe_non)) pss_nil)
      (pss_one (ps_ret (pe_tup (pa_cons (pv 7) (pa_cons (pv 8) (pa_cons (pv 9) pa_nil))))))))))), ?_⟩
  rintro Γ R ⟨e, rfl, ok, rfl⟩ _
  have lh := len_eT ok
  have lh2 : (lT e).length ≤ 6000 := by
    refine Nat.le_trans ?_ (len_eT (e := ⟨e.l, e.r, none⟩) ⟨ok.1, ok.2.1, trivial⟩)
    exact Nat.le_refl _
  have o1 : ((Str.ofString "=").length == 0) = false := by decide +kernel
  have o2 : ((Str.ofString ".").length == 0) = false := by decide +kernel
  have p2 : Txt.partition (lT e) (Str.ofString ".") = (nT (e.l : Int), Str.ofString ".", nT (e.r : Int)) := TL.partition_app dot_tl (nT_no (.inl (by decide)) _)
  obtain ⟨sg, p1, hs⟩ : ∃ sg : Str, Txt.partition (eT e) (Str.ofString "=") = (lT e, sg, oT e.v) ∧ decide (sg = Str.ofString "") = isNon (oD e.v) := by
    have hq := lT_no (c := 61) (.inr (by decide)) (by decide) e
    obtain ⟨l, r, v⟩ := e
    cases v with
    | none => exact ⟨Str.empty, TL.partition_none eq_tl hq, show decide (Str.empty = Str.ofString "") = true by decide +kernel⟩
    | some m => exact ⟨Str.ofString "=", TL.partition_app eq_tl hq, show decide (Str.ofString "=" = Str.ofString "") = false by decide +kernel⟩
  show SW _ [.sh (.str (eT e)), .un, .un, .un, .un, .un, .un, .un, .un, .un] _
  refine sw_seq1 (sw_asgG (ep_part (ep_var rfl) ep_str o1 (by rw [sizeLine_eq]; omega) p1) gt_tup3 rfl) ?_
  refine sw_seq1 (sw_asgG (ep_part (ep_var (d := .str (lT e)) rfl) ep_str o2 (by rw [sizeLine_eq]; omega) p2) gt_tup3 rfl) ?_
  show SW _ [.sh (.str (eT e)), .sh (.str (lT e)), .sh (.str sg), .sh (.str (oT e.v)), .sh (.str (nT (e.l : Int))), .sh (.str (Str.ofString ".")), .sh (.str (nT (e.r : Int))), .un, .un, .un] _
  obtain ⟨h1, h2, h3⟩ := ok
  have nb : ∀ o : Option Int, ∀ p, oD o ≠ .opq p := fun o p z => by cases o <;> cases z
  refine sw_seq1 (sw_par3P (ep_call (ea_cons (ep_var rfl) ea_nil) (.inl ⟨e.l, rfl, by unfold bg; omega, rfl⟩) fun e Γ' h => h) (ep_call (ea_cons (ep_var rfl) ea_nil) (.inl ⟨e.r, rfl, by unfold bg; omega, rfl⟩) fun e Γ' h => h) (ep_call (ea_cons (ep_var rfl) ea_nil) ⟨e.v, rfl, h3, rfl⟩ fun e Γ' h => h) rfl) ?_
  show SW _ [.sh (.str (eT e)), .sh (.str (lT e)), .sh (.str sg), .sh (.str (oT e.v)), .sh (.str (nT (e.l : Int))), .sh (.str (Str.ofString ".")), .sh (.str (nT (e.r : Int))), .sh (.int (e.l : Nat)), .sh (.int (e.r : Nat)), .sh (oD e.v)] _
  refine sw_guard (b := false) (EtP.cast (et_or (et_test (ep_op (ep_var rfl) ep_non (rd_isN fun p z => by cases z))) fun _ => et_or (et_test (ep_op (ep_var rfl) ep_non (rd_isN fun p z => by cases z))) fun _ => et_or (et_test (ep_op (ep_var (d := .int (e.l : Nat)) rfl) ep_int rd_I0b)) fun _ => et_test (ep_op (ep_var (d := .int (e.r : Nat)) rfl) ep_int rd_I0b)) ?_) (fun z => by cases z) fun _ => ?_
  · show (false || (false || (decide (((e.l : Nat) : Int) > 99) || decide (((e.r : Nat) : Int) > 99)))) = false
    rw [decide_eq_false (by omega), decide_eq_false (by omega)]; rfl
  refine sw_guard (b := false) (EtP.cast (et_test (ep_op (ep_op (ep_var rfl) ep_str rd_eqS) (ep_op (ep_var rfl) ep_non (rd_isN (nb e.v))) rd_neB)) ?_) (fun z => by cases z) fun _ => ?_
  · rw [hs, decide_eq_true rfl]; rfl
  exact sw_ret (ep_tup (ea_cons (ep_var rfl) (ea_cons (ep_var rfl) (ea_cons (ep_var rfl) ea_nil))) (by show 3 ≤ sizeLine; decide)) ⟨rfl, trivial⟩
end
end Lz
set_option Elab.async false
set_option linter.all false
set_option maxRecDepth 100000
set_option maxHeartbeats 4000000
/-! C5: k81: the law's own text of a column. -/
namespace DL
open PySem PySem.Spec PyProof.Rows L2
section
variable {x : D}
theorem rd_notN (h : ∀ p, x ≠ .opq p) : RD rNotN x .non (.bl (!isNon x)) := fun F H vx vy e rx ry Q k => ⟨ry, by rw [rep_non h rx]; exact k _ F H (.refl e) rfl⟩
abbrev rInt1 : List V → Hp → VK → Prop := fun xs H Q => (∃ i, xs = [.int i] ∧ Q (.int i) H) ∨ ∃ k, xs = [.bl k] ∧ Q (.int (if k then 1 else 0)) H
theorem rc_intB {k : Bool} : RC rInt1 [.bl k] (.int (if k then 1 else 0)) := fun F H vs e r Q q => by
  obtain ⟨v, _, rfl, rv, rfl⟩ := r
  cases (show v = .bl k from rv)
  exact .inr ⟨k, rfl, q _ F H (.refl e) rfl⟩
end
end DL
namespace Lz
open PySem PySem.Spec PyProof.Rows L2 DL XS
local macro_rules | `(tactic| walk_at "sd") => `(tactic| first
  | assumption
  | exact .inl ⟨by decide, by decide⟩ | exact ⟨by decide, by decide, by decide⟩ | exact ⟨by decide, by decide⟩
  | (show (0 : Int) < _; first | decide | omega) | exact ⟨by omega, by omega⟩ | exact .inl ⟨by omega, by omega⟩ | exact .inr ⟨by omega, by omega⟩ | exact .inr ⟨by decide, by decide⟩ | omega)
local macro_rules | `(tactic| walk_at "ep") => `(tactic| first
  | exact ep_int | exact ep_str | exact ep_bl | exact ep_non | exact ep_ref | exact ep_ty
  | exact ep_var rfl
  | (refine' ep_ixM (.inr rfl) ?ka ?kr; (case ka => walk_at "ep"); (case kr => exact rfl))
  | (refine' ep_ixM (.inl rfl) ?ka ?kr; (case ka => walk_at "ep"); (case kr => exact rfl))
  | (refine' ep_op ?ka ?kb rd_I0i; (case ka => walk_at "ep"); (case kb => walk_at "ep"))
  | (refine' ep_op ?ka ?kb rd_I0b; (case ka => walk_at "ep"); (case kb => walk_at "ep"))
  | (refine' ep_op ?ka ?kb (rd_Ii ?sd); (case ka => walk_at "ep"); (case kb => walk_at "ep"); (case sd => walk_at "sd"))
  | (refine' ep_op ?ka ?kb rd_eqI; (case ka => walk_at "ep"); (case kb => walk_at "ep"))
  | (refine' ep_op ?ka ?kb rd_eqS; (case ka => walk_at "ep"); (case kb => walk_at "ep"))
  | (refine' ep_op ?ka ?kb rd_neI; (case ka => walk_at "ep"); (case kb => walk_at "ep"))
  | (refine' ep_op ?ka ?kb rd_neS; (case ka => walk_at "ep"); (case kb => walk_at "ep")))
local macro_rules | `(tactic| walk_at "et") => `(tactic| first
  | (refine' et_test ?ka; (case ka => walk_at "ep"))
  | (refine' et_not ?ka; (case ka => walk_at "et"))
  | (refine' et_and ?ka fun _ => ?kb; (case ka => walk_at "et"); (case kb => walk_at "et"))
  | (refine' et_or ?ka fun _ => ?kb; (case ka => walk_at "et"); (case kb => walk_at "et")))
theorem jn_one (a : Str) : jn [a] = a := by show Txt.join " " [a] = a; rw [TL.join_eq]; rfl
theorem jn_cons (a : Str) {ws : List Str} (h : ws ≠ []) : jn (a :: ws) = a ++ " " ++ jn ws := by
  cases ws with
  | nil => exact absurd rfl h
  | cons b r => show Txt.join " " _ = a ++ " " ++ Txt.join " " _; rw [TL.join_eq, TL.join_eq]; rfl
theorem jn_app : ∀ {us ws : List Str}, us ≠ [] → ws ≠ [] → jn (us ++ ws) = jn us ++ " " ++ jn ws
  | [], _, h, _ => absurd rfl h
  | [u], ws, _, h => by rw [List.singleton_append, jn_cons u h, jn_one]
  | u :: v :: r, ws, _, h => by
    rw [List.cons_append, jn_cons u (by simp), jn_app (us := v :: r) (by simp) h, jn_cons u (by simp)]
    simp only [Str.append_assoc]
def fT : List Ey → Str
  | [] => Str.ofString ""
  | e :: es => jn ((e :: es).map eT)
theorem fT_ne {es : List Ey} (h : es ≠ []) : fT es = jn (es.map eT) := by
  cases es with
  | nil => exact absurd rfl h
  | cons e es => rfl
theorem eT_pos (e : Ey) : 1 ≤ (eT e).length := by
  have d1 : (Str.ofString ".").length = 1 := by decide +kernel
  have al : 1 ≤ (lT e).length := by rw [Str.length_append, Str.length_append]; omega
  unfold eT
  cases e.v with
  | none => exact al
  | some m =>
    show 1 ≤ (lT e ++ Str.ofString "=" ++ nT m).length
    rw [Str.length_append, Str.length_append]; omega
theorem jn_len (a : Str) (ws : List Str) : a.length ≤ (jn (a :: ws)).length := by
  cases ws with
  | nil => rw [jn_one]; exact Nat.le_refl _
  | cons b r => rw [jn_cons a (by simp), Str.length_append, Str.length_append]; omega
theorem fT_dec (es : List Ey) : decide (fT es = Str.ofString "") = decide (es = []) := by
  cases es with
  | nil => rfl
  | cons e es =>
    rw [decide_eq_false (show ¬ (e :: es = []) by simp)]
    refine decide_eq_false fun z => ?_
    have h1 := eT_pos e
    have h2 := jn_len (eT e) (es.map eT)
    have h3 : (fT (e :: es)).length = 0 := by rw [z]; decide +kernel
    have h4 : (fT (e :: es)).length = (jn (eT e :: es.map eT)).length := rfl
    omega
theorem mul0 : Txt.mul (Str.ofString " ") 0 = Str.ofString "" := by decide +kernel
theorem mul1 : Txt.mul (Str.ofString " ") 1 = Str.ofString " " := by decide +kernel
theorem mok : ∀ b : Bool, MulOk (Str.ofString " ") (if b then 1 else 0)
  | true => by unfold MulOk; decide +kernel
  | false => by unfold MulOk; decide +kernel
theorem fT_snoc (xs : List Ey) (e : Ey) : fT (xs ++ [e]) = fT xs ++ Txt.mul (Str.ofString " ") (if !decide (xs = []) then 1 else 0) ++ eT e := by
  cases xs with
  | nil =>
    show jn [eT e] = Str.ofString "" ++ Txt.mul (Str.ofString " ") 0 ++ eT e
    rw [jn_one, mul0]
    exact TL.ext_tl (by rw [TL.tl_append, TL.tl_append]; rfl)
  | cons x xs =>
    rw [fT_ne (by simp), List.map_append, List.map_cons (l := []), List.map_nil, jn_app (by simp) (by simp), jn_one, decide_eq_false (show ¬ (x :: xs = []) by simp)]
    show _ = fT (x :: xs) ++ Txt.mul (Str.ofString " ") 1 ++ eT e
    rw [mul1]; rfl
theorem len_fT : ∀ {es : List Ey}, (∀ e ∈ es, okE e) → (fT es).length ≤ es.length * 6001 := fun {es} h => by
  have l1 : ∀ (ws : List Str), (∀ u ∈ ws, u.length ≤ 6000) → ws ≠ [] → (jn ws).length ≤ ws.length * 6001 := fun ws => by
    induction ws with
    | nil => intro _ z; exact absurd rfl z
    | cons a r ih =>
      intro hu _
      have ha := hu a List.mem_cons_self
      cases r with
      | nil => rw [jn_one]; show a.length ≤ 1 * 6001; omega
      | cons b r =>
        have := ih (fun u hx => hu u (List.mem_cons_of_mem _ hx)) (by simp)
        have e1 : (Str.ofString " ").length = 1 := by decide +kernel
        rw [jn_cons a (by simp), Str.length_append, Str.length_append, List.length_cons, Nat.add_mul]
        show a.length + (Str.ofString " ").length + _ ≤ _
        omega
  cases es with
  | nil => show (Str.ofString "").length ≤ _; have : (Str.ofString "").length = 0 := by decide +kernel
           omega
  | cons e es =>
    have := l1 ((e :: es).map eT) (fun u hu => by
      obtain ⟨x, hx, rfl⟩ := List.mem_map.mp hu
      exact len_eT (h x hx)) (by simp)
    rw [List.length_map] at this
    exact this
theorem cT_fT (es : List Ey) : cT es = if decide (fT es = Str.ofString "") then Str.ofString "-" else fT es := by
  rw [fT_dec]
  cases es with
  | nil => rfl
  | cons e es => rfl
section
variable {P : Program} {w : World} {K : PySem.W.Frag} {mg : Str → Option Value} {base : Heap} {f : Addr} {fd : FuncData}
theorem ok_line (T : Tx mg) (F : FnP K "_law_line" s__law_line f fd) : FnOk P w K mg base CX0 1 f fd ["sheet"] (spE C_wc) := by
  refine fn_ok F sc__law_line (fun Γ R ⟨p, h, _⟩ => by subst h; rfl) fun cdv A outer s H E hr => ⟨_, (pss_cons (ps_set (i := 1) sc__law_line.nd rfl (by first | exact Or.inl rfl | exact Or.inr rfl) pe_str)
      (pss_cons (ps_for PassesOwn.never rfl (pi_list (pv 0)) (pg_tup rfl (pgs_cons (pg_name (i := 2) sc__law_line.nd rfl (by first | exact Or.inl rfl | exact Or.inr rfl)) (pgs_cons (pg_name (i := 3) sc__law_line.nd rfl (by first | exact Or.inl rfl | exact Or.inr rfl)) (pgs_cons (pg_name (i := 4) sc__law_line.nd rfl (by first | exact Or.inl rfl | exact Or.inr rfl)) pgs_nil)))) (pss_cons (ps_set (i := 5) sc__law_line.nd rfl (by first | exact Or.inl rfl | exact Or.inr rfl) (pe_op op_add_str (pe_op op_add_str (pe_callB SkE.call_repr_int rfl T.z_repr (by decide +kernel) (pa_cons (pv 2) pa_nil)) pe_str) (pe_callB SkE.call_repr_int rfl T.z_repr (by decide +kernel) (pa_cons (pv 3) pa_nil))))
      (pss_cons (ps_if (pt_cmpR op_notN (pv 4) pe_non (nomark _)) (pss_one (ps_set (i := 5) sc__law_line.nd rfl (by first | exact Or.inl rfl | exact Or.inr rfl) (pe_op op_add_str (pe_op op_add_str (pv 5) pe_str) (pe_callB SkE.call_repr_int rfl T.z_repr (by decide +kernel) (pa_cons (pv 4) pa_nil))))) pss_nil)
      (pss_one (ps_set (i := 1) sc__law_line.nd rfl (by first | exact Or.inl rfl | exact Or.inr rfl) (pe_op op_add_str (pe_op op_add_str (pv 1) (pe_op op_repS pe_str (pe_callTy call_int1 rfl T.z_int (by decide +kernel) (pa_cons (pe_cmpR op_ne (pv 1) pe_str (nomark _)) pa_nil)))) (pv 5)))))))
      (pss_one (ps_ret (pe_ifExp (pt_cmpR op_ne (pv 1) pe_str (nomark _)) (pv 1) pe_str))))), ?_⟩
  rintro Γ R ⟨es, rfl, hes, hl, rfl⟩ _
  show SW _ [.sh (cD es), .un, .un, .un, .un, .un] _
  refine q_asg ep_str ?_
  refine sw_seq (fun Γ' => ∃ e2 e3 e4 e5, Γ' = [.sh (cD es), .sh (.str (fT es)), e2, e3, e4, e5]) (sw_for (fun i Γ' => ∃ e2 e3 e4 e5, Γ' = [.sh (cD es), .sh (.str (fT (es.take i))), e2, e3, e4, e5]) (wi_list (ep_var rfl)) ⟨.un, .un, .un, .un, rfl⟩ ?_ ?_) ?_
  · rintro i d _ hd ⟨e2, e3, e4, e5, rfl⟩
    rw [List.getElem?_map] at hd
    obtain ⟨e, he, rfl⟩ := Option.map_eq_some_iff.mp hd
    have hi : i < es.length := (List.getElem?_eq_some_iff.mp he).1
    have ok := hes e (List.mem_of_getElem? he)
    obtain ⟨h1, h2, h3⟩ := ok
    have g1 := lgE h1
    have g2 := lgE h2
    have b1 := len_nT g1
    have b2 := len_nT g2
    have d1 : (Str.ofString ".").length = 1 := by decide +kernel
    have d2 : (Str.ofString "=").length = 1 := by decide +kernel
    have bl := len_fT (es := es.take i) fun x hx => hes x (List.mem_of_mem_take hx)
    have bi : (es.take i).length = i := by rw [List.length_take]; omega
    have be := len_eT ⟨h1, h2, h3⟩
    refine ⟨_, gt_tup3, ?_⟩
    show SW _ [.sh (cD es), .sh (.str (fT (es.take i))), .sh (.int (e.l : Nat)), .sh (.int (e.r : Nat)), .sh (oD e.v), e5] _
    have al : (lT e).length ≤ 3900 := by rw [Str.length_append, Str.length_append]; omega
    refine q_asg (d := .str (lT e)) (ep_op (ep_op (ep_cb (ea_cons (ep_var rfl) ea_nil) (rc_reprI g1)) ep_str (rd_addS (by show (nT (e.l : Nat)).length + _ ≤ _; rw [sizeLine_eq]; omega))) (ep_cb (ea_cons (ep_var rfl) ea_nil) (rc_reprI g2)) (rd_addS (by show (nT (e.l : Nat) ++ Str.ofString ".").length + (nT (e.r : Nat)).length ≤ _; rw [Str.length_append, sizeLine_eq]; omega))) ?_
    show SW _ [.sh (cD es), .sh (.str (fT (es.take i))), .sh (.int (e.l : Nat)), .sh (.int (e.r : Nat)), .sh (oD e.v), .sh (.str (lT e))] _
    have nb : ∀ p, oD e.v ≠ .opq p := fun p z => by
      cases hv : e.v with
      | none => rw [hv] at z; cases z
      | some m => rw [hv] at z; cases z
    refine sw_seq1 (Γ' := [.sh (cD es), .sh (.str (fT (es.take i))), .sh (.int (e.l : Nat)), .sh (.int (e.r : Nat)), .sh (oD e.v), .sh (.str (eT e))]) (sw_if (b := !isNon (oD e.v)) (et_test (ep_op (ep_var rfl) ep_non (rd_notN nb))) (fun hb => ?_) fun hb => ?_) ?_
    · cases hv : e.v with
      | none => rw [hv] at hb; cases hb
      | some m =>
        rw [hv] at h3
        have g3 := lgB h3.1 h3.2
        have b3 := len_nT g3
        have e1 : eT e = lT e ++ Str.ofString "=" ++ nT m := by unfold eT; rw [hv]
        rw [e1]
        exact sw_asg (ep_op (ep_op (ep_var rfl) ep_str (rd_addS (by rw [sizeLine_eq]; omega))) (ep_cb (ea_cons (ep_var (d := .int m) rfl) ea_nil) (rc_reprI g3)) (rd_addS (by show (lT e ++ Str.ofString "=").length + (nT m).length ≤ _; rw [Str.length_append, sizeLine_eq]; omega))) rfl
    · cases hv : e.v with
      | some m => rw [hv] at hb; cases hb
      | none =>
        have e1 : eT e = lT e := by unfold eT; rw [hv]
        rw [e1]
        exact sw_next rfl
    have m1 : (Txt.mul (Str.ofString " ") (if !decide (es.take i = []) then 1 else 0)).length ≤ 1 := by
      cases decide (es.take i = []) with
      | true => show (Txt.mul (Str.ofString " ") 0).length ≤ 1; rw [mul0]; decide +kernel
      | false => show (Txt.mul (Str.ofString " ") 1).length ≤ 1; rw [mul1]; decide +kernel
    refine sw_asg (d := .str (fT (es.take (i + 1)))) (EvP.cast (ep_op (ep_op (ep_var rfl) (ep_op ep_str (ep_cb (ea_cons (EvP.cast (ep_op (ep_var rfl) ep_str rd_neS) (by rw [fT_dec])) ea_nil) rc_intB) (rd_repS (mok _))) (rd_addS ?_)) (ep_var rfl) (rd_addS ?_)) ?_) ⟨_, _, _, _, rfl⟩
    · rw [sizeLine_eq]; omega
    · rw [Str.length_append, sizeLine_eq]; omega
    · have et : es.take (i + 1) = es.take i ++ [e] := by rw [List.take_add_one, he]; rfl
      rw [et, fT_snoc]
  · rintro _ ⟨e2, e3, e4, e5, rfl⟩
    rw [List.length_map, List.take_length]
    exact ⟨e2, e3, e4, e5, rfl⟩
  rintro _ ⟨e2, e3, e4, e5, rfl⟩
  refine sw_ret (d := .str (cT es)) (ep_if (b := !decide (fT es = Str.ofString "")) (et_test (ep_op (ep_var rfl) ep_str rd_neS)) (fun hb => EvP.cast (ep_var rfl) ?_) fun hb => EvP.cast ep_str ?_) ⟨rfl, trivial⟩
  · rw [cT_fT]
    cases hx : decide (fT es = Str.ofString "") with
    | true => rw [hx] at hb; cases hb
    | false => rfl
  · rw [cT_fT]
    cases hx : decide (fT es = Str.ofString "") with
    | false => rw [hx] at hb; cases hb
    | true => rfl
end
end Lz
set_option Elab.async false
set_option linter.all false
set_option maxRecDepth 100000
set_option maxHeartbeats 4000000
/-! C6: k81: read_column. -/
namespace Lz
open PySem PySem.Spec PyProof.Rows L2 DL XS
local macro_rules | `(tactic| walk_at "sd") => `(tactic| first
  | assumption
  | exact .inl ⟨by decide, by decide⟩ | exact ⟨by decide, by decide, by decide⟩ | exact ⟨by decide, by decide⟩
  | (show (0 : Int) < _; first | decide | omega) | exact ⟨by omega, by omega⟩ | exact .inl ⟨by omega, by omega⟩ | exact .inr ⟨by omega, by omega⟩ | exact .inr ⟨by decide, by decide⟩ | omega)
local macro_rules | `(tactic| walk_at "ep") => `(tactic| first
  | exact ep_int | exact ep_str | exact ep_bl | exact ep_non | exact ep_ref | exact ep_ty
  | exact ep_var rfl
  | (refine' ep_ixM (.inr rfl) ?ka ?kr; (case ka => walk_at "ep"); (case kr => exact rfl))
  | (refine' ep_ixM (.inl rfl) ?ka ?kr; (case ka => walk_at "ep"); (case kr => exact rfl))
  | (refine' ep_op ?ka ?kb rd_I0i; (case ka => walk_at "ep"); (case kb => walk_at "ep"))
  | (refine' ep_op ?ka ?kb rd_I0b; (case ka => walk_at "ep"); (case kb => walk_at "ep"))
  | (refine' ep_op ?ka ?kb (rd_Ii ?sd); (case ka => walk_at "ep"); (case kb => walk_at "ep"); (case sd => walk_at "sd"))
  | (refine' ep_op ?ka ?kb rd_eqI; (case ka => walk_at "ep"); (case kb => walk_at "ep"))
  | (refine' ep_op ?ka ?kb rd_eqS; (case ka => walk_at "ep"); (case kb => walk_at "ep"))
  | (refine' ep_op ?ka ?kb rd_neI; (case ka => walk_at "ep"); (case kb => walk_at "ep"))
  | (refine' ep_op ?ka ?kb rd_neS; (case ka => walk_at "ep"); (case kb => walk_at "ep")))
local macro_rules | `(tactic| walk_at "et") => `(tactic| first
  | (refine' et_test ?ka; (case ka => walk_at "ep"))
  | (refine' et_not ?ka; (case ka => walk_at "et"))
  | (refine' et_and ?ka fun _ => ?kb; (case ka => walk_at "et"); (case kb => walk_at "et"))
  | (refine' et_or ?ka fun _ => ?kb; (case ka => walk_at "et"); (case kb => walk_at "et")))
theorem sc_read_column : FnScope ["text", "words", "entries", "place", "word", "entry"] ["text"] (defScope s_read_column) := ⟨rfl, rfl, rfl, by decide +kernel, rfl, by decide +kernel, by decide +kernel⟩
def I1 (f : Str) : List D → List (Str × V) → Prop := fun args fs => ∃ i : Int, args = [.int i] ∧ i.natAbs.log2 < 1920 ∧ fs = [(f, .int i)]
def C_rc : CnF := fun es Rl => ∃ ys : List Ey, es = [.str (cT ys)] ∧ (∀ e ∈ ys, okE e) ∧ ys.length ≤ 400 ∧ Rl = fun ds => ds = ys.map eD
def B_rc : List D → Int → Prop := fun es v => ∃ ys : List Ey, es = [.str (cT ys)] ∧ (∀ e ∈ ys, okE e) ∧ 400 < ys.length ∧ ys.length ≤ 1000 ∧ v = 400
theorem tl_sp : TL.tl (Str.ofString " ") = [32] := by decide +kernel
theorem sp_all : (Str.ofString " ").cps.all (· < 256) = true := by decide +kernel
theorem nTi_no {c : Nat} (hc : c < 48 ∨ 57 < c) (hd : c ≠ 45) (m : Int) : c ∉ TL.tl (nT m) := fun h => by
  by_cases hm : m < 0
  · rw [tl_neg hm] at h
    have h' : c ∈ (45 :: TL.numL m.natAbs) := h
    rcases List.mem_cons.mp h' with h1 | h1
    · exact hd h1
    · exact TL.numL_free hc h1
  · obtain ⟨n, rfl⟩ : ∃ n : Nat, m = (n : Int) := ⟨m.toNat, by omega⟩
    exact nT_no hc n h
theorem eT_free (e : Ey) : 32 ∉ TL.tl (eT e) := fun h => by
  have hl := lT_no (c := 32) (.inl (by decide)) (by decide) e
  unfold eT at h
  cases hv : e.v with
  | none => rw [hv] at h; exact hl h
  | some m =>
    rw [hv] at h
    have h' : 32 ∈ TL.tl (lT e ++ Str.ofString "=" ++ nT m) := h
    rw [TL.tl_append, TL.tl_append, eq_tl] at h'
    rcases List.mem_append.mp h' with h | h
    · rcases List.mem_append.mp h with h | h
      · exact hl h
      · exact absurd (List.mem_singleton.mp h) (by decide)
    · exact nTi_no (.inl (by decide)) (by decide) _ h
theorem eT_dot (e : Ey) : 46 ∈ TL.tl (eT e) := by
  have hl : 46 ∈ TL.tl (lT e) := by
    rw [TL.tl_append, TL.tl_append, dot_tl]
    exact List.mem_append.mpr (.inl (List.mem_append.mpr (.inr (List.mem_singleton.mpr rfl))))
  unfold eT
  cases e.v with
  | none => exact hl
  | some m =>
    show 46 ∈ TL.tl (lT e ++ Str.ofString "=" ++ nT m)
    rw [TL.tl_append, TL.tl_append]
    exact List.mem_append.mpr (.inl (List.mem_append.mpr (.inl hl)))
theorem eT_ne (e : Ey) : decide (eT e = Str.ofString "-") = false := decide_eq_false fun z => by
  have h := eT_dot e
  rw [z] at h
  have e1 : TL.tl (Str.ofString "-") = [45] := by decide +kernel
  rw [e1] at h
  exact absurd (List.mem_singleton.mp h) (by decide)
theorem split_c (e : Ey) (es : List Ey) : Txt.split (cT (e :: es)) " " = (e :: es).map eT := TL.split_join tl_sp sp_all (by simp) fun u hu => by
  obtain ⟨x, _, rfl⟩ := List.mem_map.mp hu
  exact eT_free x
theorem split_0 : Txt.split (cT []) " " = [Str.ofString "-"] := by
  have h := TL.split_join tl_sp sp_all (parts := [Str.ofString "-"]) (by simp) fun u hu => by
    rw [List.mem_singleton.mp hu]; decide +kernel
  rw [show Txt.join " " [Str.ofString "-"] = Str.ofString "-" from jn_one _] at h
  exact h
theorem len_cT {ys : List Ey} (h : ∀ e ∈ ys, okE e) (hl : ys.length ≤ 1000) : (cT ys).length + 2 ≤ sizeLine := by
  cases ys with
  | nil => decide +kernel
  | cons e es =>
    have := len_fT h
    show (fT (e :: es)).length + 2 ≤ sizeLine
    rw [sizeLine_eq]; omega
section
variable {P : Program} {w : World} {K : PySem.W.Frag} {mg : Str → Option Value} {base : Heap} {f : Addr} {fd : FuncData} {CX : Addr}
theorem ok_rc (T : Kx mg) (c__entry_in : Cal P w K mg base 3 "_entry_in" (spE C_ei)) (c_InvalidText : MakX P w K mg base 1 "InvalidText" CX ["place"] (spXr CX (I1 "place"))) (F : FnP K "read_column" s_read_column f fd) :
    FnOk P w K mg base (L2.CX P w) 4 f fd ["text"] (spUF C_rc CX "place" B_rc) := by
  refine fn_okUF F sc_read_column (fun es Rl ⟨p, h, _⟩ => by subst h; rfl) (fun es v ⟨z, h, _⟩ => by subst h; rfl) fun cdv A outer s H E hr => ?_
  have tk : Takes (cxOf (L2.CX P w) P w K mg base ["text", "words", "entries", "place", "word", "entry"] "read_column" (defScope s_read_column) f cdv A outer s H E) (fun cls d _ H => E cls d H) := takes_of rfl rfl rfl rfl
  have one : ((Str.ofString " ").length == 0) = false := by decide +kernel
  have turn : ∀ {ys : List Ey} {z : Str} {i : Nat} {d : D} {e3 e4 e5 : En} (hi : (enD (ys.map fun e => D.str (eT e)))[i]? = some d), ∃ e : Ey, ys[i]? = some e ∧ d = .tup [.int (i : Nat), .str (eT e)] := fun {ys z i d e3 e4 e5} hi => by
    unfold enD at hi
    rw [List.getElem?_map] at hi
    obtain ⟨j, hj, rfl⟩ := Option.map_eq_some_iff.mp hi
    obtain ⟨hl, e1⟩ := List.getElem?_eq_some_iff.mp hj
    rw [List.getElem_range] at e1
    subst e1
    have hl' : i < ys.length := by rwa [List.length_range, List.length_map] at hl
    refine ⟨ys[i], List.getElem?_eq_getElem hl', ?_⟩
    rw [List.getD_eq_getElem?_getD, List.getElem?_map, List.getElem?_eq_getElem hl']; rfl
  refine ⟨_, (pss_cons (ps_set (i := 1) sc_read_column.nd rfl (by first | exact Or.inl rfl | exact Or.inr rfl) (pe_split (pv 0) pe_str))
      (pss_cons (ps_if (pt_cmpR op_eq (pe_ix ix_list (pv 1) pe_int (fun _ _ => rfl)) pe_str (nomark _)) (pss_cons (ps_if (pt_cmpR op_gt (pe_callB call_len_seq rfl T.z_len (by decide +kernel) (pa_cons (pv 1) pa_nil)) pe_int (nomark _)) (pss_one ps_never) pss_nil)
      (pss_one (ps_ret (pe_lst pa_nil)))) pss_nil)
      (pss_cons (ps_set (i := 2) sc_read_column.nd rfl (by first | exact Or.inl rfl | exact Or.inr rfl) (pe_lst pa_nil))
      (pss_cons (ps_for (passes_of rfl) rfl (pi_enum rfl T.z_enumerate (pa_cons (pv 1) pa_nil)) (pg_tup rfl (pgs_cons (pg_name (i := 3) sc_read_column.nd rfl (by first | exact Or.inl rfl | exact Or.inr rfl)) (pgs_cons (pg_name (i := 4) sc_read_column.nd rfl (by first | exact Or.inl rfl | exact Or.inr rfl)) pgs_nil))) (pss_cons (ps_set (i := 5) sc_read_column.nd rfl (by first | exact Or.inl rfl | exact Or.inr rfl) (pe_c c__entry_in hr (by first | decide | omega) rfl (pa_cons (pv 4) pa_nil)))
      (pss_cons (ps_if (PW.pt (pw_or (pt_cmpR op_isN1 (pv 5) pe_non (nomark _)) (pw_or1 (pt_cmpR op_eq (pv 3) (pe_gc rfl T.g_MOST_ENTRIES) (nomark _))))) (pss_one (ps_rsX c_InvalidText tk rfl hr (by first | decide | omega) rfl (pa_cons (pv 3) pa_nil))) pss_nil)
      (pss_one (ps_expr (pe_bm PySem.F.plainAttrs_list PySem.F.slot_list_append PySem.F.type_list_append mt_append (pv 2) (pa_cons (pv 5) pa_nil)))))))
      (pss_one (ps_ret (pv 2))))))), ?_, ?_⟩
  · rintro es Rl ⟨ys, rfl, hy, hl, rfl⟩
    show SWL _ [.sh (.str (cT ys)), .un, .un, .un, .un, .un] _
    have l2 := len_cT hy (by omega)
    cases ys with
    | nil =>
      refine swl_seq (M := fun Γ' => Γ' = [.sh (.str (cT [])), .sh (.lst [.str (Str.ofString "-")]), .un, .un, .un, .un]) (sw_asg (EvF.p (ef_split (ep_var rfl) ep_str one l2 split_0)) rfl) ?_
      rintro _ rfl
      refine swl_ifT (EtP.cast (et_test (ep_op (ep_op (ep_var rfl) ep_int (rd_ixL (atI_nat (j := 0) rfl))) ep_str rd_eqS)) (decide_eq_true rfl)) ?_
      exact swl_guard (EtP.cast (et_test (ep_op (ep_cb (ea_cons (ep_var rfl) ea_nil) rc_len) ep_int rd_I0b)) rfl) (swl_ret (ef_lst ea_nil (by show 0 ≤ sizeLine; decide)) rfl)
    | cons e0 es =>
      refine swl_seq (M := fun Γ' => Γ' = [.sh (.str (cT (e0 :: es))), .sh (.lst ((e0 :: es).map fun e => D.str (eT e))), .un, .un, .un, .un]) (sw_asg (d := .lst ((e0 :: es).map fun e => D.str (eT e))) (EvP.cast (EvF.p (ef_split (ep_var rfl) ep_str one l2 (split_c e0 es))) (by rw [List.map_map]; rfl)) rfl) ?_
      rintro _ rfl
      refine swl_guard (EtP.cast (et_test (ep_op (ep_op (ep_var rfl) ep_int (rd_ixL (d := .str (eT e0)) (atI_nat (j := 0) rfl))) ep_str rd_eqS)) (eT_ne e0)) ?_
      refine swl_seq (M := fun Γ' => Γ' = [.sh (.str (cT (e0 :: es))), .sh (.lst ((e0 :: es).map fun e => D.str (eT e))), .own [], .un, .un, .un]) (sw_asgF (ef_lst ea_nil (by show 0 ≤ sizeLine; decide)) rfl) ?_
      rintro _ rfl
      obtain ⟨ys, hys⟩ : ∃ ys, ys = e0 :: es := ⟨_, rfl⟩
      rw [← hys] at hl hy ⊢
      refine swl_seq (M := fun Γ' => ∃ e3 e4 e5, Γ' = [.sh (.str (cT ys)), .sh (.lst (ys.map fun e => D.str (eT e))), .own (ys.map eD), e3, e4, e5]) (sw_for (fun i Γ' => ∃ e3 e4 e5, Γ' = [.sh (.str (cT ys)), .sh (.lst (ys.map fun e => D.str (eT e))), .own ((ys.take i).map eD), e3, e4, e5]) (wi_enum (ea_cons (ep_var rfl) ea_nil)) ⟨_, _, _, rfl⟩ ?_ ?_) ?_
      · rintro i d _ hi ⟨e3, e4, e5, rfl⟩
        obtain ⟨e, he, rfl⟩ := turn (z := "") (e3 := e3) (e4 := e4) (e5 := e5) hi
        have hi : i < ys.length := (List.getElem?_eq_some_iff.mp he).1
        refine ⟨_, gt_tup2, ?_⟩
        refine q_asg (d := eD e) (ep_call (ea_cons (ep_var (d := .str (eT e)) rfl) ea_nil) ⟨e, rfl, hy e (List.mem_of_getElem? he), rfl⟩ fun e Γ' h => h) ?_
        refine sw_guard (b := false) (EtP.cast (et_or (et_test (ep_op (ep_var (d := eD e) rfl) ep_non (rd_isN fun p z => by cases z))) fun _ => et_test (ep_op (ep_var (d := .int (i : Nat)) rfl) ep_int rd_eqI)) ?_) (fun z => by cases z) fun _ => ?_
        · show (false || decide (((i : Nat) : Int) = 400)) = false
          rw [decide_eq_false (by omega)]; rfl
        · refine sw_app (i := 2) (.inl rfl) (ep_var (d := eD e) rfl) (by rw [List.length_map, List.length_take, sizeLine_eq]; omega) ?_
          have et : ys.take (i + 1) = ys.take i ++ [e] := by rw [List.take_add_one, he]; rfl
          rw [et, List.map_append]
          exact ⟨_, _, _, rfl⟩
      · rintro _ ⟨e3, e4, e5, rfl⟩
        rw [enD_len, List.length_map, List.take_length]
        exact ⟨_, _, _, rfl⟩
      rintro _ ⟨e3, e4, e5, rfl⟩
      exact swl_own rfl rfl
  · rintro es v ⟨ys, rfl, hy, h4, hl, rfl⟩
    show RW E CX "place" _ _ [.sh (.str (cT ys)), .un, .un, .un, .un, .un]
    have l2 := len_cT hy hl
    cases ys with
    | nil => cases h4
    | cons e0 es =>
      refine rw_seqN (M := fun Γ' => Γ' = [.sh (.str (cT (e0 :: es))), .sh (.lst ((e0 :: es).map fun e => D.str (eT e))), .un, .un, .un, .un]) (sw_asg (d := .lst ((e0 :: es).map fun e => D.str (eT e))) (EvP.cast (EvF.p (ef_split (ep_var rfl) ep_str one l2 (split_c e0 es))) (by rw [List.map_map]; rfl)) rfl) ?_
      rintro _ rfl
      refine rw_guard (EtP.cast (et_test (ep_op (ep_op (ep_var rfl) ep_int (rd_ixL (d := .str (eT e0)) (atI_nat (j := 0) rfl))) ep_str rd_eqS)) (eT_ne e0)) ?_
      refine rw_seqN (M := fun Γ' => Γ' = [.sh (.str (cT (e0 :: es))), .sh (.lst ((e0 :: es).map fun e => D.str (eT e))), .own [], .un, .un, .un]) (sw_asgF (ef_lst ea_nil (by show 0 ≤ sizeLine; decide)) rfl) ?_
      rintro _ rfl
      obtain ⟨ys, hys⟩ : ∃ ys, ys = e0 :: es := ⟨_, rfl⟩
      rw [← hys] at hl hy h4 ⊢
      refine rw_seqR (rw_for (fun i Γ' => ∃ e3 e4 e5, Γ' = [.sh (.str (cT ys)), .sh (.lst (ys.map fun e => D.str (eT e))), .own ((ys.take i).map eD), e3, e4, e5]) 400 (wi_enum (ea_cons (ep_var rfl) ea_nil)) (by rw [enD_len, List.length_map]; exact h4) ⟨_, _, _, rfl⟩ ?_ ?_)
      · rintro i d _ h400 hi ⟨e3, e4, e5, rfl⟩
        obtain ⟨e, he, rfl⟩ := turn (z := "") (e3 := e3) (e4 := e4) (e5 := e5) hi
        have hi : i < ys.length := (List.getElem?_eq_some_iff.mp he).1
        refine ⟨_, gt_tup2, ?_⟩
        refine q_asg (d := eD e) (ep_call (ea_cons (ep_var (d := .str (eT e)) rfl) ea_nil) ⟨e, rfl, hy e (List.mem_of_getElem? he), rfl⟩ fun e Γ' h => h) ?_
        refine sw_guard (b := false) (EtP.cast (et_or (et_test (ep_op (ep_var (d := eD e) rfl) ep_non (rd_isN fun p z => by cases z))) fun _ => et_test (ep_op (ep_var (d := .int (i : Nat)) rfl) ep_int rd_eqI)) ?_) (fun z => by cases z) fun _ => ?_
        · show (false || decide (((i : Nat) : Int) = 400)) = false
          rw [decide_eq_false (by omega)]; rfl
        · refine sw_app (i := 2) (.inl rfl) (ep_var (d := eD e) rfl) (by rw [List.length_map, List.length_take, sizeLine_eq]; omega) ?_
          have et : ys.take (i + 1) = ys.take i ++ [e] := by rw [List.take_add_one, he]; rfl
          rw [et, List.map_append]
          exact ⟨_, _, _, rfl⟩
      · rintro d _ hi ⟨e3, e4, e5, rfl⟩
        obtain ⟨e, he, rfl⟩ := turn (z := "") (e3 := e3) (e4 := e4) (e5 := e5) hi
        refine ⟨_, gt_tup2, ?_⟩
        refine rw_seqN (M := fun Γ' => Γ' = [.sh (.str (cT ys)), .sh (.lst (ys.map fun e => D.str (eT e))), .own ((ys.take 400).map eD), .sh (.int (400 : Nat)), .sh (.str (eT e)), .sh (eD e)]) (sw_asg (ep_call (ea_cons (ep_var (d := .str (eT e)) rfl) ea_nil) ⟨e, rfl, hy e (List.mem_of_getElem? he), rfl⟩ fun e Γ' h => h) rfl) ?_
        rintro _ rfl
        exact rw_seqR (rw_ifT (EtP.cast (et_or (et_test (ep_op (ep_var (d := eD e) rfl) ep_non (rd_isN fun p z => by cases z))) fun _ => et_test (ep_op (ep_var (d := .int (400 : Nat)) rfl) ep_int rd_eqI)) rfl) (rw_raise (I := I1 "place") (args := [.int 400]) (ea_cons (ep_var rfl) ea_nil) ⟨400, rfl, by decide, rfl⟩ (by show 1 ≤ 1000; decide)))
end
end Lz
set_option Elab.async false
set_option linter.all false
set_option maxRecDepth 100000
set_option maxHeartbeats 4000000
/-! C7: k81: _law_right, _law_place. -/
namespace Lz
open PySem PySem.Spec PyProof.Rows L2 DL XS
local macro_rules | `(tactic| walk_at "sd") => `(tactic| first
  | assumption
  | exact .inl ⟨by decide, by decide⟩ | exact ⟨by decide, by decide, by decide⟩ | exact ⟨by decide, by decide⟩
  | (show (0 : Int) < _; first | decide | omega) | exact ⟨by omega, by omega⟩ | exact .inl ⟨by omega, by omega⟩ | exact .inr ⟨by omega, by omega⟩ | exact .inr ⟨by decide, by decide⟩ | omega)
local macro_rules | `(tactic| walk_at "ep") => `(tactic| first
  | exact ep_int | exact ep_str | exact ep_bl | exact ep_non | exact ep_ref | exact ep_ty
  | exact ep_var rfl
  | (refine' ep_ixM (.inr rfl) ?ka ?kr; (case ka => walk_at "ep"); (case kr => exact rfl))
  | (refine' ep_ixM (.inl rfl) ?ka ?kr; (case ka => walk_at "ep"); (case kr => exact rfl))
  | (refine' ep_op ?ka ?kb rd_I0i; (case ka => walk_at "ep"); (case kb => walk_at "ep"))
  | (refine' ep_op ?ka ?kb rd_I0b; (case ka => walk_at "ep"); (case kb => walk_at "ep"))
  | (refine' ep_op ?ka ?kb (rd_Ii ?sd); (case ka => walk_at "ep"); (case kb => walk_at "ep"); (case sd => walk_at "sd"))
  | (refine' ep_op ?ka ?kb rd_eqI; (case ka => walk_at "ep"); (case kb => walk_at "ep"))
  | (refine' ep_op ?ka ?kb rd_eqS; (case ka => walk_at "ep"); (case kb => walk_at "ep"))
  | (refine' ep_op ?ka ?kb rd_neI; (case ka => walk_at "ep"); (case kb => walk_at "ep"))
  | (refine' ep_op ?ka ?kb rd_neS; (case ka => walk_at "ep"); (case kb => walk_at "ep")))
local macro_rules | `(tactic| walk_at "et") => `(tactic| first
  | (refine' et_test ?ka; (case ka => walk_at "ep"))
  | (refine' et_not ?ka; (case ka => walk_at "et"))
  | (refine' et_and ?ka fun _ => ?kb; (case ka => walk_at "et"); (case kb => walk_at "et"))
  | (refine' et_or ?ka fun _ => ?kb; (case ka => walk_at "et"); (case kb => walk_at "et")))
theorem sc__law_right : FnScope ["sheet", "kept", "due", "told"] ["sheet"] (defScope s__law_right) := ⟨rfl, rfl, rfl, by decide +kernel, rfl, by decide +kernel, by decide +kernel⟩
theorem sc__law_place : FnScope ["line", "e"] ["line"] (defScope s__law_place) := ⟨rfl, rfl, rfl, by decide +kernel, rfl, by decide +kernel, by decide +kernel⟩
theorem sw_assoc4 {a b c d : TS} {Γ : List En} {P : Po} (h : SW (tSeq (tSeq a (tSeq b c)) d) Γ P) : SW (tSeq a (tSeq b (tSeq c d))) Γ P := h
theorem len_tup {ts : List Str} (h : 2 ≤ ts.length) : (tupleText ts).length ≤ piled ts := by
  unfold tupleText
  rw [if_neg (by simp; omega), Str.length_append, Str.length_append]
  have e1 := join_length_add ts (fun z => by subst z; simp at h)
  have e2 : (Str.ofString "(").length = 1 := by decide +kernel
  have e3 : (Str.ofString ")").length = 1 := by decide +kernel
  show (Str.ofString "(").length + (Str.join ", " ts).length + (Str.ofString ")").length ≤ _
  omega
theorem sm_e {e : Ey} (h : okE e) : Sm 6000 1 (eP e) := by
  obtain ⟨l, r, v⟩ := e
  obtain ⟨h1, h2, h3⟩ := h
  have h1 : l < 100 := h1
  have h2 : r < 100 := h2
  have h3 : okO v := h3
  have g1 := lgE h1
  have g2 := lgE h2
  have b1 := len_nT g1
  have b2 := len_nT g2
  cases v with
  | none =>
    refine ⟨?_, rfl, ?_, by show PyData.depthAll _ + 1 ≤ 1; simp [PyData.depthAll, PyData.depth, oP]⟩
    · show PyData.showableAll [.int (l : Int), .int (r : Int), .none] = true
      simp only [PyData.showableAll, PyData.showable, g1, g2, decide_true, Bool.and_self]
    · show (tupleText [nT (l : Int), nT (r : Int), Str.ofString "None"]).length ≤ 6000
      refine Nat.le_trans (len_tup (by show 2 ≤ 3; decide)) ?_
      have d : (Str.ofString "None").length = 4 := by decide +kernel
      simp only [piled, List.map_cons, List.map_nil, List.sum_cons, List.sum_nil]
      omega
  | some m =>
    have g3 := lgB h3.1 h3.2
    have b3 := len_nT g3
    refine ⟨?_, rfl, ?_, by show PyData.depthAll _ + 1 ≤ 1; simp [PyData.depthAll, PyData.depth, oP]⟩
    · show PyData.showableAll [.int (l : Int), .int (r : Int), .int m] = true
      simp only [PyData.showableAll, PyData.showable, g1, g2, g3, decide_true, Bool.and_self]
    · show (tupleText [nT (l : Int), nT (r : Int), nT m]).length ≤ 6000
      refine Nat.le_trans (len_tup (by show 2 ≤ 3; decide)) ?_
      simp only [piled, List.map_cons, List.map_nil, List.sum_cons, List.sum_nil]
      omega
theorem sm_c {ys : List Ey} (h : ∀ e ∈ ys, okE e) (hl : ys.length ≤ 400) : Sm 3000000 2 (.list (ys.map eP)) := by
  have s := Sm.lst (B := 6000) (k := 1) (ds := ys.map eP) fun d hd => by
    obtain ⟨e, he, rfl⟩ := List.mem_map.mp hd
    exact sm_e (h e he)
  rw [List.length_map] at s
  exact s.mono (by omega) (Nat.le_refl _)
theorem rc_reprC {K : PySem.W.Frag} {ys : List Ey} (h : ∀ e ∈ ys, okE e) (hl : ys.length ≤ 400) : RC (rReprL K) [cD ys] (.str (PyData.list (ys.map eP)).shown) := by
  have s := sm_c h hl
  exact rc_repr (pyD_c ys) s.sh s.nd (Nat.le_trans s.ln (by rw [sizeLine_eq]; decide)) (Nat.le_trans s.dp (by decide))
theorem rc_reprC2 {K : PySem.W.Frag} {ys : List Ey} (h : ∀ e ∈ ys, okE e) (hl : ys.length ≤ 400) : RC (rReprL K) [.lst [cD ys, cD ys]] (.str (PyData.list [.list (ys.map eP), .list (ys.map eP)]).shown) := by
  have s := Sm.lst (B := 3000000) (k := 2) (ds := [.list (ys.map eP), .list (ys.map eP)]) fun d hd => by
    simp only [List.mem_cons, List.not_mem_nil, or_false, or_self] at hd
    subst hd; exact sm_c h hl
  have e : [PyData.list (ys.map eP), PyData.list (ys.map eP)].length = 2 := rfl
  rw [e] at s
  refine rc_repr ?_ s.sh s.nd (Nat.le_trans s.ln (by rw [sizeLine_eq]; omega)) (Nat.le_trans s.dp (by decide))
  show (pyDs [cD ys, cD ys]).map PyData.list = _
  simp only [pyDs, pyD_c]; rfl
def C_right : Cn := fun Γ R => ∃ ys : List Ey, Γ = [.sh (cD ys)] ∧ (∀ e ∈ ys, okE e) ∧ ys.length ≤ 400 ∧ R = fun d Γ' => d = .bl true
def C_place : Cn := fun Γ R => ∃ ys : List Ey, Γ = [.sh (.str (cT ys))] ∧ (∀ e ∈ ys, okE e) ∧ 400 < ys.length ∧ ys.length ≤ 1000 ∧ R = fun d Γ' => d = .int 400
section
variable {P : Program} {w : World} {K : PySem.W.Frag} {mg : Str → Option Value} {base : Heap} {f : Addr} {fd : FuncData} {CX : Addr}
theorem ok_right (T : Tx mg) (c__law_line : Cal P w K mg base 1 "_law_line" (spE C_wc)) (c_write_column : Cal P w K mg base 2 "write_column" (spE C_wc)) (ck_write_column : CalK P w K mg base 2 "write_column" ["column"] (spE C_wc))
    (c_read_column : CalU P w K mg base 4 "read_column" (spUF C_rc CX "place" B_rc)) (ck_read_column : CalKU P w K mg base 4 "read_column" ["text"] (spUF C_rc CX "place" B_rc)) (F : FnP K "_law_right" s__law_right f fd) : FnG P w K mg base 5 f fd ["sheet"] (spE C_right) := by
  refine fn_okG F sc__law_right (fun Γ R ⟨p, h, _⟩ => by subst h; rfl) fun cdv A outer s H E hr hg => ⟨_, (pss_cons (ps_par (i := 1) (j := 2) rfl sc__law_right.nd rfl rfl (by decide) rfl rfl (pa_cons (pe_callB (call_reprG hg hr) rfl T.z_repr (by decide +kernel) (pa_cons (pv 0) pa_nil)) (pa_cons (pe_c c__law_line hr (by first | decide | omega) rfl (pa_cons (pv 0) pa_nil)) pa_nil)) (by rfl))
      (pss_cons (ps_if (PW.pt (pw_or (pt_cmpR op_ne (pe_c c_write_column hr (by first | decide | omega) rfl (pa_cons (pv 0) pa_nil)) (pv 2) (nomark _)) (pw_or (pt_cmpR op_ne (pe_ck0 ck_write_column hr (by first | decide | omega) rfl (pk_cons (pv 0) pk_nil)) (pv 2) (nomark _)) (pw_or1 (pt_cmpR op_ne (pe_callB (call_reprG hg hr) rfl T.z_repr (by decide +kernel) (pa_cons (pv 0) pa_nil)) (pv 1) (nomark _)))))) (pss_one (ps_ret pe_bl)) pss_nil)
      (pss_cons (ps_set (i := 3) sc__law_right.nd rfl (by first | exact Or.inl rfl | exact Or.inr rfl) (pe_lst (pa_cons (pe_cu c_read_column hr (by first | decide | omega) rfl passF (pa_cons (pv 2) pa_nil)) (pa_cons (pe_cku ck_read_column hr (by first | decide | omega) rfl (pk_cons (pv 2) pk_nil)) pa_nil))))
      (pss_cons (ps_if (pt_cmpR op_ne (pe_callB (call_reprG hg hr) rfl T.z_repr (by decide +kernel) (pa_cons (pv 3) pa_nil)) (pe_callB (call_reprG hg hr) rfl T.z_repr (by decide +kernel) (pa_cons (pe_lst (pa_cons (pv 0) (pa_cons (pv 0) pa_nil))) pa_nil)) (nomark _)) (pss_one (ps_ret pe_bl)) pss_nil)
      (pss_cons (ps_expr (pe_bm PySem.F.plainAttrs_list PySem.F.slot_list_append PySem.F.type_list_append mt_append (pe_ix ix_list (pv 3) pe_int (fun _ _ => rfl)) (pa_cons pe_non pa_nil)))
      (pss_one (ps_ret (pe_cmpR op_eq (pe_callB (call_reprG hg hr) rfl T.z_repr (by decide +kernel) (pa_cons (pe_lst (pa_cons (pe_ix ix_list (pv 3) pe_int (fun _ _ => rfl)) (pa_cons (pe_cu c_read_column hr (by first | decide | omega) rfl passF (pa_cons (pv 2) pa_nil)) pa_nil))) pa_nil)) (pe_callB (call_reprG hg hr) rfl T.z_repr (by decide +kernel) (pa_cons (pe_lst (pa_cons (pv 0) (pa_cons (pv 0) pa_nil))) pa_nil)) (nomark _))))))))), ?_⟩
  rintro Γ R ⟨ys, rfl, ok, hl, rfl⟩ _
  show SW _ [.sh (cD ys), .un, .un, .un] _
  have wc : ∀ {Γ : List En}, Γ[0]? = some (.sh (cD ys)) → EvP (tCall (spE C_wc) [] E0 (tCons (tVar 0) tNil)) Γ (.str (cT ys)) := fun {Γ} h => ep_call (ea_cons (ep_var h) ea_nil) ⟨ys, rfl, ok, by omega, rfl⟩ fun e Γ' h => h
  have rp : ∀ {Γ : List En}, Γ[0]? = some (.sh (cD ys)) → EvP (tCB (rReprL K) (tCons (tVar 0) tNil)) Γ (.str (PyData.list (ys.map eP)).shown) := fun {Γ} h => ep_cb (ea_cons (ep_var h) ea_nil) (rc_reprC ok hl)
  have ss : ∀ {Γ : List En}, Γ[0]? = some (.sh (cD ys)) → EvP (tLst (tCons (tVar 0) (tCons (tVar 0) tNil))) Γ (.lst [cD ys, cD ys]) := fun {Γ} h => EvF.p (ef_lst (ea_cons (ep_var h) (ea_cons (ep_var h) ea_nil)) (by show 2 ≤ sizeLine; decide))
  have rd : ∀ {Γ : List En}, Γ[2]? = some (.sh (.str (cT ys))) → EvF (tCall (spUF C_rc CX "place" B_rc) [] (fun _ _ _ => False) (tCons (tVar 2) tNil)) Γ (ys.map eD) := fun {Γ} h => EvFR.f (Rl := fun ds => ds = ys.map eD) (ef_callUF (ea_cons (ep_var h) ea_nil) ⟨ys, rfl, ok, hl, rfl⟩) fun es h => h
  refine sw_seq1 (sw_par (rp rfl) (wc rfl) rfl) ?_
  show SW _ [.sh (cD ys), .sh (.str (PyData.list (ys.map eP)).shown), .sh (.str (cT ys)), .un] _
  refine sw_guard (b := false) (EtP.cast (et_or (et_test (ep_op (wc rfl) (ep_var rfl) rd_neS)) fun _ => et_or (et_test (ep_op (ep_callR (ea_cons (ep_var rfl) ea_nil) ⟨ys, rfl, ok, by omega, rfl⟩ fun e Γ' h => h) (ep_var rfl) rd_neS)) fun _ => et_test (ep_op (rp rfl) (ep_var rfl) rd_neS)) (by simp)) (fun z => by cases z) fun _ => ?_
  refine sw_assoc4 (sw_seq1 (sw_nestS (dss := [ys.map eD, ys.map eD]) (dss' := [ys.map eD ++ [.non], ys.map eD]) (eaF_cons (rd rfl) (eaF_cons (EvFR.f (Rl := fun ds => ds = ys.map eD) (ef_callKUF (ea_cons (ep_var rfl) ea_nil) ⟨ys, rfl, ok, hl, rfl⟩) fun es h => h) eaF_nil)) (by show 3 < 4; decide) (by show 2 ≤ sizeLine; decide) (sn_seq (d2 := [ys.map eD, ys.map eD]) (sn_ifN ?_) ?_) rfl) ?_)
  · refine EtP.cast (et_test (ep_op (ep_cb (ea_cons (ep_var (d := .lst [cD ys, cD ys]) rfl) ea_nil) (rc_reprC2 ok hl)) (ep_cb (ea_cons (ss rfl) ea_nil) (rc_reprC2 ok hl)) rd_neS)) (by simp)
  · exact sn_app (j := 0) (dss := [ys.map eD, ys.map eD]) (ds := ys.map eD) (d := .non) ep_int rfl ep_non (by rw [List.length_map, sizeLine_eq]; omega)
  show SW _ [.sh (cD ys), .sh (.str (PyData.list (ys.map eP)).shown), .sh (.str (cT ys)), .sh (.lst [.lst (ys.map eD ++ [.non]), cD ys])] _
  refine sw_ret (EvP.cast (ep_op (ep_cb (ea_cons (EvF.p (ef_lst (ea_cons (ep_op (ep_var (d := .lst [.lst (ys.map eD ++ [.non]), cD ys]) rfl) ep_int (rd_ixL (d := cD ys) (atI_nat (j := 1) rfl))) (ea_cons (EvF.p (rd rfl)) ea_nil)) (by show 2 ≤ sizeLine; decide))) ea_nil) (rc_reprC2 ok hl)) (ep_cb (ea_cons (ss rfl) ea_nil) (rc_reprC2 ok hl)) rd_eqS) (by rw [decide_eq_true rfl])) ⟨rfl, trivial⟩
theorem ok_place (c_read_column : CalU P w K mg base 4 "read_column" (spUF C_rc CX "place" B_rc)) (gX : mg "InvalidText" = some (.ref CX)) (hm : PySem.W.exmOne K (.ref CX) (.ref CX) = some true) (xf : XfC K CX) (hno : PySem.W.findIn K (.ref CX) "place" = some none) (F : FnP K "_law_place" s__law_place f fd) :
    FnOk P w K mg base CX0 5 f fd ["line"] (spE C_place) := by
  have ln : ∀ vs H Q E, spE C_place vs H Q E → vs.length = (["line"] : List Str).length := fun vs H Q E ⟨c, F, Γ, R, G, a, ⟨ys, e, _⟩, q⟩ => by
    have e1 := G.len
    rw [List.length_map, e] at e1
    exact e1
  refine F.ok sc__law_place ln fun cdv A outer s H vs Q E hr h => ?_
  have hN : (["line", "e"] : List Str).Nodup := sc__law_place.nd
  refine ⟨_, pss_one (ps_try_as (Wout := fun _ _ _ _ => False) (i := 1) (c := .ref CX) rfl rfl hN rfl rfl ⟨rfl, by decide, .inl gX⟩ takes0
    (fun W pn xe tk hp => pss_one (ps_ret (pe_cmpR (show OpR _ (compareOp .Eq) (rEqD K) from op_eqD hr.units) (pe_cuS c_read_column hr (by first | decide | omega) rfl (fun σ => passAt tk σ) (pa_cons (pv 0) pa_nil)) (pe_tup pa_nil) (nomark _))))
    (fun a oe cls d pn hz hf => pss_one (ps_ret (pe_xf xf hno hz hf (pv 1))))), ?_⟩
  obtain ⟨c, F0, Γ, R, G, _, ⟨ys, rfl, ok, h4, hl, rfl⟩, q⟩ := h
  obtain ⟨v0, e0, r0⟩ := G.sh (i := 0) (d := .str (cT ys)) rfl
  have ev : v0 = .str (cT ys) := r0
  subst ev
  have hv : vs = [.str (cT ys)] := by
    have l1 := G.len
    rw [List.length_map] at l1
    match vs, l1, e0 with
    | [u], _, e0 => simp at e0; rw [e0]
  subst hv
  refine ⟨.str (cT ys), rfl, .inr ⟨F0, [.str (cT ys)], 400, G.fh, ⟨_, _, rfl, rfl, rfl⟩, ⟨ys, rfl, ok, h4, hl, rfl⟩, fun d H' xh hd => ⟨true, hm, fun _ a ha => ?_, fun y => by cases y⟩⟩⟩
  refine ⟨.ref a, rfl, rfl, rfl, d, _, .int 400, rfl, hd, rfl, ?_⟩
  exact q (.int 400) (.int 400) _ F0 H' rfl (G.step ⟨Ex.refl _, xh, G.fh.trans xh, fun p e => .inl e⟩) (Ex.refl _) rfl
end
end Lz
set_option Elab.async false
set_option linter.all false
set_option maxRecDepth 100000
set_option maxHeartbeats 4000000
/-! C8: k81: _law_entry. -/
namespace Lz
open PySem PySem.Spec PyProof.Rows L2 DL XS
local macro_rules | `(tactic| walk_at "sd") => `(tactic| first
  | assumption
  | exact .inl ⟨by decide, by decide⟩ | exact ⟨by decide, by decide, by decide⟩ | exact ⟨by decide, by decide⟩
  | (show (0 : Int) < _; first | decide | omega) | exact ⟨by omega, by omega⟩ | exact .inl ⟨by omega, by omega⟩ | exact .inr ⟨by omega, by omega⟩ | exact .inr ⟨by decide, by decide⟩ | omega)
local macro_rules | `(tactic| walk_at "ep") => `(tactic| first
  | exact ep_int | exact ep_str | exact ep_bl | exact ep_non | exact ep_ref | exact ep_ty
  | exact ep_var rfl
  | (refine' ep_ixM (.inr rfl) ?ka ?kr; (case ka => walk_at "ep"); (case kr => exact rfl))
  | (refine' ep_ixM (.inl rfl) ?ka ?kr; (case ka => walk_at "ep"); (case kr => exact rfl))
  | (refine' ep_op ?ka ?kb rd_I0i; (case ka => walk_at "ep"); (case kb => walk_at "ep"))
  | (refine' ep_op ?ka ?kb rd_I0b; (case ka => walk_at "ep"); (case kb => walk_at "ep"))
  | (refine' ep_op ?ka ?kb (rd_Ii ?sd); (case ka => walk_at "ep"); (case kb => walk_at "ep"); (case sd => walk_at "sd"))
  | (refine' ep_op ?ka ?kb rd_eqI; (case ka => walk_at "ep"); (case kb => walk_at "ep"))
  | (refine' ep_op ?ka ?kb rd_eqS; (case ka => walk_at "ep"); (case kb => walk_at "ep"))
  | (refine' ep_op ?ka ?kb rd_neI; (case ka => walk_at "ep"); (case kb => walk_at "ep"))
  | (refine' ep_op ?ka ?kb rd_neS; (case ka => walk_at "ep"); (case kb => walk_at "ep")))
local macro_rules | `(tactic| walk_at "et") => `(tactic| first
  | (refine' et_test ?ka; (case ka => walk_at "ep"))
  | (refine' et_not ?ka; (case ka => walk_at "et"))
  | (refine' et_and ?ka fun _ => ?kb; (case ka => walk_at "et"); (case kb => walk_at "et"))
  | (refine' et_or ?ka fun _ => ?kb; (case ka => walk_at "et"); (case kb => walk_at "et")))
theorem sc__law_entry : FnScope ["flask", "first", "opens", "worth"] ["flask"] (defScope s__law_entry) := ⟨rfl, rfl, rfl, by decide +kernel, rfl, by decide +kernel, by decide +kernel⟩
def C_entry : CnK := fun k es R => ∃ n : Nat, es = [] ∧ Fo k n ∧ n + 10 ≤ 1000000000 ∧ R = fun d k' => ∃ e : Ey, d = eD e ∧ okE e ∧ Fo k' (n + 7)
section
variable {P : Program} {w : World} {K : PySem.W.Frag} {mg : Str → Option Value} {base : Heap} {f : Addr} {fd : FuncData}
theorem ek_pick {a b : Addr} {Γ : List En} {k : Fk} {n : Nat} {m1 m2 : Int} (h0 : Γ[0]? = some (.sh (.ref a))) (hf : Fo k n) (hn : n + 2 ≤ 1000000000) (p1 : 1 ≤ m1 ∧ m1 ≤ 100) (p2 : 1 ≤ m2 ∧ m2 ≤ 100) :
    EvK a b (tCall (spK C_drip) [] E0 (tCons (tVar 0) (tCons (tOp (rIxL K) (tLst (tCons (tC (.int m1)) (tCons (tC (.int m2)) tNil))) (tCall (spK C_drip) [] E0 (tCons (tVar 0) (tCons (tC (.int 2)) tNil)))) tNil))) Γ k fun d k' => ∃ r : Nat, d = .int r ∧ r < 100 ∧ Fo k' (n + 2) := by
  refine ek_callW2 (R1 := fun x k' => ∃ m : Int, x = .int m ∧ 1 ≤ m ∧ m ≤ 100 ∧ Fo k' (n + 1)) h0 (ek_opP (x := .lst [.int m1, .int m2]) (EvF.p (ef_lst (ea_cons ep_int (ea_cons ep_int ea_nil)) (by show 2 ≤ sizeLine; decide))) (ek_drip h0 (ea_cons ep_int ea_nil) hf (by omega) (by decide) (by decide) fun r k' r0 r1 h => ?_)) ?_
  · have hr : r = 0 ∨ r = 1 := by omega
    rcases hr with rfl | rfl
    · exact ⟨.int m1, rd_ixL rfl, m1, rfl, p1.1, p1.2, h⟩
    · exact ⟨.int m2, rd_ixL rfl, m2, rfl, p2.1, p2.2, h⟩
  · rintro x k' ⟨m, rfl, q1, q2, h⟩
    exact ⟨_, ⟨m, n + 1, rfl, h, by omega, q1, lg9 q1 (by omega), rfl⟩, fun d k2 ⟨r, e, r0, r1, h2⟩ => ⟨r.toNat, by rw [e]; congr 1; omega, by omega, h2⟩⟩
theorem ok_entry (c__law_drip : Cal P w K mg base 1 "_law_drip" (spK C_drip)) (c__law_amount : Cal P w K mg base 2 "_law_amount" (spK C_amount)) (F : FnP K "_law_entry" s__law_entry f fd) : FnOk P w K mg base CX0 3 f fd ["flask"] (spK C_entry) := by
  refine fn_okK F sc__law_entry (fun k es R ⟨n, h, _⟩ => by subst h; rfl) fun cdv A outer s H E hr => ⟨_, (pss_cons (ps_par (i := 1) (j := 2) rfl sc__law_entry.nd rfl rfl (by decide) rfl rfl (pa_cons (pe_c c__law_drip hr (by first | decide | omega) rfl (pa_cons (pv 0) (pa_cons (pe_ix ix_list (pe_lst (pa_cons pe_int (pa_cons pe_int pa_nil))) (pe_c c__law_drip hr (by first | decide | omega) rfl (pa_cons (pv 0) (pa_cons pe_int pa_nil))) (fun _ _ => rfl)) pa_nil))) (pa_cons (pe_c c__law_drip hr (by first | decide | omega) rfl (pa_cons (pv 0) (pa_cons (pe_ix ix_list (pe_lst (pa_cons pe_int (pa_cons pe_int pa_nil))) (pe_c c__law_drip hr (by first | decide | omega) rfl (pa_cons (pv 0) (pa_cons pe_int pa_nil))) (fun _ _ => rfl)) pa_nil))) pa_nil)) (by rfl))
      (pss_cons (ps_set (i := 3) sc__law_entry.nd rfl (by first | exact Or.inl rfl | exact Or.inr rfl) (pe_ix ix_list (pe_lst (pa_cons pe_non (pa_cons (pe_c c__law_amount hr (by first | decide | omega) rfl (pa_cons (pv 0) (pa_cons pe_int pa_nil))) (pa_cons (pe_un un_neg (pe_op op_pow pe_int pe_int)) (pa_cons (pe_op op_sub (pe_op op_pow pe_int pe_int) pe_int) (pa_cons pe_int (pa_cons (pe_op op_sub pe_int (pe_op op_pow pe_int pe_int)) pa_nil))))))) (pe_c c__law_drip hr (by first | decide | omega) rfl (pa_cons (pv 0) (pa_cons pe_int pa_nil))) (fun _ _ => rfl)))
      (pss_one (ps_ret (pe_tup (pa_cons (pv 1) (pa_cons (pv 2) (pa_cons (pv 3) pa_nil)))))))), ?_⟩
  rintro a b k es R ⟨n, rfl, hf, hn, rfl⟩
  show SK a b _ [.sh (.ref a), .un, .un, .un] k _
  refine SK.seq (M := fun Γ' k' => ∃ l r : Nat, Γ' = [.sh (.ref a), .sh (.int l), .sh (.int r), .un] ∧ l < 100 ∧ r < 100 ∧ Fo k' (n + 4)) (sk_parK (ek_pick rfl hf (by omega) (by decide) (by decide)) fun x k1 ⟨l, e1, h1, f1⟩ => EvK.imp (ek_pick rfl f1 (by omega) (by decide) (by decide)) fun y k2 ⟨r, e2, h2, f2⟩ => ?_) ?_
  · subst e1 e2
    exact ⟨l, r, rfl, h1, h2, f2⟩
  rintro _ k' ⟨l, r, rfl, h1, h2, hf'⟩
  have e60 : (10 : Int) ^ (60 : Int).toNat = bg + 1 := by decide
  have e59' : (10 : Int) ^ (59 : Int).toNat ≤ bg ∧ 0 ≤ (10 : Int) ^ (59 : Int).toNat := by decide
  refine qk_asg (R := fun d k2 => ∃ o, d = oD o ∧ okO o ∧ Fo k2 (n + 7)) (ek_op (R1 := fun d k2 => ∃ v : Int, d = .lst [.non, .int v, .int (-(10 : Int) ^ (59 : Int).toNat), .int ((10 : Int) ^ (60 : Int).toNat - 1), .int 0, .int (1 - (10 : Int) ^ (60 : Int).toNat)] ∧ -big ≤ v ∧ v ≤ big ∧ Fo k2 (n + 6)) (ek_lst (R' := fun ds k2 => ∃ v : Int, ds = [.non, .int v, .int (-(10 : Int) ^ (59 : Int).toNat), .int ((10 : Int) ^ (60 : Int).toNat - 1), .int 0, .int (1 - (10 : Int) ^ (60 : Int).toNat)] ∧ -big ≤ v ∧ v ≤ big ∧ Fo k2 (n + 6)) ?_ fun ds k2 ⟨v, e, q⟩ => ⟨by rw [e]; show 6 ≤ sizeLine; decide, v, by rw [e], q⟩) fun x k2 ⟨v, e, v0, v1, hf2⟩ => ?_) ?_
  · refine eak_cons (R1 := fun d k2 => d = .non ∧ k2 = k') (ek_p ep_non ⟨rfl, rfl⟩) fun x k2 ⟨e1, e2⟩ => ?_
    subst e1 e2
    refine eak_cons (R1 := fun d k3 => ∃ v, d = .int v ∧ -big ≤ v ∧ v ≤ big ∧ Fo k3 (n + 6)) (ek_call rfl (ea_cons ep_int ea_nil) ⟨9, n + 4, rfl, hf', by omega, by decide, by decide, rfl⟩) fun x k3 ⟨v, e1, v0, v1, f3⟩ => ?_
    subst e1
    have p59 : EvP (tOp (rI CPow fun i j => V.int (i ^ j.toNat)) (tC (.int 10)) (tC (.int 59))) [.sh (.ref a), .sh (.int l), .sh (.int r), .un] (.int ((10 : Int) ^ (59 : Int).toNat)) := ep_op ep_int ep_int (rd_Ii ⟨by decide, by decide, by decide⟩)
    have p60 : EvP (tOp (rI CPow fun i j => V.int (i ^ j.toNat)) (tC (.int 10)) (tC (.int 60))) [.sh (.ref a), .sh (.int l), .sh (.int r), .un] (.int ((10 : Int) ^ (60 : Int).toNat)) := ep_op ep_int ep_int (rd_Ii ⟨by decide, by decide, by decide⟩)
    refine eak_cons (R1 := fun d k4 => d = .int (-(10 : Int) ^ (59 : Int).toNat) ∧ k4 = k3) (ek_p (ep_neg p59) ⟨rfl, rfl⟩) fun x k4 ⟨e1, e2⟩ => ?_
    subst e1 e2
    refine eak_cons (R1 := fun d k5 => d = .int ((10 : Int) ^ (60 : Int).toNat - 1) ∧ k5 = k4) (ek_p (ep_op p60 ep_int rd_I0i) ⟨rfl, rfl⟩) fun x k5 ⟨e1, e2⟩ => ?_
    subst e1 e2
    refine eak_cons (R1 := fun d k6 => d = .int 0 ∧ k6 = k5) (ek_p ep_int ⟨rfl, rfl⟩) fun x k6 ⟨e1, e2⟩ => ?_
    subst e1 e2
    refine eak_cons (R1 := fun d k7 => d = .int (1 - (10 : Int) ^ (60 : Int).toNat) ∧ k7 = k6) (ek_p (ep_op ep_int p60 rd_I0i) ⟨rfl, rfl⟩) fun x k7 ⟨e1, e2⟩ => ?_
    subst e1 e2
    exact eak_nil ⟨v, rfl, v0, v1, f3⟩
  · subst e
    have eb : big ≤ bg := by decide
    refine ek_drip rfl (ea_cons ep_int ea_nil) hf2 (by omega) (by decide) (by decide) fun q k3 q0 q1 f3 => ?_
    have hq : q = 0 ∨ q = 1 ∨ q = 2 ∨ q = 3 ∨ q = 4 ∨ q = 5 := by omega
    rcases hq with rfl | rfl | rfl | rfl | rfl | rfl
    · exact ⟨.non, rd_ixL rfl, none, rfl, trivial, f3⟩
    · exact ⟨.int v, rd_ixL rfl, some v, rfl, ⟨by omega, by omega⟩, f3⟩
    · exact ⟨_, rd_ixL rfl, some _, rfl, ⟨by omega, by omega⟩, f3⟩
    · exact ⟨_, rd_ixL rfl, some _, rfl, ⟨by rw [e60]; unfold bg; decide, by rw [e60]; unfold bg; decide⟩, f3⟩
    · exact ⟨_, rd_ixL rfl, some 0, rfl, ⟨by decide, by decide⟩, f3⟩
    · exact ⟨_, rd_ixL rfl, some _, rfl, ⟨by rw [e60]; unfold bg; decide, by rw [e60]; unfold bg; decide⟩, f3⟩
  · rintro d k2 ⟨o, rfl, ho, f2⟩
    show SK a b _ [.sh (.ref a), .sh (.int l), .sh (.int r), .sh (oD o)] k2 _
    exact sk_ret (R := fun d k3 => d = eD ⟨l, r, o⟩ ∧ k3 = k2) (ek_p (ep_tup (ea_cons (ep_var rfl) (ea_cons (ep_var rfl) (ea_cons (ep_var rfl) ea_nil))) (by show 3 ≤ sizeLine; decide)) ⟨rfl, rfl⟩) fun d k3 ⟨e1, e2⟩ => by
      subst e1 e2
      exact ⟨_, rfl, ⟨h1, h2, ho⟩, f2⟩
end
end Lz
set_option Elab.async false
set_option linter.all false
set_option maxRecDepth 100000
set_option maxHeartbeats 4000000
/-! C9: k81: trees, _law_many. -/
namespace Lz
open PySem PySem.Spec PyProof.Rows L2 DL XS
local macro_rules | `(tactic| walk_at "sd") => `(tactic| first
  | assumption
  | exact .inl ⟨by decide, by decide⟩ | exact ⟨by decide, by decide, by decide⟩ | exact ⟨by decide, by decide⟩
  | (show (0 : Int) < _; first | decide | omega) | exact ⟨by omega, by omega⟩ | exact .inl ⟨by omega, by omega⟩ | exact .inr ⟨by omega, by omega⟩ | exact .inr ⟨by decide, by decide⟩ | omega)
local macro_rules | `(tactic| walk_at "ep") => `(tactic| first
  | exact ep_int | exact ep_str | exact ep_bl | exact ep_non | exact ep_ref | exact ep_ty
  | exact ep_var rfl
  | (refine' ep_ixM (.inr rfl) ?ka ?kr; (case ka => walk_at "ep"); (case kr => exact rfl))
  | (refine' ep_ixM (.inl rfl) ?ka ?kr; (case ka => walk_at "ep"); (case kr => exact rfl))
  | (refine' ep_op ?ka ?kb rd_I0i; (case ka => walk_at "ep"); (case kb => walk_at "ep"))
  | (refine' ep_op ?ka ?kb rd_I0b; (case ka => walk_at "ep"); (case kb => walk_at "ep"))
  | (refine' ep_op ?ka ?kb (rd_Ii ?sd); (case ka => walk_at "ep"); (case kb => walk_at "ep"); (case sd => walk_at "sd"))
  | (refine' ep_op ?ka ?kb rd_eqI; (case ka => walk_at "ep"); (case kb => walk_at "ep"))
  | (refine' ep_op ?ka ?kb rd_eqS; (case ka => walk_at "ep"); (case kb => walk_at "ep"))
  | (refine' ep_op ?ka ?kb rd_neI; (case ka => walk_at "ep"); (case kb => walk_at "ep"))
  | (refine' ep_op ?ka ?kb rd_neS; (case ka => walk_at "ep"); (case kb => walk_at "ep")))
local macro_rules | `(tactic| walk_at "et") => `(tactic| first
  | (refine' et_test ?ka; (case ka => walk_at "ep"))
  | (refine' et_not ?ka; (case ka => walk_at "et"))
  | (refine' et_and ?ka fun _ => ?kb; (case ka => walk_at "et"); (case kb => walk_at "et"))
  | (refine' et_or ?ka fun _ => ?kb; (case ka => walk_at "et"); (case kb => walk_at "et")))
theorem sc__law_many : FnScope ["tree", "word", "below"] ["tree"] (defScope s__law_many) := ⟨rfl, rfl, rfl, by decide +kernel, rfl, by decide +kernel, by decide +kernel⟩
mutual
inductive Ty where
  | mk (s : Str) (fs : Fs)
inductive Fs where
  | nil
  | cons (w : Str) (t : Ty) (r : Fs)
end
mutual
def tD : Ty → D
  | .mk s fs => .tup [.str s, .lst (fD fs)]
def fD : Fs → List D
  | .nil => []
  | .cons w t r => .tup [.str w, tD t] :: fD r
end
mutual
def dpT : Ty → Nat
  | .mk _ fs => dpF fs + 1
def dpF : Fs → Nat
  | .nil => 0
  | .cons _ t r => max (dpT t) (dpF r)
end
mutual
def mnT : Ty → Nat
  | .mk s fs => if s = Str.ofString "v" then 1 else mnF fs
def mnF : Fs → Nat
  | .nil => 0
  | .cons _ t r => mnT t + mnF r
end
def Fs.li : Fs → List (Str × Ty)
  | .nil => []
  | .cons w t r => (w, t) :: r.li
mutual
def okT : Ty → Prop
  | .mk _ fs => okF fs ∧ fs.li.length ≤ 1000
def okF : Fs → Prop
  | .nil => True
  | .cons _ t r => okT t ∧ okF r
end
theorem ok_li : ∀ {fs : Fs} {p : Str × Ty}, okF fs → p ∈ fs.li → okT p.2
  | .cons w t r, p, o, h => by
    rw [okF] at o
    rcases List.mem_cons.mp h with h | h
    · subst h; exact o.1
    · exact ok_li o.2 h
theorem fD_li : ∀ fs : Fs, fD fs = fs.li.map fun p => .tup [.str p.1, tD p.2]
  | .nil => rfl
  | .cons w t r => by rw [fD, Fs.li, List.map_cons, fD_li r]
theorem mnF_li : ∀ fs : Fs, mnF fs = (fs.li.map fun p => mnT p.2).sum
  | .nil => rfl
  | .cons w t r => by rw [mnF, Fs.li, List.map_cons, List.sum_cons, mnF_li r]
theorem dp_li : ∀ {fs : Fs} {p : Str × Ty}, p ∈ fs.li → dpT p.2 ≤ dpF fs
  | .cons w t r, p, h => by
    rw [dpF]
    rcases List.mem_cons.mp h with h | h
    · subst h; exact Nat.le_max_left _ _
    · exact Nat.le_trans (dp_li h) (Nat.le_max_right _ _)
def C_many (N : Nat) : Cn := fun Γ R => ∃ t : Ty, Γ = [.sh (tD t)] ∧ okT t ∧ dpT t < N ∧ mnT t ≤ 1000 ∧ R = fun d Γ' => d = .int (mnT t)
theorem rc_sum {K : PySem.W.Frag} {ns : List Int} : RC (rSum K) [.lst (ns.map D.int)] (.int ns.sum) := fun F H vs e r Q k => by
  obtain ⟨v, _, rfl, ⟨a, xs, rfl, h1, h2⟩, rfl⟩ := r
  have ex := h2.ints_eq
  subst ex
  exact ⟨a, ns, rfl, .inl (.inl (e _ _ h1)), k _ F H (.refl e) rfl⟩
section
variable {P : Program} {w : World} {K : PySem.W.Frag} {mg : Str → Option Value} {base : Heap} {f : Addr} {fd : FuncData}
theorem fn_none {C : Cn} (h : ∀ Γ R, ¬ C Γ R) {k : Nat} {ps : List Str} : FnOk P w K mg base CX0 k f fd ps (spE C) :=
  ⟨fun vs H Q E ⟨_, _, _, _, _, _, hC, _⟩ => absurd hC (h _ _), fun A outer s H args us vs Q E _ _ _ _ ⟨_, _, _, _, _, _, hC, _⟩ => absurd hC (h _ _)⟩
theorem mn_le : ∀ {fs : Fs} {p : Str × Ty}, p ∈ fs.li → mnT p.2 ≤ mnF fs
  | .cons w t r, p, h => by
    rw [mnF]
    rcases List.mem_cons.mp h with h | h
    · subst h; exact Nat.le_add_right _ _
    · exact Nat.le_trans (mn_le h) (Nat.le_add_left _ _)
theorem sum_cast : ∀ l : List Nat, (l.map fun (n : Nat) => (n : Int)).sum = ((l.sum : Nat) : Int)
  | [] => rfl
  | n :: l => by rw [List.map_cons, List.sum_cons, List.sum_cons, sum_cast l]; omega
theorem ok_many (T : Kx mg) (F : FnP K "_law_many" s__law_many f fd) (kf : PySem.W.keepIn K (.ref f) = true) (mf : mg "_law_many" = some (.ref f)) (bf : Binds K fd ["tree"] []) :
    ∀ N : Nat, FnOk P w K mg base CX0 (N + 1) f fd ["tree"] (spE (C_many N))
  | 0 => fn_none fun Γ R ⟨t, _, _, h, _⟩ => absurd h (Nat.not_lt_zero _)
  | N + 1 => by
    have ih := ok_many T F kf mf bf N
    have c__law_many : Cal P w K mg base (N + 1) "_law_many" (spE (C_many N)) := ⟨f, fd, _, ih, mf, kf, bf⟩
    refine fn_ok F sc__law_many (fun Γ R ⟨p, h, _⟩ => by subst h; rfl) fun cdv A outer s H E hr => ⟨_, (pss_cons (ps_if (pt_cmpR op_eq (pe_ix ix_tup (pv 0) pe_int (fun _ _ => rfl)) pe_str (nomark _)) (pss_one (ps_ret pe_int)) pss_nil)
      (pss_one (ps_ret (pe_callB (cr_sum rfl) rfl T.z_sum (by decide +kernel) (pa_cons (pe_lc (own := [("word", 1), ("below", 2)]) (g := (gTup K 2 (gCons (gName 1) (gCons (gName 2) gNil)))) (tt := tYes) rfl sc__law_many.nd (pi_list (pe_ix ix_tup (pv 0) pe_int (fun _ _ => rfl))) (blkOk_by (own := [("word", 1), ("below", 2)]) (N := ["tree", "word", "below"]) (sc := defScope s__law_many) (by decide +kernel)) (fun _ _ _ _ _ => (pg_tup rfl (pgs_cons (pg_name (i := 1) sc__law_many.nd rfl (Or.inl rfl)) (pgs_cons (pg_name (i := 2) sc__law_many.nd rfl (Or.inl rfl)) pgs_nil)))) (fun _ _ _ _ _ => pts_nil) (fun _ _ _ _ _ => (pe_c c__law_many hr (by first | decide | omega) rfl (pa_cons (pv 2) pa_nil)))) pa_nil))))), ?_⟩
    rintro Γ R ⟨⟨sg, fs⟩, rfl, ho, hd, hm, rfl⟩ _
    rw [okT] at ho
    rw [dpT] at hd
    rw [mnT] at hm ⊢
    show SW _ [.sh (.tup [.str sg, .lst (fD fs)]), .un, .un] _
    refine sw_guard (b := decide (sg = Str.ofString "v")) (et_test (ep_op (ep_op (ep_var rfl) ep_int (rd_ixT (d := .str sg) (atI_nat (j := 0) rfl))) ep_str rd_eqS)) (fun z => ?_) fun z => ?_
    · rw [if_pos (of_decide_eq_true z)]
      exact sw_ret ep_int ⟨rfl, trivial⟩
    · rw [if_neg (of_decide_eq_false z)] at hm ⊢
      refine sw_ret (EvP.cast (ep_cb (ea_cons (EvF.p (EvF.cast (ef_map fs.li (fun p => D.tup [.str p.1, tD p.2]) (fun p => D.int ((mnT p.2 : Nat) : Int)) (wi_list (EvP.cast (ep_op (ep_var rfl) ep_int (rd_ixT (d := .lst (fD fs)) (atI_nat (j := 1) rfl))) (by rw [fD_li]))) ?_ fun p hp => ⟨_, gv_tup2 (by decide) (by decide), ?_⟩) ((List.map_map (f := fun p : Str × Ty => ((mnT p.2 : Nat) : Int)) (g := D.int) (l := fs.li)).symm))) ea_nil) rc_sum) ?_) ⟨rfl, trivial⟩
      · have := ho.2
        rw [sizeLine_eq]; omega
      · exact ep_call (ea_cons (ep_var (d := tD p.2) rfl) ea_nil) ⟨p.2, rfl, ok_li ho.1 hp, Nat.lt_of_le_of_lt (dp_li hp) (by omega), Nat.le_trans (mn_le hp) hm, rfl⟩ fun e Γ' h => h
      · rw [mnF_li, ← sum_cast, List.map_map]; rfl
end
end Lz
set_option Elab.async false
set_option linter.all false
set_option maxRecDepth 100000
set_option maxHeartbeats 4000000
/-! C10: k81: drawn trees, _law_tree. -/
namespace Lz
open PySem PySem.Spec PyProof.Rows L2 DL XS
local macro_rules | `(tactic| walk_at "sd") => `(tactic| first
  | assumption
  | exact .inl ⟨by decide, by decide⟩ | exact ⟨by decide, by decide, by decide⟩ | exact ⟨by decide, by decide⟩
  | (show (0 : Int) < _; first | decide | omega) | exact ⟨by omega, by omega⟩ | exact .inl ⟨by omega, by omega⟩ | exact .inr ⟨by omega, by omega⟩ | exact .inr ⟨by decide, by decide⟩ | omega)
local macro_rules | `(tactic| walk_at "ep") => `(tactic| first
  | exact ep_int | exact ep_str | exact ep_bl | exact ep_non | exact ep_ref | exact ep_ty
  | exact ep_var rfl
  | (refine' ep_ixM (.inr rfl) ?ka ?kr; (case ka => walk_at "ep"); (case kr => exact rfl))
  | (refine' ep_ixM (.inl rfl) ?ka ?kr; (case ka => walk_at "ep"); (case kr => exact rfl))
  | (refine' ep_op ?ka ?kb rd_I0i; (case ka => walk_at "ep"); (case kb => walk_at "ep"))
  | (refine' ep_op ?ka ?kb rd_I0b; (case ka => walk_at "ep"); (case kb => walk_at "ep"))
  | (refine' ep_op ?ka ?kb (rd_Ii ?sd); (case ka => walk_at "ep"); (case kb => walk_at "ep"); (case sd => walk_at "sd"))
  | (refine' ep_op ?ka ?kb rd_eqI; (case ka => walk_at "ep"); (case kb => walk_at "ep"))
  | (refine' ep_op ?ka ?kb rd_eqS; (case ka => walk_at "ep"); (case kb => walk_at "ep"))
  | (refine' ep_op ?ka ?kb rd_neI; (case ka => walk_at "ep"); (case kb => walk_at "ep"))
  | (refine' ep_op ?ka ?kb rd_neS; (case ka => walk_at "ep"); (case kb => walk_at "ep")))
local macro_rules | `(tactic| walk_at "et") => `(tactic| first
  | (refine' et_test ?ka; (case ka => walk_at "ep"))
  | (refine' et_not ?ka; (case ka => walk_at "et"))
  | (refine' et_and ?ka fun _ => ?kb; (case ka => walk_at "et"); (case kb => walk_at "et"))
  | (refine' et_or ?ka fun _ => ?kb; (case ka => walk_at "et"); (case kb => walk_at "et")))
theorem sc__law_tree : FnScope ["flask", "many", "opens", "way", "word", "fields", "rest", "size"] ["flask", "many", "opens"] (defScope s__law_tree) := ⟨rfl, rfl, rfl, by decide +kernel, rfl, by decide +kernel, by decide +kernel⟩
abbrev sV : Str := Str.ofString "v"
abbrev sM : Str := Str.ofString "?"
abbrev sL : Str := Str.ofString "["
abbrev sR : Str := Str.ofString "{"
/-- a drawn tree with so many open nodes above one another, at most -/
inductive Gd : Nat → Ty → Prop
  | v {n} : Gd n (.mk sV .nil)
  | o {n s w t} : s = sM ∨ s = sL → Gd n t → Gd (n + 1) (.mk s (.cons w t .nil))
  | r {n fs} : (∀ p ∈ fs.li, Gd n p.2) → (fs.li.map (·.1)).Nodup → fs.li.length ≤ 3 → Gd n (.mk sR fs)
theorem Gd.mono {n : Nat} {t : Ty} (h : Gd n t) : ∀ {m : Nat}, n ≤ m → Gd m t := by
  induction h with
  | v => exact fun _ => .v
  | o hs _ ih => intro m l; cases m with
    | zero => omega
    | succ m => exact .o hs (ih (by omega))
  | r _ nd hl ih => exact fun l => .r (fun p hp => ih p hp l) nd hl
theorem okF_of : ∀ {fs : Fs}, (∀ p ∈ fs.li, okT p.2) → okF fs
  | .nil, _ => trivial
  | .cons w t r, h => ⟨h (w, t) List.mem_cons_self, okF_of fun p hp => h p (List.mem_cons_of_mem _ hp)⟩
theorem Gd.ok {n : Nat} {t : Ty} (h : Gd n t) : okT t := by
  induction h with
  | v => exact ⟨trivial, by decide⟩
  | o _ _ ih => exact ⟨⟨ih, trivial⟩, by show 1 ≤ 1000; decide⟩
  | r _ _ hl ih => exact ⟨okF_of fun p hp => ih p hp, by omega⟩
def toFs : List (Str × Ty) → Fs
  | [] => .nil
  | (w, t) :: r => .cons w t (toFs r)
theorem toFs_li : ∀ l : List (Str × Ty), (toFs l).li = l
  | [] => rfl
  | (w, t) :: r => by rw [toFs, Fs.li, toFs_li r]
theorem dpF_le {n : Nat} : ∀ {fs : Fs}, (∀ p ∈ fs.li, dpT p.2 ≤ n) → dpF fs ≤ n
  | .nil, _ => Nat.zero_le _
  | .cons w t r, h => by
    rw [dpF]
    exact Nat.max_le.mpr ⟨h (w, t) List.mem_cons_self, dpF_le fun p hp => h p (List.mem_cons_of_mem _ hp)⟩
abbrev fld (p : Str × Ty) : D := .tup [.str p.1, tD p.2]
theorem tD_fs {s : Str} {l : List (Str × Ty)} : tD (.mk s (toFs l)) = .tup [.str s, .lst (l.map fld)] := by
  rw [tD, fD_li, toFs_li]
/-- what tells the names of a record apart -/
def kyN (w : Str) : Option Nat := (w.cps.toList.dropWhile (· == 97)).head?
def wd (r i q : Int) : Str := (Txt.mul (Str.ofString "a") r ++ ⟨#[((Str.ofString "qwertyuiopas").cps.toList.getD i.toNat 0)]⟩) ++ cutS (Str.ofString "zx") none (some q)
def lets : List Nat := [113, 119, 101]
theorem wd_ok {r q : Int} {i : Nat} (r0 : 0 ≤ r) (r1 : r < 2) (q0 : 0 ≤ q) (q1 : q < 3) (hi : i < 3) : kyN (wd r i q) = lets[i]? ∧ atI (Str.ofString "qwertyuiopas").cps.toList (i : Int) = some ((Str.ofString "qwertyuiopas").cps.toList.getD (i : Int).toNat 0) ∧ (Txt.mul (Str.ofString "a") r).length ≤ 2 ∧ (cutS (Str.ofString "zx") none (some q)).length ≤ 2 := by
  have hr : r = 0 ∨ r = 1 := by omega
  have hq : q = 0 ∨ q = 1 ∨ q = 2 := by omega
  have hi' : i = 0 ∨ i = 1 ∨ i = 2 := by omega
  rcases hr with rfl | rfl <;> rcases hq with rfl | rfl | rfl <;> rcases hi' with rfl | rfl | rfl <;> decide
/-- how often a tree's drawing drips -/
def tn : Nat → Nat
  | 0 => 20
  | N + 1 => 20 + 3 * tn N
def C_tree (N : Nat) : CnK := fun k es R => ∃ m o n : Nat, es = [.int m, .int o] ∧ Fo k n ∧ n + tn N ≤ 1000000000 ∧ 1 ≤ m ∧ m ≤ 3 ∧ o ≤ 3 ∧ m + o < N ∧
  R = fun d k' => ∃ t, d = tD t ∧ Gd o t ∧ mnT t = m ∧ dpT t ≤ m + o ∧ Fo k' (n + tn N)
theorem nodup_of_map {α β : Type} {f : α → β} : ∀ {l : List α}, (l.map f).Nodup → l.Nodup
  | [], _ => .nil
  | x :: l, h => by
    rw [List.map_cons, List.nodup_cons] at h
    exact List.nodup_cons.mpr ⟨fun m => h.1 (List.mem_map_of_mem m), nodup_of_map h.2⟩
section
variable {P : Program} {w : World} {K : PySem.W.Frag} {mg : Str → Option Value} {base : Heap} {f : Addr} {fd : FuncData}
theorem fn_noneK {C : CnK} (h : ∀ k es R, ¬ C k es R) {N : Nat} {ps : List Str} : FnOk P w K mg base CX0 N f fd ps (spK C) :=
  ⟨fun vs H Q E ⟨_, _, _, _, _, _, _, _, _, _, _, _, _, _, hC, _⟩ => absurd hC (h _ _ _), fun A outer s H args us vs Q E _ _ _ _ ⟨_, _, _, _, _, _, _, _, _, _, _, _, _, _, hC, _⟩ => absurd hC (h _ _ _)⟩
theorem ok_tree (T : Kx mg) (F : FnP K "_law_tree" s__law_tree f fd) (kf : PySem.W.keepIn K (.ref f) = true) (mf : mg "_law_tree" = some (.ref f)) (bf : Binds K fd ["flask", "many", "opens"] []) (c__law_drip : Cal P w K mg base 1 "_law_drip" (spK C_drip)) :
    ∀ N : Nat, FnOk P w K mg base CX0 (N + 2) f fd ["flask", "many", "opens"] (spK (C_tree N))
  | 0 => fn_noneK fun k es R ⟨_, _, _, _, _, _, _, _, _, h, _⟩ => absurd h (Nat.not_lt_zero _)
  | N + 1 => by
    have ih := ok_tree T F kf mf bf c__law_drip N
    have c__law_tree : Cal P w K mg base (N + 2) "_law_tree" (spK (C_tree N)) := ⟨f, fd, _, ih, mf, kf, bf⟩
    refine fn_okK F sc__law_tree (fun k es R ⟨m, o, n, h, _⟩ => by subst h; rfl) fun cdv A outer s H E hr => ⟨_, (pss_cons (ps_set (i := 3) sc__law_tree.nd rfl (by first | exact Or.inl rfl | exact Or.inr rfl) (pe_c c__law_drip hr (by first | decide | omega) rfl (pa_cons (pv 0) (pa_cons pe_int pa_nil))))
      (pss_cons (ps_if (PW.pt (pw_and (pt_cmpR op_gt (pv 2) pe_int (nomark _)) (pw_and1 (pt_cmpR op_gt (pv 3) pe_int (nomark _))))) (pss_cons (ps_set (i := 4) sc__law_tree.nd rfl (by first | exact Or.inl rfl | exact Or.inr rfl) (pe_ifExp (pt_cmpR op_eq (pv 3) pe_int (nomark _)) (pe_op op_repS (pe_ix ix_str pe_str (pe_c c__law_drip hr (by first | decide | omega) rfl (pa_cons (pv 0) (pa_cons pe_int pa_nil))) (fun _ _ => rfl)) (pe_op op_add pe_int (pe_c c__law_drip hr (by first | decide | omega) rfl (pa_cons (pv 0) (pa_cons pe_int pa_nil))))) pe_str))
      (pss_one (ps_ret (pe_tup (pa_cons (pe_ix ix_list (pe_lst (pa_cons pe_str (pa_cons pe_str (pa_cons pe_str (pa_cons pe_str (pa_cons pe_str pa_nil)))))) (pe_op op_sub (pv 3) pe_int) (fun _ _ => rfl)) (pa_cons (pe_lst (pa_cons (pe_tup (pa_cons (pv 4) (pa_cons (pe_c c__law_tree hr (by first | decide | omega) rfl (pa_cons (pv 0) (pa_cons (pv 1) (pa_cons (pe_op op_sub (pv 2) pe_int) pa_nil)))) pa_nil))) pa_nil)) pa_nil)))))) pss_nil)
      (pss_cons (ps_if (pt_cmpR op_eq (pv 1) pe_int (nomark _)) (pss_one (ps_ret (pe_tup (pa_cons pe_str (pa_cons (pe_lst pa_nil) pa_nil))))) pss_nil)
      (pss_cons (ps_par (i := 5) (j := 6) rfl sc__law_tree.nd rfl rfl (by decide) rfl rfl (pa_cons (pe_lst pa_nil) (pa_cons (pv 1) pa_nil)) (by rfl))
      (pss_cons (ps_while PassesOwn.never (pt_cmpR op_gt (pv 6) pe_int (nomark _)) (pss_cons (ps_set (i := 7) sc__law_tree.nd rfl (by first | exact Or.inl rfl | exact Or.inr rfl) (pe_callB (call_min2 rfl) rfl T.z_min (by decide +kernel) (pa_cons (pe_op op_add pe_int (pe_c c__law_drip hr (by first | decide | omega) rfl (pa_cons (pv 0) (pa_cons (pv 6) pa_nil)))) (pa_cons (pe_op op_sub (pv 1) pe_int) pa_nil))))
      (pss_cons (ps_set (i := 4) sc__law_tree.nd rfl (by first | exact Or.inl rfl | exact Or.inr rfl) (pe_op op_add_str (pe_op op_add_str (pe_op op_repS pe_str (pe_c c__law_drip hr (by first | decide | omega) rfl (pa_cons (pv 0) (pa_cons pe_int pa_nil)))) (pe_ix ix_str pe_str (pe_callB call_len_seq rfl T.z_len (by decide +kernel) (pa_cons (pv 5) pa_nil)) (fun _ _ => rfl))) (pe_slice sl_str pe_str po_none (po_some (pe_c c__law_drip hr (by first | decide | omega) rfl (pa_cons (pv 0) (pa_cons pe_int pa_nil)))))))
      (pss_cons (ps_expr (pe_bm PySem.F.plainAttrs_list PySem.F.slot_list_append PySem.F.type_list_append mt_append (pv 5) (pa_cons (pe_tup (pa_cons (pv 4) (pa_cons (pe_c c__law_tree hr (by first | decide | omega) rfl (pa_cons (pv 0) (pa_cons (pv 7) (pa_cons (pe_callB (call_max2 rfl) rfl T.z_max (by decide +kernel) (pa_cons pe_int (pa_cons (pe_op op_sub (pv 2) (pe_c c__law_drip hr (by first | decide | omega) rfl (pa_cons (pv 0) (pa_cons pe_int pa_nil)))) pa_nil))) pa_nil)))) pa_nil))) pa_nil)))
      (pss_one (ps_set (i := 6) sc__law_tree.nd rfl (by first | exact Or.inl rfl | exact Or.inr rfl) (pe_op op_sub (pv 6) (pv 7))))))))
      (pss_one (ps_ret (pe_tup (pa_cons pe_str (pa_cons (pv 5) pa_nil)))))))))), ?_⟩
    rintro a b k es R ⟨m, o, n, rfl, hf, hn, m1, m3, o3, hN, rfl⟩
    have et : tn (N + 1) = 20 + 3 * tn N := rfl
    show SK a b _ [.sh (.ref a), .sh (.int m), .sh (.int o), .un, .un, .un, .un, .un] k _
    refine qk_asg (R := fun d k' => ∃ y : Int, d = .int y ∧ 0 ≤ y ∧ y < 6 ∧ Fo k' (n + 1)) (ek_drip rfl (ea_cons ep_int ea_nil) hf (by omega) (by decide) (by decide) fun r k' r0 r1 h => ⟨r, rfl, r0, r1, h⟩) ?_
    rintro _ k1 ⟨y, rfl, y0, y6, hf1⟩
    show SK a b _ [.sh (.ref a), .sh (.int m), .sh (.int o), .sh (.int y), .un, .un, .un, .un] k1 _
    refine sk_guard (v := decide ((o : Int) > 0) && decide (y > 0)) (et_and (et_test (by walk_at "ep")) fun _ => et_test (by walk_at "ep")) (fun z => ?_) fun z => ?_
    · rw [Bool.and_eq_true, decide_eq_true_eq, decide_eq_true_eq] at z
      obtain ⟨z1, z2⟩ := z
      refine qk_asg (R := fun d k' => (∃ ww : Str, d = .str ww) ∧ Fo k' (n + 3)) (ek_if (Rt := fun v k' => k' = k1) (etk_p (v := decide (y = 5)) (et_test (by walk_at "ep")) rfl) (fun k' e => ?_) fun k' e => ?_) ?_
      · subst e
        refine ek_op (R1 := fun x k2 => ∃ c : Nat, x = .str ⟨#[c]⟩ ∧ Fo k2 (n + 2)) (ek_opP (ep_str (i := Str.ofString "qwertyui")) (ek_drip rfl (ea_cons ep_int ea_nil) hf1 (by omega) (by decide) (by decide) fun r k2 r0 r1 h => ?_)) fun x k2 ⟨c, e, h⟩ => ?_
        · have hr : r = 0 ∨ r = 1 ∨ r = 2 ∨ r = 3 ∨ r = 4 ∨ r = 5 ∨ r = 6 ∨ r = 7 := by omega
          rcases hr with rfl | rfl | rfl | rfl | rfl | rfl | rfl | rfl <;> exact ⟨_, rd_ixStr (by decide) rfl, _, rfl, h⟩
        · subst e
          refine ek_opP ep_int (ek_drip rfl (ea_cons ep_int ea_nil) h (by omega) (by decide) (by decide) fun r k3 r0 r1 h3 => ⟨.int (1 + r), rd_I0i, .str (Txt.mul ⟨#[c]⟩ (1 + r)), rd_repS ?_, ⟨_, rfl⟩, h3⟩)
          have hr : r = 0 ∨ r = 1 ∨ r = 2 := by omega
          rcases hr with rfl | rfl | rfl <;> exact ⟨by decide, fun _ _ => by show ¬ (1 : Int) > _; decide, fun _ _ => by show Builtin.Str.tooLong (1 * _) = false; decide⟩
      · subst e
        exact ek_p ep_str ⟨⟨_, rfl⟩, hf1.mono (by omega)⟩
      · rintro _ k2 ⟨⟨ww, rfl⟩, hf2⟩
        show SK a b _ [.sh (.ref a), .sh (.int m), .sh (.int o), .sh (.int y), .sh (.str ww), .un, .un, .un] k2 _
        have o1 : 1 ≤ o := by omega
        have hy : y = 1 ∨ y = 2 ∨ y = 3 ∨ y = 4 ∨ y = 5 := by omega
        have hs : ∃ sg : Str, (sg = sM ∨ sg = sL ∨ sg = sR) ∧ atI [D.str sM, .str sM, .str sL, .str sL, .str sR] (y - 1) = some (.str sg) := by
          rcases hy with rfl | rfl | rfl | rfl | rfl
          · exact ⟨sM, .inl rfl, rfl⟩
          · exact ⟨sM, .inl rfl, rfl⟩
          · exact ⟨sL, .inr (.inl rfl), rfl⟩
          · exact ⟨sL, .inr (.inl rfl), rfl⟩
          · exact ⟨sR, .inr (.inr rfl), rfl⟩
        obtain ⟨sg, hsg, hat⟩ := hs
        refine sk_ret (R := fun d k' => ∃ t, d = tD (.mk sg (.cons ww t .nil)) ∧ Gd (o - 1) t ∧ mnT t = m ∧ dpT t ≤ m + (o - 1) ∧ Fo k' (n + 3 + tn N)) (ek_tup (R' := fun ds k' => ∃ t, ds = [.str sg, .lst [.tup [.str ww, tD t]]] ∧ Gd (o - 1) t ∧ mnT t = m ∧ dpT t ≤ m + (o - 1) ∧ Fo k' (n + 3 + tn N)) ?_ fun ds k' ⟨t, e, q⟩ => ⟨by rw [e]; show 2 ≤ sizeLine; decide, t, by rw [e]; rfl, q⟩) ?_
        · refine eak_cons (R1 := fun d k' => d = .str sg ∧ k' = k2) (ek_p (ep_op (x := .lst [D.str sM, .str sM, .str sL, .str sL, .str sR]) (EvF.p (ef_lst (ea_cons ep_str (ea_cons ep_str (ea_cons ep_str (ea_cons ep_str (ea_cons ep_str ea_nil))))) (by show 5 ≤ sizeLine; decide))) (by walk_at "ep") (rd_ixL hat)) ⟨rfl, rfl⟩) ?_
          rintro _ k3 ⟨rfl, rfl⟩
          refine eak_cons (R1 := fun d k' => ∃ t, d = .lst [.tup [.str ww, tD t]] ∧ Gd (o - 1) t ∧ mnT t = m ∧ dpT t ≤ m + (o - 1) ∧ Fo k' (n + 3 + tn N)) (ek_lst (R' := fun ds k' => ∃ t, ds = [.tup [.str ww, tD t]] ∧ Gd (o - 1) t ∧ mnT t = m ∧ dpT t ≤ m + (o - 1) ∧ Fo k' (n + 3 + tn N)) ?_ fun ds k' ⟨t, e, q⟩ => ⟨by rw [e]; show 1 ≤ sizeLine; decide, t, by rw [e], q⟩) ?_
          · refine eak_cons (R1 := fun d k' => ∃ t, d = .tup [.str ww, tD t] ∧ Gd (o - 1) t ∧ mnT t = m ∧ dpT t ≤ m + (o - 1) ∧ Fo k' (n + 3 + tn N)) (ek_tup (R' := fun ds k' => ∃ t, ds = [.str ww, tD t] ∧ Gd (o - 1) t ∧ mnT t = m ∧ dpT t ≤ m + (o - 1) ∧ Fo k' (n + 3 + tn N)) ?_ fun ds k' ⟨t, e, q⟩ => ⟨by rw [e]; show 2 ≤ sizeLine; decide, t, by rw [e], q⟩) fun x k' ⟨t, e, q⟩ => eak_nil ⟨t, by rw [e], q⟩
            refine eak_cons (R1 := fun d k' => d = .str ww ∧ k' = k3) (ek_p (ep_var rfl) ⟨rfl, rfl⟩) ?_
            rintro _ k4 ⟨rfl, rfl⟩
            have eo : EvP (tOp (rI0 fun i j => V.int (i - j)) (tVar 2) (tC (.int 1))) [.sh (.ref a), .sh (.int m), .sh (.int o), .sh (.int y), .sh (.str ww), .un, .un, .un] (.int ((o - 1 : Nat) : Int)) := EvP.cast (ep_op (ep_var rfl) ep_int rd_I0i) (by congr 1; omega)
            refine eak_cons (ek_call (C := C_tree N) rfl (ea_cons (ep_var rfl) (ea_cons eo ea_nil)) ⟨m, o - 1, n + 3, rfl, hf2, by omega, m1, m3, by omega, by omega, rfl⟩) ?_
            rintro _ k5 ⟨t, rfl, g, e1, e2, h5⟩
            exact eak_nil ⟨t, rfl, g, e1, e2, h5⟩
          · rintro _ k4 ⟨t, rfl, q⟩
            exact eak_nil ⟨t, rfl, q⟩
        · rintro d k' ⟨t, e, g, e1, e2, h5⟩
          refine ⟨_, e, ?_, ?_, ?_, h5.mono (by omega)⟩
          · rcases hsg with rfl | rfl | rfl
            · have := Gd.o (w := ww) (.inl rfl : sM = sM ∨ sM = sL) g
              rwa [Nat.sub_add_cancel o1] at this
            · have := Gd.o (w := ww) (.inr rfl : sL = sM ∨ sL = sL) g
              rwa [Nat.sub_add_cancel o1] at this
            · exact .r (fun p hp => by
                rcases List.mem_singleton.mp hp with rfl
                exact g.mono (by omega)) (by show [ww].Nodup; simp) (by show 1 ≤ 3; decide)
          · rw [mnT, if_neg, mnF, mnF, e1]
            · rfl
            · rcases hsg with rfl | rfl | rfl <;> decide
          · rw [dpT, dpF, dpF, Nat.max_zero]; omega
    refine sk_guard (v := decide ((m : Int) = 1)) (et_test (by walk_at "ep")) (fun z => ?_) fun z => ?_
    · have em : m = 1 := by have := of_decide_eq_true z; omega
      refine sk_ret (R := fun d k' => d = tD (.mk sV .nil) ∧ k' = k1) (ek_p (ep_tup (ea_cons ep_str (ea_cons (EvF.p (ef_lst ea_nil (by decide))) ea_nil)) (by show 2 ≤ sizeLine; decide)) ⟨rfl, rfl⟩) ?_
      rintro d k' ⟨rfl, rfl⟩
      exact ⟨_, rfl, .v, by rw [em]; rfl, by show 1 ≤ m + o; omega, hf1.mono (by omega)⟩
    have m2 : 2 ≤ m := by have := of_decide_eq_false z; omega
    refine SK.seq (M := fun Γ' k' => Γ' = [.sh (.ref a), .sh (.int m), .sh (.int o), .sh (.int y), .un, .own [], .sh (.int m), .un] ∧ k' = k1) (sk_parF (by decide) (ef_lst ea_nil (by decide)) (ep_var rfl) ⟨rfl, rfl⟩) ?_
    rintro _ k2 ⟨rfl, rfl⟩
    refine SK.seq (M := fun Γ' k' => ∃ (l : List (Str × Ty)) (e4 e7 : En), Γ' = [.sh (.ref a), .sh (.int m), .sh (.int o), .sh (.int y), e4, .own (l.map fld), .sh (.int (0 : Nat)), e7] ∧ (∀ p ∈ l, Gd o p.2 ∧ dpT p.2 + 1 ≤ m + o) ∧ l.map (fun p => kyN p.1) = (lets.take l.length).map some ∧ l.length ≤ 3 ∧ (l.map fun p => mnT p.2).sum = m ∧ Fo k' (n + tn (N + 1)))
      (sk_whileG (fun rest Γi ki => ∃ (l : List (Str × Ty)) (e4 e7 : En), Γi = [.sh (.ref a), .sh (.int m), .sh (.int o), .sh (.int y), e4, .own (l.map fld), .sh (.int rest), e7] ∧ (∀ p ∈ l, Gd o p.2 ∧ dpT p.2 + 1 ≤ m + o) ∧ l.map (fun p => kyN p.1) = (lets.take l.length).map some ∧ l.length + rest ≤ m ∧ (l.map fun p => mnT p.2).sum + rest = m ∧ Fo ki (n + 1 + l.length * (4 + tn N))) m ⟨[], .un, .un, rfl, (fun p hp => nomatch hp), rfl, (by simp), (by simp), (by rw [List.length_nil, Nat.zero_mul]; exact hf1)⟩ ?_) ?_
    · rintro rest Γi ki ⟨l, e4, e7, rfl, hl, hk, hlr, hsum, hfi⟩
      refine ⟨fun v k' => v = decide ((rest : Int) > 0) ∧ k' = ki, etk_p (et_test (by walk_at "ep")) ⟨rfl, rfl⟩, ?_, ?_⟩
      · rintro k3 ⟨zr, rfl⟩
        have r1 : 1 ≤ rest := by have := of_decide_eq_true zr.symm; omega
        have l3 : l.length < 3 := by omega
        have hb : l.length * (4 + tn N) ≤ 2 * (4 + tn N) := Nat.mul_le_mul_right _ (by omega)
        refine qk_asg (R := fun d k' => ∃ s : Nat, d = .int s ∧ 1 ≤ s ∧ s ≤ rest ∧ s ≤ m - 1 ∧ Fo k' (n + 1 + l.length * (4 + tn N) + 1)) (ek_cb (R' := fun ds k' => ∃ r : Int, ds = [.int (1 + r), .int ((m : Int) - 1)] ∧ 0 ≤ r ∧ r < rest ∧ Fo k' (n + 1 + l.length * (4 + tn N) + 1)) ?_ ?_) ?_
        · refine eak_cons (R1 := fun d k' => ∃ r : Int, d = .int (1 + r) ∧ 0 ≤ r ∧ r < rest ∧ Fo k' (n + 1 + l.length * (4 + tn N) + 1)) (ek_opP ep_int (ek_drip (m := (rest : Int)) rfl (ea_cons (ep_var rfl) ea_nil) hfi (by omega) (by omega) (by omega) fun r k' r0 r1 h => ⟨.int (1 + r), rd_I0i, r, rfl, r0, r1, h⟩)) ?_
          rintro _ k4 ⟨r, rfl, q0, q1, h4⟩
          exact eak_cons (R1 := fun d k' => d = .int ((m : Int) - 1) ∧ k' = k4) (ek_p (by walk_at "ep") ⟨rfl, rfl⟩) fun d k5 ⟨e1, e2⟩ => by subst e1 e2; exact eak_nil ⟨r, rfl, q0, q1, h4⟩
        · rintro _ k4 ⟨r, rfl, q0, q1, h4⟩
          refine ⟨.int (if (m : Int) - 1 < 1 + r then (m : Int) - 1 else 1 + r), rc_int2 (f := fun i j => if j < i then j else i), (if (m : Int) - 1 < 1 + r then (m : Int) - 1 else 1 + r).toNat, ?_, ?_, ?_, ?_, h4⟩
          · split <;> (congr 1; try omega)
          · split <;> omega
          · split <;> omega
          · split <;> omega
        · rintro _ k4 ⟨sz, rfl, s1, s2, s3, h4⟩
          show SK a b _ [.sh (.ref a), .sh (.int m), .sh (.int o), .sh (.int y), e4, .own (l.map fld), .sh (.int rest), .sh (.int sz)] k4 _
          refine qk_asg (R := fun d k' => ∃ ww : Str, d = .str ww ∧ kyN ww = lets[l.length]? ∧ Fo k' (n + 1 + l.length * (4 + tn N) + 3)) (ek_op (R1 := fun x k' => ∃ r : Int, 0 ≤ r ∧ r < 2 ∧ x = .str (Txt.mul (Str.ofString "a") r ++ ⟨#[((Str.ofString "qwertyuiopas").cps.toList.getD (l.length : Int).toNat 0)]⟩) ∧ Fo k' (n + 1 + l.length * (4 + tn N) + 2)) (ek_opL (R1 := fun x k' => ∃ r : Int, 0 ≤ r ∧ r < 2 ∧ x = .str (Txt.mul (Str.ofString "a") r) ∧ Fo k' (n + 1 + l.length * (4 + tn N) + 2)) (ek_opP ep_str (ek_drip rfl (ea_cons ep_int ea_nil) h4 (by omega) (by decide) (by decide) fun r k' r0 r1 h => ⟨.str (Txt.mul (Str.ofString "a") r), rd_repS ?_, r, r0, r1, rfl, h⟩)) ?_) ?_) ?_
          · have hr : r = 0 ∨ r = 1 := by omega
            rcases hr with rfl | rfl <;> exact ⟨by decide, by decide, by decide⟩
          · rintro _ k5 ⟨r, r0, r1, rfl, h5⟩
            obtain ⟨w1, w2, w3, w4⟩ := wd_ok (q := 0) r0 r1 (by decide) (by decide) l3
            refine ⟨_, _, ep_op ep_str (EvP.cast (ep_lenM (.inl rfl)) (by rw [List.length_map])) (rd_ixStr (by decide) w2), rd_addS ?_, r, r0, r1, rfl, h5⟩
            have : (⟨#[((Str.ofString "qwertyuiopas").cps.toList.getD (l.length : Int).toNat 0)]⟩ : Str).length = 1 := rfl
            rw [this, sizeLine_eq]; omega
          · rintro _ k5 ⟨r, r0, r1, rfl, h5⟩
            refine ek_slTo (R1 := fun x k' => ∃ q : Int, x = .int q ∧ 0 ≤ q ∧ q < 3 ∧ Fo k' (n + 1 + l.length * (4 + tn N) + 3)) (ep_str (i := Str.ofString "zx")) (by decide) (ek_drip rfl (ea_cons ep_int ea_nil) h5 (by omega) (by decide) (by decide) fun q k' q0 q1 h => ⟨q, rfl, q0, q1, h⟩) ?_
            rintro _ k6 ⟨q, rfl, q0, q1, h6⟩
            obtain ⟨w1, w2, w3, w4⟩ := wd_ok r0 r1 q0 q1 l3
            refine ⟨q, rfl, _, rd_addS ?_, _, rfl, w1, h6⟩
            have e1 : (Txt.mul (Str.ofString "a") r ++ (⟨#[((Str.ofString "qwertyuiopas").cps.toList.getD (l.length : Int).toNat 0)]⟩ : Str)).length = (Txt.mul (Str.ofString "a") r).length + 1 := Array.size_append
            rw [e1, sizeLine_eq]; omega
          · rintro _ k5 ⟨ww, rfl, hww, h5⟩
            show SK a b _ [.sh (.ref a), .sh (.int m), .sh (.int o), .sh (.int y), .sh (.str ww), .own (l.map fld), .sh (.int rest), .sh (.int sz)] k5 _
            refine SK.seq (M := fun Γ' k' => ∃ t, Γ' = [.sh (.ref a), .sh (.int m), .sh (.int o), .sh (.int y), .sh (.str ww), .own ((l ++ [(ww, t)]).map fld), .sh (.int rest), .sh (.int sz)] ∧ Gd o t ∧ mnT t = sz ∧ dpT t + 1 ≤ m + o ∧ Fo k' (n + 1 + l.length * (4 + tn N) + 4 + tn N)) (sk_app (R := fun d k' => ∃ t, d = fld (ww, t) ∧ Gd o t ∧ mnT t = sz ∧ dpT t + 1 ≤ m + o ∧ Fo k' (n + 1 + l.length * (4 + tn N) + 4 + tn N)) rfl (ek_tup (R' := fun ds k' => ∃ t, ds = [.str ww, tD t] ∧ Gd o t ∧ mnT t = sz ∧ dpT t + 1 ≤ m + o ∧ Fo k' (n + 1 + l.length * (4 + tn N) + 4 + tn N)) ?_ fun ds k' ⟨t, e, q⟩ => ⟨by rw [e]; show 2 ≤ sizeLine; decide, t, by rw [e], q⟩) ?_ ?_) ?_
            · refine eak_cons (R1 := fun d k' => d = .str ww ∧ k' = k5) (ek_p (ep_var rfl) ⟨rfl, rfl⟩) ?_
              rintro _ k6 ⟨rfl, rfl⟩
              refine eak_cons (R1 := fun d k' => ∃ t, d = tD t ∧ Gd o t ∧ mnT t = sz ∧ dpT t + 1 ≤ m + o ∧ Fo k' (n + 1 + l.length * (4 + tn N) + 4 + tn N)) ?_ fun x k7 ⟨t, e, q⟩ => eak_nil ⟨t, by rw [e], q⟩
              -- the call: its last argument drips
              refine ek_callA (R1 := fun ds k' => ∃ p : Nat, ds = [.int sz, .int p] ∧ p ≤ o ∧ Fo k' (n + 1 + l.length * (4 + tn N) + 4)) rfl (eak_cons (R1 := fun d k' => d = .int sz ∧ k' = k6) (ek_p (ep_var rfl) ⟨rfl, rfl⟩) ?_) ?_
              · rintro _ k7 ⟨rfl, rfl⟩
                refine eak_cons (R1 := fun d k' => ∃ p : Nat, d = .int p ∧ p ≤ o ∧ Fo k' (n + 1 + l.length * (4 + tn N) + 4)) (ek_cb (R' := fun ds k' => ∃ r : Int, ds = [.int 0, .int ((o : Int) - r)] ∧ 0 ≤ r ∧ r < 2 ∧ Fo k' (n + 1 + l.length * (4 + tn N) + 4)) ?_ ?_) fun x k8 ⟨p, e, q⟩ => eak_nil ⟨p, by rw [e], q⟩
                · refine eak_cons (R1 := fun d k' => d = .int 0 ∧ k' = k7) (ek_p ep_int ⟨rfl, rfl⟩) ?_
                  rintro _ k8 ⟨rfl, rfl⟩
                  exact eak_cons (R1 := fun d k' => ∃ r : Int, d = .int ((o : Int) - r) ∧ 0 ≤ r ∧ r < 2 ∧ Fo k' (n + 1 + l.length * (4 + tn N) + 4)) (ek_opP (ep_var rfl) (ek_drip rfl (ea_cons ep_int ea_nil) h5 (by omega) (by decide) (by decide) fun r k' r0 r1 h => ⟨.int ((o : Int) - r), rd_I0i, r, rfl, r0, r1, h⟩)) fun x k9 ⟨r, e, q⟩ => eak_nil ⟨r, by rw [e], q⟩
                · rintro _ k8 ⟨r, rfl, q0, q1, h8⟩
                  refine ⟨.int (if (o : Int) - r > 0 then (o : Int) - r else 0), rc_int2 (f := fun i j => if j > i then j else i), (if (o : Int) - r > 0 then (o : Int) - r else 0).toNat, ?_, ?_, h8⟩
                  · split <;> (congr 1; try omega)
                  · split <;> omega
              · rintro _ k8 ⟨p, rfl, hp, h8⟩
                exact ⟨_, ⟨sz, p, _, rfl, h8, by omega, s1, by omega, by omega, by omega, rfl⟩, fun d k9 ⟨t, e, g, e1, e2, h9⟩ => ⟨t, e, g.mono hp, e1, by omega, h9⟩⟩
            · rw [List.length_map, sizeLine_eq]; omega
            · rintro _ k6 ⟨t, rfl, q⟩
              exact ⟨t, by rw [List.map_append]; rfl, q⟩
            · rintro _ k6 ⟨t, rfl, g, e1, e2, h6⟩
              refine sk_asg (R := fun d k' => d = .int ((rest : Int) - sz) ∧ k' = k6) (ek_p (by walk_at "ep") ⟨rfl, rfl⟩) ?_
              rintro _ k7 ⟨rfl, rfl⟩
              refine ⟨rest - sz, by omega, l ++ [(ww, t)], .sh (.str ww), .sh (.int sz), ?_, ?_, ?_, ?_, ?_, ?_⟩
              · show [_, _, _, _, _, _, En.sh (.int ((rest : Int) - sz)), _] = _
                have : ((rest : Int) - sz) = ((rest - sz : Nat) : Int) := by omega
                rw [this]
              · intro p hp
                rcases List.mem_append.mp hp with hp | hp
                · exact hl p hp
                · rcases List.mem_singleton.mp hp with rfl
                  exact ⟨g, e2⟩
              · have hll : l.length < lets.length := l3
                rw [List.map_append, hk, List.length_append, List.length_singleton, List.take_succ, List.map_append]
                congr 1
                show [kyN ww] = _
                rw [hww, List.getElem?_eq_getElem hll]
                rfl
              · rw [List.length_append, List.length_singleton]; omega
              · rw [List.map_append, List.sum_append]
                show _ + (mnT t + 0) + _ = m
                omega
              · rw [List.length_append, List.length_singleton, Nat.add_mul, Nat.one_mul]
                exact h6.mono (by omega)
      · rintro k3 ⟨zr, rfl⟩
        have r0 : rest = 0 := by have := of_decide_eq_false zr.symm; omega
        subst r0
        have hb : l.length * (4 + tn N) ≤ 3 * (4 + tn N) := Nat.mul_le_mul_right _ (by omega)
        exact ⟨l, e4, e7, rfl, hl, hk, by omega, by omega, hfi.mono (by omega)⟩
    · rintro _ k3 ⟨l, e4, e7, rfl, hl, hk, hl3, hsum, hf3⟩
      refine sk_frz (ds := l.map fld) (i := 5) rfl ?_
      show SK a b _ [.sh (.ref a), .sh (.int m), .sh (.int o), .sh (.int y), e4, .sh (.lst (l.map fld)), .sh (.int (0 : Nat)), e7] k3 _
      refine sk_ret (R := fun d k' => d = tD (.mk sR (toFs l)) ∧ k' = k3) (ek_p (EvP.cast (ep_tup (ea_cons ep_str (ea_cons (ep_var rfl) ea_nil)) (by show 2 ≤ sizeLine; decide)) tD_fs.symm) ⟨rfl, rfl⟩) ?_
      rintro d k' ⟨rfl, rfl⟩
      refine ⟨_, rfl, .r ?_ ?_ ?_, ?_, ?_, hf3⟩
      · rw [toFs_li]; exact fun p hp => (hl p hp).1
      · rw [toFs_li]
        refine nodup_of_map (f := kyN) ?_
        rw [List.map_map]
        show (l.map fun p => kyN p.1).Nodup
        rw [hk]
        have hcase : l.length = 0 ∨ l.length = 1 ∨ l.length = 2 ∨ l.length = 3 := by omega
        rcases hcase with h | h | h | h <;> rw [h] <;> decide
      · rw [toFs_li]; exact hl3
      · rw [mnT, if_neg (by decide), mnF_li, toFs_li]; exact hsum
      · rw [dpT]
        have : dpF (toFs l) ≤ m + o - 1 := dpF_le fun p hp => by
          rw [toFs_li] at hp
          have := (hl p hp).2
          omega
        omega
end
end Lz
set_option Elab.async false
set_option linter.all false
set_option maxRecDepth 100000
set_option maxHeartbeats 4000000
/-! C11: k81: drawn objects, _law_object, _law_docs. -/
namespace Lz
open PySem PySem.Spec PyProof.Rows L2 DL XS
local macro_rules | `(tactic| walk_at "sd") => `(tactic| first
  | assumption
  | exact .inl ⟨by decide, by decide⟩ | exact ⟨by decide, by decide, by decide⟩ | exact ⟨by decide, by decide⟩
  | (show (0 : Int) < _; first | decide | omega) | exact ⟨by omega, by omega⟩ | exact .inl ⟨by omega, by omega⟩ | exact .inr ⟨by omega, by omega⟩ | exact .inr ⟨by decide, by decide⟩ | omega)
local macro_rules | `(tactic| walk_at "ep") => `(tactic| first
  | exact ep_int | exact ep_str | exact ep_bl | exact ep_non | exact ep_ref | exact ep_ty
  | exact ep_var rfl
  | (refine' ep_ixM (.inr rfl) ?ka ?kr; (case ka => walk_at "ep"); (case kr => exact rfl))
  | (refine' ep_ixM (.inl rfl) ?ka ?kr; (case ka => walk_at "ep"); (case kr => exact rfl))
  | (refine' ep_op ?ka ?kb rd_I0i; (case ka => walk_at "ep"); (case kb => walk_at "ep"))
  | (refine' ep_op ?ka ?kb rd_I0b; (case ka => walk_at "ep"); (case kb => walk_at "ep"))
  | (refine' ep_op ?ka ?kb (rd_Ii ?sd); (case ka => walk_at "ep"); (case kb => walk_at "ep"); (case sd => walk_at "sd"))
  | (refine' ep_op ?ka ?kb rd_eqI; (case ka => walk_at "ep"); (case kb => walk_at "ep"))
  | (refine' ep_op ?ka ?kb rd_eqS; (case ka => walk_at "ep"); (case kb => walk_at "ep"))
  | (refine' ep_op ?ka ?kb rd_neI; (case ka => walk_at "ep"); (case kb => walk_at "ep"))
  | (refine' ep_op ?ka ?kb rd_neS; (case ka => walk_at "ep"); (case kb => walk_at "ep")))
local macro_rules | `(tactic| walk_at "et") => `(tactic| first
  | (refine' et_test ?ka; (case ka => walk_at "ep"))
  | (refine' et_not ?ka; (case ka => walk_at "et"))
  | (refine' et_and ?ka fun _ => ?kb; (case ka => walk_at "et"); (case kb => walk_at "et"))
  | (refine' et_or ?ka fun _ => ?kb; (case ka => walk_at "et"); (case kb => walk_at "et")))
theorem sc__law_object : FnScope ["flask", "tree", "deep", "sign", "fields", "size", "turn", "found", "word", "below"] ["flask", "tree", "deep"] (defScope s__law_object) := ⟨rfl, rfl, rfl, by decide +kernel, rfl, by decide +kernel, by decide +kernel⟩
theorem sc__law_docs : FnScope ["flask", "tree", "many", "turn"] ["flask", "tree", "many"] (defScope s__law_docs) := ⟨rfl, rfl, rfl, by decide +kernel, rfl, by decide +kernel, by decide +kernel⟩
/-- an object of a schema -/
inductive Ob : Ty → D → Prop
  | v {s i} : s = sV → -bg ≤ i → i ≤ bg → Ob (.mk s .nil) (.int i)
  | m0 {s w t} : s = sM → Ob (.mk s (.cons w t .nil)) (.tup [])
  | m1 {s w t x} : s = sM → Ob t x → Ob (.mk s (.cons w t .nil)) (.tup [x])
  | l {s w t xs} : s = sL → xs.length ≤ 2 → (∀ x ∈ xs, Ob t x) → Ob (.mk s (.cons w t .nil)) (.lst xs)
  | r {s fs kvs} : s = sR → (∀ p ∈ fs.li, (kvs.lookup p.1).isSome = true) → (∀ p ∈ fs.li, Ob p.2 ((kvs.lookup p.1).getD .non)) → Ob (.mk s fs) (.dct kvs)
theorem lookup_nd {α : Type} {w : Str} {x : α} : ∀ {l : List (Str × α)}, (l.map (·.1)).Nodup → (w, x) ∈ l → l.lookup w = some x
  | (v, y) :: l, nd, h => by
    rw [List.map_cons, List.nodup_cons] at nd
    rw [List.lookup_cons]
    rcases List.mem_cons.mp h with h' | h2
    · cases h'
      rw [beq_self_eq_true]
    · have : (w == v) = false := by
        rw [beq_eq_false_iff_ne]
        rintro rfl
        exact nd.1 (List.mem_map.mpr ⟨_, h2, rfl⟩)
      rw [this]
      exact lookup_nd nd.2 h2
def on : Nat → Nat
  | 0 => 5
  | N + 1 => 6 + 3 * on N
def C_object (N : Nat) : CnK := fun k es R => ∃ (t : Ty) (dp g n : Nat), es = [tD t, .int dp] ∧ Fo k n ∧ n + on N ≤ 1000000000 ∧ Gd g t ∧ dpT t < N ∧ R = fun d k' => Ob t d ∧ Fo k' (n + on N)
def C_docs (N : Nat) : CnK := fun k es R => ∃ (t : Ty) (m g n : Nat), es = [tD t, .int m] ∧ Fo k n ∧ n + 3 * on N ≤ 1000000000 ∧ m ≤ 3 ∧ Gd g t ∧ dpT t < N ∧ R = fun d k' => ∃ ds, d = .lst ds ∧ ds.length ≤ 3 ∧ (∀ x ∈ ds, Ob t x) ∧ Fo k' (n + 3 * on N)
section
variable {P : Program} {w : World} {K : PySem.W.Frag} {mg : Str → Option Value} {base : Heap} {f : Addr} {fd : FuncData}
theorem ok_object (T : Kx mg) (F : FnP K "_law_object" s__law_object f fd) (kf : PySem.W.keepIn K (.ref f) = true) (mf : mg "_law_object" = some (.ref f)) (bf : Binds K fd ["flask", "tree", "deep"] []) (c__law_drip : Cal P w K mg base 1 "_law_drip" (spK C_drip)) (c__law_amount : Cal P w K mg base 2 "_law_amount" (spK C_amount)) :
    ∀ N : Nat, FnOk P w K mg base CX0 (N + 3) f fd ["flask", "tree", "deep"] (spK (C_object N))
  | 0 => fn_noneK fun k es R ⟨_, _, _, _, _, _, _, _, h, _⟩ => absurd h (Nat.not_lt_zero _)
  | N + 1 => by
    have ih := ok_object T F kf mf bf c__law_drip c__law_amount N
    have c__law_object : Cal P w K mg base (N + 3) "_law_object" (spK (C_object N)) := ⟨f, fd, _, ih, mf, kf, bf⟩
    refine fn_okK F sc__law_object (fun k es R ⟨t, dp, g, n, h, _⟩ => by subst h; rfl) fun cdv A outer s H E hr => ⟨_, (pss_cons (ps_asg (pv 1) (pg_tup rfl (pgs_cons (pg_name (i := 3) sc__law_object.nd rfl (by first | exact Or.inl rfl | exact Or.inr rfl)) (pgs_cons (pg_name (i := 4) sc__law_object.nd rfl (by first | exact Or.inl rfl | exact Or.inr rfl)) pgs_nil))))
      (pss_cons (ps_if (pt_cmpR op_eq (pv 3) pe_str (nomark _)) (pss_one (ps_ret (pe_c c__law_amount hr (by first | decide | omega) rfl (pa_cons (pv 0) (pa_cons pe_int pa_nil))))) pss_nil)
      (pss_cons (ps_if (pt_cmpR op_eq (pv 3) pe_str (nomark _)) (pss_one (ps_ret (pe_ifExp (pt_cmpR op_gt (pe_c c__law_drip hr (by first | decide | omega) rfl (pa_cons (pv 0) (pa_cons pe_int pa_nil))) pe_int (nomark _)) (pe_tup (pa_cons (pe_c c__law_object hr (by first | decide | omega) rfl (pa_cons (pv 0) (pa_cons (pe_ix ix_tup (pe_ix ix_list (pv 4) pe_int (fun _ _ => rfl)) pe_int (fun _ _ => rfl)) (pa_cons (pv 2) pa_nil)))) pa_nil)) (pe_tup pa_nil)))) pss_nil)
      (pss_cons (ps_if (pt_cmpR op_eq (pv 3) pe_str (nomark _)) (pss_cons (ps_set (i := 5) sc__law_object.nd rfl (by first | exact Or.inl rfl | exact Or.inr rfl) (pe_c c__law_drip hr (by first | decide | omega) rfl (pa_cons (pv 0) (pa_cons (pe_ix ix_list (pe_lst (pa_cons pe_int (pa_cons pe_int (pa_cons pe_int (pa_cons pe_int pa_nil))))) (pe_callB (call_min2 rfl) rfl T.z_min (by decide +kernel) (pa_cons (pv 2) (pa_cons pe_int pa_nil))) (fun _ _ => rfl)) pa_nil))))
      (pss_one (ps_ret (pe_lc (own := [("turn", 6)]) (g := (gName 6)) (tt := tYes) rfl sc__law_object.nd (pi_range1 rfl T.z_range (pa_cons (pv 5) pa_nil)) (blkOk_by (own := [("turn", 6)]) (N := ["flask", "tree", "deep", "sign", "fields", "size", "turn", "found", "word", "below"]) (sc := defScope s__law_object) (by decide +kernel)) (fun _ _ _ _ _ => (pg_name (i := 6) sc__law_object.nd rfl (Or.inl rfl))) (fun _ _ _ _ _ => pts_nil) (fun _ _ _ _ _ => (pe_c c__law_object hr (by first | decide | omega) rfl (pa_cons (pv 0) (pa_cons (pe_ix (show IxR _ (rIxT K) from ix_tup) (pe_ix (show IxR _ (rIxL K) from ix_list) (pv 4) pe_int (fun _ _ => rfl)) pe_int (fun _ _ => rfl)) (pa_cons (pe_op op_add (pv 2) pe_int) pa_nil))))))))) pss_nil)
      (pss_cons (ps_set (i := 7) sc__law_object.nd rfl (by first | exact Or.inl rfl | exact Or.inr rfl) pe_dnewK)
      (pss_cons (ps_for PassesOwn.never rfl (pi_list (pe_ix ix_list (pe_lst (pa_cons (pv 4) (pa_cons (pe_revL (pv 4)) pa_nil))) (pe_c c__law_drip hr (by first | decide | omega) rfl (pa_cons (pv 0) (pa_cons pe_int pa_nil))) (fun _ _ => rfl))) (pg_tup rfl (pgs_cons (pg_name (i := 8) sc__law_object.nd rfl (by first | exact Or.inl rfl | exact Or.inr rfl)) (pgs_cons (pg_name (i := 9) sc__law_object.nd rfl (by first | exact Or.inl rfl | exact Or.inr rfl)) pgs_nil))) (pss_one (ps_dput (hu_of hr) (pv 7) (pv 8) (pe_c c__law_object hr (by first | decide | omega) rfl (pa_cons (pv 0) (pa_cons (pv 9) (pa_cons (pv 2) pa_nil)))) rfl)))
      (pss_one (ps_ret (pv 7))))))))), ?_⟩
    rintro a b k es R ⟨t, dp, g, n, rfl, hf, hn, hg, hN, rfl⟩
    have et : on (N + 1) = 6 + 3 * on N := rfl
    cases hg with
    | v =>
      show SK a b _ [.sh (.ref a), .sh (.tup [.str sV, .lst []]), .sh (.int dp), .un, .un, .un, .un, .un, .un, .un] k _
      refine qk_asgT2 (ep_var rfl) ?_
      show SK a b _ [.sh (.ref a), .sh (.tup [.str sV, .lst []]), .sh (.int dp), .sh (.str sV), .sh (.lst []), .un, .un, .un, .un, .un] k _
      refine sk_guard (v := decide (sV = sV)) (et_test (by walk_at "ep")) (fun _ => ?_) fun z => absurd z (by decide)
      exact sk_ret (ek_call rfl (ea_cons ep_int ea_nil) ⟨9, n, rfl, hf, by omega, by decide, by decide, rfl⟩) fun d k' ⟨v, e, v0, v1, h⟩ => by
        subst e
        have eb : big ≤ bg := by decide
        exact ⟨.v rfl (by omega) (by omega), h.mono (by omega)⟩
    | @o g' s ww t' hs hg' =>
      have hd : dpT t' < N := by
        have : dpT (.mk s (.cons ww t' .nil)) = max (dpT t') 0 + 1 := by rw [dpT, dpF, dpF]
        rw [this] at hN; omega
      show SK a b _ [.sh (.ref a), .sh (.tup [.str s, .lst [.tup [.str ww, tD t']]]), .sh (.int dp), .un, .un, .un, .un, .un, .un, .un] k _
      refine qk_asgT2 (ep_var rfl) ?_
      show SK a b _ [.sh (.ref a), .sh (.tup [.str s, .lst [.tup [.str ww, tD t']]]), .sh (.int dp), .sh (.str s), .sh (.lst [.tup [.str ww, tD t']]), .un, .un, .un, .un, .un] k _
      have hv : decide (s = sV) = false := by rcases hs with rfl | rfl <;> decide
      refine sk_guard (v := decide (s = sV)) (et_test (by walk_at "ep")) (fun z => by rw [hv] at z; cases z) fun _ => ?_
      have eb : ∀ {Γ : List En}, Γ[4]? = some (.sh (.lst [.tup [.str ww, tD t']])) → EvP (tOp (rIxT K) (tOp (rIxL K) (tVar 4) (tC (.int 0))) (tC (.int 1))) Γ (tD t') := fun h => ep_op (ep_op (ep_var h) ep_int (rd_ixL (atI_nat (j := 0) rfl))) ep_int (rd_ixT (atI_nat (j := 1) rfl))
      refine sk_guard (v := decide (s = sM)) (et_test (by walk_at "ep")) (fun z => ?_) fun z => ?_
      · have es : s = sM := of_decide_eq_true z
        refine sk_ret (R := fun d k' => Ob (.mk s (.cons ww t' .nil)) d ∧ Fo k' (n + on (N + 1))) (ek_if (Rt := fun v k' => Fo k' (n + 1)) (etk_test (R1 := fun d k' => (∃ v, d = .bl v) ∧ Fo k' (n + 1)) (ek_opL (R1 := fun x k' => (∃ r, x = .int r) ∧ Fo k' (n + 1)) (ek_drip rfl (ea_cons ep_int ea_nil) hf (by omega) (by decide) (by decide) fun r k' _ _ h => ⟨⟨r, rfl⟩, h⟩) fun x k' ⟨⟨r, e⟩, h⟩ => by subst e; exact ⟨_, _, ep_int, rd_I0b, ⟨_, rfl⟩, h⟩) fun d k' ⟨⟨v, e⟩, h⟩ => ⟨v, e, h⟩) ?_ ?_) fun d k' h => h
        · intro k1 h1
          refine ek_tup (R' := fun ds k' => ∃ x, ds = [x] ∧ Ob t' x ∧ Fo k' (n + 1 + on N)) (eak_cons (ek_call rfl (ea_cons (eb rfl) (ea_cons (ep_var rfl) ea_nil)) ⟨t', dp, g', n + 1, rfl, h1, by omega, hg', hd, rfl⟩) fun x k' ⟨ox, h⟩ => eak_nil ⟨x, rfl, ox, h⟩) fun ds k' ⟨x, e, ox, h⟩ => ⟨by rw [e]; show 1 ≤ sizeLine; decide, by rw [e]; exact .m1 es ox, h.mono (by omega)⟩
        · intro k1 h1
          exact ek_p (ep_tup ea_nil (by decide)) ⟨.m0 es, h1.mono (by omega)⟩
      · have es : s = sL := by
          rcases hs with rfl | rfl
          · exact absurd z (by decide)
          · rfl
        have ez : ∃ q : Int, (q = 3 ∨ q = 2) ∧ EvP (tOp (rIxL K) (tLst (tCons (tC (.int 3)) (tCons (tC (.int 3)) (tCons (tC (.int 2)) (tCons (tC (.int 2)) tNil))))) (tCB (fun vs H Q => ∃ i j, vs = [V.int i, V.int j] ∧ Q (.int (if j < i then j else i)) H) (tCons (tVar 2) (tCons (tC (.int 3)) tNil)))) [.sh (.ref a), .sh (.tup [.str s, .lst [.tup [.str ww, tD t']]]), .sh (.int dp), .sh (.str s), .sh (.lst [.tup [.str ww, tD t']]), .un, .un, .un, .un, .un] (.int q) := by
          have e1 : EvP (tCB (fun vs H Q => ∃ i j, vs = [V.int i, V.int j] ∧ Q (.int (if j < i then j else i)) H) (tCons (tVar 2) (tCons (tC (.int 3)) tNil))) [.sh (.ref a), .sh (.tup [.str s, .lst [.tup [.str ww, tD t']]]), .sh (.int dp), .sh (.str s), .sh (.lst [.tup [.str ww, tD t']]), .un, .un, .un, .un, .un] (.int (if (3 : Int) < dp then 3 else dp)) := ep_cb (ea_cons (ep_var rfl) (ea_cons ep_int ea_nil)) (rc_int2 (f := fun i j => if j < i then j else i))
          have e2 : EvP (tLst (tCons (tC (.int 3)) (tCons (tC (.int 3)) (tCons (tC (.int 2)) (tCons (tC (.int 2)) tNil))))) [.sh (.ref a), .sh (.tup [.str s, .lst [.tup [.str ww, tD t']]]), .sh (.int dp), .sh (.str s), .sh (.lst [.tup [.str ww, tD t']]), .un, .un, .un, .un, .un] (.lst [.int 3, .int 3, .int 2, .int 2]) := EvF.p (ef_lst (ea_cons ep_int (ea_cons ep_int (ea_cons ep_int (ea_cons ep_int ea_nil)))) (by show 4 ≤ sizeLine; decide))
          have hm : (if (3 : Int) < dp then 3 else (dp : Int)) = 0 ∨ (if (3 : Int) < dp then 3 else (dp : Int)) = 1 ∨ (if (3 : Int) < dp then 3 else (dp : Int)) = 2 ∨ (if (3 : Int) < dp then 3 else (dp : Int)) = 3 := by split <;> omega
          rcases hm with h | h | h | h <;> rw [h] at e1
          · exact ⟨3, .inl rfl, ep_op e2 e1 (rd_ixL rfl)⟩
          · exact ⟨3, .inl rfl, ep_op e2 e1 (rd_ixL rfl)⟩
          · exact ⟨2, .inr rfl, ep_op e2 e1 (rd_ixL rfl)⟩
          · exact ⟨2, .inr rfl, ep_op e2 e1 (rd_ixL rfl)⟩
        obtain ⟨q, hq, ez⟩ := ez
        refine sk_guard (v := decide (s = sL)) (et_test (by walk_at "ep")) (fun _ => ?_) fun z => by rw [es] at z; exact absurd z (by decide)
        refine qk_asg (R := fun d k' => ∃ m : Nat, d = .int m ∧ m ≤ 2 ∧ Fo k' (n + 1)) (ek_drip (m := q) rfl (ea_cons ez ea_nil) hf (by omega) (by omega) (by omega) fun r k' r0 r1 h => ⟨r.toNat, by congr 1; omega, by omega, h⟩) ?_
        rintro _ k1 ⟨m, rfl, hm, h1⟩
        show SK a b _ [.sh (.ref a), .sh (.tup [.str s, .lst [.tup [.str ww, tD t']]]), .sh (.int dp), .sh (.str s), .sh (.lst [.tup [.str ww, tD t']]), .sh (.int m), .un, .un, .un, .un] k1 _
        refine sk_ret (R := fun d k' => Ob (.mk s (.cons ww t' .nil)) d ∧ Fo k' (n + on (N + 1))) (ek_ofF (efk_lc (List.range m) (fun i => D.int (0 + (i : Nat))) (fun i acc ki => acc.length = i ∧ i ≤ m ∧ (∀ x ∈ acc, Ob t' x) ∧ Fo ki (n + 1 + i * on N)) rfl (wi_rng1 (n := (m : Int)) (ea_cons (ep_var rfl) ea_nil) (by omega) (by omega)) (fun i acc ki h => by rw [h.1, sizeLine_eq]; omega) ⟨rfl, Nat.zero_le _, (fun x hx => nomatch hx), by rw [Nat.zero_mul]; exact h1⟩ ?_) ?_) fun d k' h => h
        · rintro i x acc ki hx ⟨hl, _, ho, hk⟩
          have hi : i < m := by
            have := (List.getElem?_eq_some_iff.mp hx).1
            rwa [List.length_range] at this
          have hb : i * on N ≤ 1 * on N := Nat.mul_le_mul_right _ (by omega)
          refine ⟨_, gv_name (by decide), sv1, rfl, ?_⟩
          show EvKF a b _ [.sh (.ref a), .sh (.tup [.str s, .lst [.tup [.str ww, tD t']]]), .sh (.int dp), .sh (.str s), .sh (.lst [.tup [.str ww, tD t']]), .sh (.int m), .sh (.int (0 + (x : Nat))), .un, .un, .un] _ _
          have h2 : EvKF a b (tCall (spK (C_object N)) [] E0 (tCons (tVar 0) (tCons (tOp (rIxT K) (tOp (rIxL K) (tVar 4) (tC (.int 0))) (tC (.int 1))) (tCons (tOp (rI0 fun i j => V.int (i + j)) (tVar 2) (tC (.int 1))) tNil)))) [.sh (.ref a), .sh (.tup [.str s, .lst [.tup [.str ww, tD t']]]), .sh (.int dp), .sh (.str s), .sh (.lst [.tup [.str ww, tD t']]), .sh (.int m), .sh (.int (0 + (x : Nat))), .un, .un, .un] ki fun d k' => Ob t' d ∧ Fo k' (n + 1 + i * on N + on N) := ekf_call rfl (ea_cons (eb rfl) (ea_cons (ep_op (ep_var rfl) ep_int rd_I0i) ea_nil)) ⟨t', dp + 1, g', _, by congr 1, hk, by omega, hg', hd, rfl⟩
          refine h2.imp fun d k' ⟨od, h⟩ => ⟨by rw [List.length_append, hl]; rfl, hi, fun y hy => ?_, by rw [Nat.add_mul, Nat.one_mul, ← Nat.add_assoc]; exact h⟩
          rcases List.mem_append.mp hy with hy | hy
          · exact ho y hy
          · rcases List.mem_singleton.mp hy with rfl
            exact od
        · rintro ds k' ⟨hl, _, ho, h⟩
          rw [List.length_range] at hl h
          have hb : m * on N ≤ 2 * on N := Nat.mul_le_mul_right _ hm
          exact ⟨.l es (by omega) ho, h.mono (by omega)⟩
    | @r _ fs hp nd hl3 =>
      show SK a b _ [.sh (.ref a), .sh (.tup [.str sR, .lst (fD fs)]), .sh (.int dp), .un, .un, .un, .un, .un, .un, .un] k _
      refine qk_asgT2 (ep_var rfl) ?_
      show SK a b _ [.sh (.ref a), .sh (.tup [.str sR, .lst (fD fs)]), .sh (.int dp), .sh (.str sR), .sh (.lst (fD fs)), .un, .un, .un, .un, .un] k _
      refine sk_guard (v := decide (sR = sV)) (et_test (by walk_at "ep")) (fun z => absurd z (by decide)) fun _ => ?_
      refine sk_guard (v := decide (sR = sM)) (et_test (by walk_at "ep")) (fun z => absurd z (by decide)) fun _ => ?_
      refine sk_guard (v := decide (sR = sL)) (et_test (by walk_at "ep")) (fun z => absurd z (by decide)) fun _ => ?_
      have hd : ∀ p ∈ fs.li, dpT p.2 < N := fun p h => by
        have e : dpT (.mk sR fs) = dpF fs + 1 := by rw [dpT]
        have := dp_li h
        omega
      refine sk_dfill (iw := 8) (ib := 9) rfl rfl rfl (by decide) (by decide)
        (fun (xs : List (Str × D)) (i : Nat) (acc : List (Str × D)) (ki : Fk) => ∃ l : List (Str × Ty), xs = l.map (fun p => (p.1, tD p.2)) ∧ l.Perm fs.li ∧ acc.length = i ∧ i ≤ l.length ∧ (∀ (j : Nat) (q : Str × D) (p : Str × Ty), acc[j]? = some q → l[j]? = some p → q.1 = p.1 ∧ Ob p.2 q.2) ∧ Fo ki (n + 1 + i * on N))
        (wik_list (R1 := fun d k' => (d = .lst (fD fs) ∨ d = .lst (fD fs).reverse) ∧ Fo k' (n + 1)) (ek_opP (x := .lst [.lst (fD fs), .lst (fD fs).reverse]) (EvF.p (ef_lst (ea_cons (ep_var rfl) (ea_cons (EvF.p (ef_rev (ep_var rfl))) ea_nil)) (by show 2 ≤ sizeLine; decide))) (ek_drip rfl (ea_cons ep_int ea_nil) hf (by omega) (by decide) (by decide) fun r k' r0 r1 h => ?_)) ?_) ?_ (by decide) ?_
      · have hr : r = 0 ∨ r = 1 := by omega
        rcases hr with rfl | rfl
        · exact ⟨_, rd_ixL rfl, .inl rfl, h⟩
        · exact ⟨_, rd_ixL rfl, .inr rfl, h⟩
      · rintro d k1 ⟨hd' | hd', h1⟩
        · exact ⟨_, hd', _, by rw [fD_li, List.map_map]; rfl, fs.li, rfl, .refl _, rfl, Nat.zero_le _, (fun j q p e => by simp at e), by rw [Nat.zero_mul]; exact h1⟩
        · exact ⟨_, hd', fs.li.reverse.map (fun p => (p.1, tD p.2)), by rw [fD_li, List.map_map, ← List.map_reverse]; rfl, fs.li.reverse, rfl, List.reverse_perm _, rfl, Nat.zero_le _, (fun j q p e => by simp at e), by rw [Nat.zero_mul]; exact h1⟩
      · rintro xs i wo d acc ki hx ⟨l, rfl, pm, hl, hi, ho, hk⟩
        rw [List.getElem?_map] at hx
        obtain ⟨p, hpi, e⟩ := Option.map_eq_some_iff.mp hx
        cases e
        have hil : i < l.length := (List.getElem?_eq_some_iff.mp hpi).1
        have pl : l.length = fs.li.length := pm.length_eq
        have ndl : (l.map (·.1)).Nodup := (pm.map _).nodup_iff.mpr nd
        have hb : i * on N ≤ 2 * on N := Nat.mul_le_mul_right _ (by omega)
        have pmem : p ∈ fs.li := pm.mem_iff.mp (List.mem_of_getElem? hpi)
        refine ⟨by rw [hl, sizeLine_eq]; omega, fun q hq e => ?_, ?_⟩
        · obtain ⟨j, hj, ej⟩ := List.getElem_of_mem hq
          have hjl : j < l.length := by omega
          obtain ⟨e1, _⟩ := ho j q l[j] (by rw [List.getElem?_eq_getElem hj, ej]) (List.getElem?_eq_getElem hjl)
          have e2 : (l.map (·.1))[j]? = (l.map (·.1))[i]? := by rw [List.getElem?_map, List.getElem?_map, List.getElem?_eq_getElem hjl, hpi, Option.map_some, Option.map_some, ← e1, e]
          have := (List.getElem?_inj (by rw [List.length_map]; exact hjl) ndl).mp e2
          omega
        · refine EvK.imp (ek_call rfl (ea_cons (ep_var rfl) (ea_cons (ep_var rfl) ea_nil)) ⟨p.2, dp, g, _, rfl, hk, by omega, hp p pmem, hd p pmem, rfl⟩) fun e k' ⟨oe, h⟩ => ⟨l, rfl, pm, by rw [List.length_append, hl]; rfl, hil, fun j q p' e1 e2 => ?_, by rw [Nat.add_mul, Nat.one_mul, ← Nat.add_assoc]; exact h⟩
          by_cases z : j < acc.length
          · rw [List.getElem?_append_left z] at e1
            exact ho j q p' e1 e2
          · rw [List.getElem?_append_right (by omega)] at e1
            have hj0 : j - acc.length = 0 := by
              have := (List.getElem?_eq_some_iff.mp e1).1
              rw [List.length_singleton] at this; omega
            rw [hj0] at e1
            cases e1
            have : j = i := by omega
            subst this
            rw [hpi] at e2; cases e2
            exact ⟨rfl, oe⟩
      · rintro xs acc k1 ⟨l, rfl, pm, hl, hi, ho, hk⟩
        rw [List.length_map] at hl hk
        have pl : l.length = fs.li.length := pm.length_eq
        have ndl : (l.map (·.1)).Nodup := (pm.map _).nodup_iff.mpr nd
        have hb : l.length * on N ≤ 3 * on N := Nat.mul_le_mul_right _ (by omega)
        have ek : acc.map (·.1) = l.map (·.1) := by
          apply List.ext_getElem?
          intro j
          rw [List.getElem?_map, List.getElem?_map]
          by_cases z : j < l.length
          · have z' : j < acc.length := by omega
            rw [List.getElem?_eq_getElem z, List.getElem?_eq_getElem z']
            exact congrArg some (ho j _ _ (List.getElem?_eq_getElem z') (List.getElem?_eq_getElem z)).1
          · rw [List.getElem?_eq_none (by omega), List.getElem?_eq_none (by omega)]
            rfl
        have key : ∀ p ∈ fs.li, ∃ x, acc.lookup p.1 = some x ∧ Ob p.2 x := fun p h => by
          obtain ⟨j, hj, ej⟩ := List.getElem_of_mem (pm.mem_iff.mpr h)
          have hja : j < acc.length := by omega
          obtain ⟨e1, e2⟩ := ho j acc[j] p (List.getElem?_eq_getElem hja) (by rw [List.getElem?_eq_getElem hj, ej])
          refine ⟨acc[j].2, lookup_nd (by rw [ek]; exact ndl) ?_, e2⟩
          rw [← e1]
          exact List.getElem_mem hja
        refine sk_ret (R := fun d k' => d = .dct acc ∧ k' = k1) (ek_p (ep_var rfl) ⟨rfl, rfl⟩) ?_
        rintro d k' ⟨rfl, rfl⟩
        exact ⟨.r rfl (fun p h => by obtain ⟨x, e, _⟩ := key p h; rw [e]; rfl) fun p h => by obtain ⟨x, e, o⟩ := key p h; rw [e]; exact o, hk.mono (by omega)⟩
theorem ok_docs {N : Nat} (T : Kx mg) (F : FnP K "_law_docs" s__law_docs f fd) (c__law_object : Cal P w K mg base (N + 3) "_law_object" (spK (C_object N))) : FnOk P w K mg base CX0 (N + 4) f fd ["flask", "tree", "many"] (spK (C_docs N)) := by
  refine fn_okK F sc__law_docs (fun k es R ⟨t, m, g, n, h, _⟩ => by subst h; rfl) fun cdv A outer s H E hr => ⟨_, (pss_one (ps_ret (pe_lc (own := [("turn", 3)]) (g := (gName 3)) (tt := tYes) rfl sc__law_docs.nd (pi_range1 rfl T.z_range (pa_cons (pv 2) pa_nil)) (blkOk_by (own := [("turn", 3)]) (N := ["flask", "tree", "many", "turn"]) (sc := defScope s__law_docs) (by decide +kernel)) (fun _ _ _ _ _ => (pg_name (i := 3) sc__law_docs.nd rfl (Or.inl rfl))) (fun _ _ _ _ _ => pts_nil) (fun _ _ _ _ _ => (pe_c c__law_object hr (by first | decide | omega) rfl (pa_cons (pv 0) (pa_cons (pv 1) (pa_cons pe_int pa_nil)))))))), ?_⟩
  rintro a b k es R ⟨t, m, g, n, rfl, hf, hn, hm, hg, hd, rfl⟩
  show SK a b _ [.sh (.ref a), .sh (tD t), .sh (.int m), .un] k _
  refine sk_ret (ek_ofF (efk_lc (List.range m) (fun i => D.int (0 + (i : Nat))) (fun i acc ki => acc.length = i ∧ i ≤ m ∧ (∀ x ∈ acc, Ob t x) ∧ Fo ki (n + i * on N)) rfl (wi_rng1 (n := (m : Int)) (ea_cons (ep_var rfl) ea_nil) (by omega) (by omega)) (fun i acc ki h => by rw [h.1, sizeLine_eq]; omega) ⟨rfl, Nat.zero_le _, (fun x hx => nomatch hx), by rw [Nat.zero_mul]; exact hf⟩ ?_) (R := fun d k' => ∃ ds, d = .lst ds ∧ ds.length ≤ 3 ∧ (∀ x ∈ ds, Ob t x) ∧ Fo k' (n + 3 * on N)) ?_) fun d k' h => h
  · rintro i x acc ki hx ⟨hl, _, ho, hk⟩
    have hi : i < m := by
      have := (List.getElem?_eq_some_iff.mp hx).1
      rwa [List.length_range] at this
    have hb : i * on N ≤ 2 * on N := Nat.mul_le_mul_right _ (by omega)
    refine ⟨_, gv_name (by decide), sv1, rfl, ?_⟩
    have h2 : EvKF a b (tCall (spK (C_object N)) [] E0 (tCons (tVar 0) (tCons (tVar 1) (tCons (tC (.int 0)) tNil)))) [.sh (.ref a), .sh (tD t), .sh (.int m), .sh (.int (0 + (x : Nat)))] ki fun d k' => Ob t d ∧ Fo k' (n + i * on N + on N) := ekf_call rfl (ea_cons (ep_var rfl) (ea_cons ep_int ea_nil)) ⟨t, 0, g, _, rfl, hk, by omega, hg, hd, rfl⟩
    refine h2.imp fun d k' ⟨od, h⟩ => ⟨by rw [List.length_append, hl]; rfl, hi, fun y hy => ?_, by rw [Nat.add_mul, Nat.one_mul, ← Nat.add_assoc]; exact h⟩
    rcases List.mem_append.mp hy with hy | hy
    · exact ho y hy
    · rcases List.mem_singleton.mp hy with rfl
      exact od
  · rintro ds k' ⟨hl, _, ho, h⟩
    rw [List.length_range] at hl h
    have hb : m * on N ≤ 3 * on N := Nat.mul_le_mul_right _ hm
    exact ⟨ds, rfl, by omega, ho, h.mono (by omega)⟩
end
end Lz
set_option Elab.async false
set_option linter.all false
set_option maxRecDepth 100000
set_option maxHeartbeats 4000000
/-! C12: k81: the columns of drawn objects, _law_streams, _law_sheets. -/
namespace Lz
open PySem PySem.Spec PyProof.Rows L2 DL XS
local macro_rules | `(tactic| walk_at "sd") => `(tactic| first
  | assumption
  | exact .inl ⟨by decide, by decide⟩ | exact ⟨by decide, by decide, by decide⟩ | exact ⟨by decide, by decide⟩
  | (show (0 : Int) < _; first | decide | omega) | exact ⟨by omega, by omega⟩ | exact .inl ⟨by omega, by omega⟩ | exact .inr ⟨by omega, by omega⟩ | exact .inr ⟨by decide, by decide⟩ | omega)
local macro_rules | `(tactic| walk_at "ep") => `(tactic| first
  | exact ep_int | exact ep_str | exact ep_bl | exact ep_non | exact ep_ref | exact ep_ty
  | exact ep_var rfl
  | (refine' ep_ixM (.inr rfl) ?ka ?kr; (case ka => walk_at "ep"); (case kr => exact rfl))
  | (refine' ep_ixM (.inl rfl) ?ka ?kr; (case ka => walk_at "ep"); (case kr => exact rfl))
  | (refine' ep_op ?ka ?kb rd_I0i; (case ka => walk_at "ep"); (case kb => walk_at "ep"))
  | (refine' ep_op ?ka ?kb rd_I0b; (case ka => walk_at "ep"); (case kb => walk_at "ep"))
  | (refine' ep_op ?ka ?kb (rd_Ii ?sd); (case ka => walk_at "ep"); (case kb => walk_at "ep"); (case sd => walk_at "sd"))
  | (refine' ep_op ?ka ?kb rd_eqI; (case ka => walk_at "ep"); (case kb => walk_at "ep"))
  | (refine' ep_op ?ka ?kb rd_eqS; (case ka => walk_at "ep"); (case kb => walk_at "ep"))
  | (refine' ep_op ?ka ?kb rd_neI; (case ka => walk_at "ep"); (case kb => walk_at "ep"))
  | (refine' ep_op ?ka ?kb rd_neS; (case ka => walk_at "ep"); (case kb => walk_at "ep")))
local macro_rules | `(tactic| walk_at "et") => `(tactic| first
  | (refine' et_test ?ka; (case ka => walk_at "ep"))
  | (refine' et_not ?ka; (case ka => walk_at "et"))
  | (refine' et_and ?ka fun _ => ?kb; (case ka => walk_at "et"); (case kb => walk_at "et"))
  | (refine' et_or ?ka fun _ => ?kb; (case ka => walk_at "et"); (case kb => walk_at "et")))
theorem sc__law_streams : FnScope ["tree", "thing_here", "first", "lists", "opens", "sign", "fields", "found", "word", "below", "more", "turn", "one", "further", "ahead", "behind"] ["tree", "thing_here", "first", "lists", "opens"] (defScope s__law_streams) := ⟨rfl, rfl, rfl, by decide +kernel, rfl, by decide +kernel, by decide +kernel⟩
theorem sc__law_sheets : FnScope ["tree", "docs", "found", "turn", "one", "more", "ahead", "behind"] ["tree", "docs"] (defScope s__law_sheets) := ⟨rfl, rfl, rfl, by decide +kernel, rfl, by decide +kernel, by decide +kernel⟩
/-- columns of at most B entries each -/
def okC (B : Nat) (cols : List (List Ey)) : Prop := ∀ c ∈ cols, c.length ≤ B ∧ ∀ e ∈ c, okE e
abbrev csD (cols : List (List Ey)) : List D := cols.map cD
theorem okC.mono {A B : Nat} {cols : List (List Ey)} (h : okC A cols) (l : A ≤ B) : okC B cols := fun c hc => ⟨Nat.le_trans (h c hc).1 l, (h c hc).2⟩
theorem okC.append {B : Nat} {c1 c2 : List (List Ey)} (h1 : okC B c1) (h2 : okC B c2) : okC B (c1 ++ c2) := fun c hc => (List.mem_append.mp hc).elim (h1 c) (h2 c)
theorem okC.zip {A B : Nat} : ∀ {c1 c2 : List (List Ey)}, okC A c1 → okC B c2 → okC (A + B) (List.zipWith (· ++ ·) c1 c2)
  | [], _, _, _ => fun c hc => by rw [List.zipWith_nil_left] at hc; cases hc
  | _ :: _, [], _, _ => fun c hc => by rw [List.zipWith_nil_right] at hc; cases hc
  | x :: c1, y :: c2, h1, h2 => fun c hc => by
    rw [List.zipWith_cons_cons] at hc
    rcases List.mem_cons.mp hc with rfl | hc
    · obtain ⟨l1, e1⟩ := h1 x List.mem_cons_self
      obtain ⟨l2, e2⟩ := h2 y List.mem_cons_self
      exact ⟨by rw [List.length_append]; omega, fun e he => (List.mem_append.mp he).elim (e1 e) (e2 e)⟩
    · exact okC.zip (fun c hc => h1 c (List.mem_cons_of_mem _ hc)) (fun c hc => h2 c (List.mem_cons_of_mem _ hc)) c hc
theorem zpD_cs : ∀ {c1 c2 : List (List Ey)}, zpD (csD c1) (csD c2) = (c1.zip c2).map fun p => .tup [cD p.1, cD p.2]
  | [], _ => by rw [List.zip_nil_left]; rfl
  | _ :: _, [] => by rw [List.zip_nil_right]; rfl
  | x :: c1, y :: c2 => by
    rw [List.zip_cons_cons, List.map_cons, ← zpD_cs]
    rfl
theorem zip_cs : ∀ {c1 c2 : List (List Ey)}, (c1.zip c2).map (fun p => cD (p.1 ++ p.2)) = csD (List.zipWith (· ++ ·) c1 c2)
  | [], _ => by rw [List.zip_nil_left]; rfl
  | _ :: _, [] => by rw [List.zip_nil_right, List.zipWith_nil_right]; rfl
  | x :: c1, y :: c2 => by
    rw [List.zip_cons_cons, List.map_cons, zip_cs]
    rfl
def C_streams (N : Nat) : Cn := fun Γ R => ∃ (t : Ty) (x : D) (fi li op g : Nat), Γ = [.sh (tD t), .sh x, .sh (.int fi), .sh (.int li), .sh (.int op)] ∧ Gd g t ∧ Ob t x ∧ dpT t < N ∧ mnT t ≤ 1000 ∧ fi < 50 ∧ li + g < 50 ∧ op + g < 50 ∧ g ≤ 6 ∧
  R = fun d Γ' => ∃ cols, d = .lst (csD cols) ∧ cols.length = mnT t ∧ okC (2 ^ g) cols
def C_sheets : Cn := fun Γ R => ∃ (t : Ty) (ds : List D), Γ = [.sh (tD t), .sh (.lst ds)] ∧ Gd 3 t ∧ (∀ x ∈ ds, Ob t x) ∧ dpT t < 9 ∧ mnT t ≤ 1000 ∧ ds.length ≤ 3 ∧
  R = fun d Γ' => ∃ cols, d = .lst (csD cols) ∧ cols.length = mnT t ∧ okC 24 cols
section
variable {P : Program} {w : World} {K : PySem.W.Frag} {mg : Str → Option Value} {base : Heap} {f : Addr} {fd : FuncData}
/-- [a + b for a, b in zip(x, y)] -/
theorem ef_zipcat {Γ : List En} {c1 c2 : List (List Ey)} {i j : Nat} {ta : TA} {te : TE} (ha : EaP ta Γ [.lst (csD c1), .lst (csD c2)]) (hl : c1.length ≤ 1000) (hB : okC 1000 c1) (hB2 : okC 1000 c2)
    (he : ∀ p ∈ c1.zip c2, EvF te (((wipG Γ [i, j]).set i (.sh (cD p.1))).set j (.sh (cD p.2))) ((p.1 ++ p.2).map eD)) :
    EvP (tLc (iZip K ta) (gTup K 2 (gCons (gName i) (gCons (gName j) gNil))) tYes te [i, j]) Γ (.lst (csD (List.zipWith (· ++ ·) c1 c2))) := by
  rw [← zip_cs]
  refine EvF.p (ef_map (c1.zip c2) (fun p => .tup [cD p.1, cD p.2]) (fun p => cD (p.1 ++ p.2)) (by rw [← zpD_cs]; exact wi_zip ha) ?_ fun p hp => ⟨_, gv_tup2 (by simp) (by simp), (he p hp).p⟩)
  rw [List.length_zip, sizeLine_eq]
  have := Nat.min_le_left c1.length c2.length
  omega
theorem rdf_catC {x y : List Ey} (h1 : x.length ≤ 1000) (h2 : y.length ≤ 1000) : RDF rCat (cD x) (cD y) ((x ++ y).map eD) := by
  rw [List.map_append]
  exact rdf_cat (by rw [List.length_map, List.length_map, sizeLine_eq]; omega)
theorem zip_mem {α : Type} {x y : α} : ∀ {c1 c2 : List α}, (x, y) ∈ c1.zip c2 → x ∈ c1 ∧ y ∈ c2 := fun h => List.of_mem_zip h
theorem ok_streams (T : Kx mg) (F : FnP K "_law_streams" s__law_streams f fd) (kf : PySem.W.keepIn K (.ref f) = true) (mf : mg "_law_streams" = some (.ref f)) (bf : Binds K fd ["tree", "thing_here", "first", "lists", "opens"] []) (c__law_many : Cal P w K mg base 10 "_law_many" (spE (C_many 9))) :
    ∀ N : Nat, N ≤ 9 → FnOk P w K mg base CX0 (N + 11) f fd ["tree", "thing_here", "first", "lists", "opens"] (spE (C_streams N))
  | 0, _ => fn_none fun Γ R ⟨_, _, _, _, _, _, _, _, _, h, _⟩ => absurd h (Nat.not_lt_zero _)
  | N + 1, hN9 => by
    have ih := ok_streams T F kf mf bf c__law_many N (by omega)
    have c__law_streams : Cal P w K mg base (N + 11) "_law_streams" (spE (C_streams N)) := ⟨f, fd, _, ih, mf, kf, bf⟩
    refine fn_ok F sc__law_streams (fun Γ R ⟨t, x, fi, li, op, g, h, _⟩ => by subst h; rfl) fun cdv A outer s H E hr => ⟨_, (pss_cons (ps_asg (pv 0) (pg_tup rfl (pgs_cons (pg_name (i := 5) sc__law_streams.nd rfl (by first | exact Or.inl rfl | exact Or.inr rfl)) (pgs_cons (pg_name (i := 6) sc__law_streams.nd rfl (by first | exact Or.inl rfl | exact Or.inr rfl)) pgs_nil))))
      (pss_cons (ps_if (pt_cmpR op_eq (pv 5) pe_str (nomark _)) (pss_one (ps_ret (pe_lst (pa_cons (pe_lst (pa_cons (pe_tup (pa_cons (pv 2) (pa_cons (pv 4) (pa_cons (pv 1) pa_nil)))) pa_nil)) pa_nil)))) pss_nil)
      (pss_cons (ps_if (pt_cmpR op_eq (pv 5) pe_str (nomark _)) (pss_cons (ps_set (i := 7) sc__law_streams.nd rfl (by first | exact Or.inl rfl | exact Or.inr rfl) (pe_lst pa_nil))
      (pss_cons (ps_for PassesOwn.never rfl (pi_list (pv 6)) (pg_tup rfl (pgs_cons (pg_name (i := 8) sc__law_streams.nd rfl (by first | exact Or.inl rfl | exact Or.inr rfl)) (pgs_cons (pg_name (i := 9) sc__law_streams.nd rfl (by first | exact Or.inl rfl | exact Or.inr rfl)) pgs_nil))) (pss_cons (ps_set (i := 10) sc__law_streams.nd rfl (by first | exact Or.inl rfl | exact Or.inr rfl) (pe_c c__law_streams hr (by first | decide | omega) rfl (pa_cons (pv 9) (pa_cons (pe_dget (hu_of hr) (pv 1) (pv 8) (fun _ _ => rfl)) (pa_cons (pv 2) (pa_cons (pv 3) (pa_cons (pv 4) pa_nil)))))))
      (pss_one (ps_set (i := 7) sc__law_streams.nd rfl (by first | exact Or.inl rfl | exact Or.inr rfl) (pe_op op_cat (pv 7) (pv 10))))))
      (pss_one (ps_ret (pv 7))))) pss_nil)
      (pss_cons (ps_if (pt_cmpR op_eq (pe_callB call_len_seq rfl T.z_len (by decide +kernel) (pa_cons (pv 1) pa_nil)) pe_int (nomark _)) (pss_one (ps_ret (pe_lc (own := [("turn", 11)]) (g := (gName 11)) (tt := tYes) rfl sc__law_streams.nd (pi_range1 rfl T.z_range (pa_cons (pe_c c__law_many hr (by first | decide | omega) rfl (pa_cons (pv 0) pa_nil)) pa_nil)) (blkOk_by (own := [("turn", 11)]) (N := ["tree", "thing_here", "first", "lists", "opens", "sign", "fields", "found", "word", "below", "more", "turn", "one", "further", "ahead", "behind"]) (sc := defScope s__law_streams) (by decide +kernel)) (fun _ _ _ _ _ => (pg_name (i := 11) sc__law_streams.nd rfl (Or.inl rfl))) (fun _ _ _ _ _ => pts_nil) (fun _ _ _ _ _ => (pe_lst (pa_cons (pe_tup (pa_cons (pv 2) (pa_cons (pv 4) (pa_cons pe_non pa_nil)))) pa_nil)))))) pss_nil)
      (pss_cons (ps_set (i := 10) sc__law_streams.nd rfl (by first | exact Or.inl rfl | exact Or.inr rfl) (pe_op op_add (pv 3) (pe_callTy call_int1 rfl T.z_int (by decide +kernel) (pa_cons (pe_cmpR op_eq (pv 5) pe_str (nomark _)) pa_nil))))
      (pss_cons (ps_set (i := 7) sc__law_streams.nd rfl (by first | exact Or.inl rfl | exact Or.inr rfl) (pe_c c__law_streams hr (by first | decide | omega) rfl (pa_cons (pe_ix ix_tup (pe_ix ix_list (pv 6) pe_int (fun _ _ => rfl)) pe_int (fun _ _ => rfl)) (pa_cons (pe_ix L2.ix_seq (pv 1) pe_int (fun _ _ => rfl)) (pa_cons (pv 2) (pa_cons (pv 10) (pa_cons (pe_op op_add (pv 4) pe_int) pa_nil)))))))
      (pss_cons (ps_either (ps_for PassesOwn.never rfl (pi_list (pe_slice sl_list (pv 1) (po_some pe_int) po_none)) (pg_name (i := 12) sc__law_streams.nd rfl (by first | exact Or.inl rfl | exact Or.inr rfl)) (pss_cons (ps_set (i := 13) sc__law_streams.nd rfl (by first | exact Or.inl rfl | exact Or.inr rfl) (pe_c c__law_streams hr (by first | decide | omega) rfl (pa_cons (pe_ix ix_tup (pe_ix ix_list (pv 6) pe_int (fun _ _ => rfl)) pe_int (fun _ _ => rfl)) (pa_cons (pv 12) (pa_cons (pv 10) (pa_cons (pv 10) (pa_cons (pe_op op_add (pv 4) pe_int) pa_nil)))))))
      (pss_one (ps_setLc (i := 7) (own := [("ahead", 14), ("behind", 15)]) (g := (gTup K 2 (gCons (gName 14) (gCons (gName 15) gNil)))) (tt := tYes) rfl sc__law_streams.nd rfl rfl (sw_true rfl rfl rfl (by decide +kernel)) (pi_zip rfl T.z_zip (pa_cons (pv 7) (pa_cons (pv 13) pa_nil))) (blkOk_by (own := [("ahead", 14), ("behind", 15)]) (N := ["tree", "thing_here", "first", "lists", "opens", "sign", "fields", "found", "word", "below", "more", "turn", "one", "further", "ahead", "behind"]) (sc := defScope s__law_streams) (by decide +kernel)) (fun _ _ _ _ _ => (pg_tup rfl (pgs_cons (pg_name (i := 14) sc__law_streams.nd rfl (Or.inl rfl)) (pgs_cons (pg_name (i := 15) sc__law_streams.nd rfl (Or.inl rfl)) pgs_nil)))) (fun _ _ _ _ _ => pts_nil) (fun _ _ _ _ _ => (pe_op op_cat (pv 14) (pv 15))))))) (ps_for PassesOwn.never rfl (pi_tup (pe_slice sl_tup (pv 1) (po_some pe_int) po_none)) (pg_name (i := 12) sc__law_streams.nd rfl (by first | exact Or.inl rfl | exact Or.inr rfl)) (pss_cons (ps_set (i := 13) sc__law_streams.nd rfl (by first | exact Or.inl rfl | exact Or.inr rfl) (pe_c c__law_streams hr (by first | decide | omega) rfl (pa_cons (pe_ix ix_tup (pe_ix ix_list (pv 6) pe_int (fun _ _ => rfl)) pe_int (fun _ _ => rfl)) (pa_cons (pv 12) (pa_cons (pv 10) (pa_cons (pv 10) (pa_cons (pe_op op_add (pv 4) pe_int) pa_nil)))))))
      (pss_one (ps_setLc (i := 7) (own := [("ahead", 14), ("behind", 15)]) (g := (gTup K 2 (gCons (gName 14) (gCons (gName 15) gNil)))) (tt := tYes) rfl sc__law_streams.nd rfl rfl (sw_true rfl rfl rfl (by decide +kernel)) (pi_zip rfl T.z_zip (pa_cons (pv 7) (pa_cons (pv 13) pa_nil))) (blkOk_by (own := [("ahead", 14), ("behind", 15)]) (N := ["tree", "thing_here", "first", "lists", "opens", "sign", "fields", "found", "word", "below", "more", "turn", "one", "further", "ahead", "behind"]) (sc := defScope s__law_streams) (by decide +kernel)) (fun _ _ _ _ _ => (pg_tup rfl (pgs_cons (pg_name (i := 14) sc__law_streams.nd rfl (Or.inl rfl)) (pgs_cons (pg_name (i := 15) sc__law_streams.nd rfl (Or.inl rfl)) pgs_nil)))) (fun _ _ _ _ _ => pts_nil) (fun _ _ _ _ _ => (pe_op op_cat (pv 14) (pv 15))))))))
      (pss_one (ps_ret (pv 7)))))))))), ?_⟩
    rintro Γ R ⟨t, x, fi, li, op, g, rfl, hg, ho, hN, hm, hfi, hli, hop, hg6, rfl⟩ _
    cases hg with
    | v =>
      cases ho with
      | r h => exact absurd h (by decide)
      | @v _ i hs i0 i1 =>
        show SW _ [.sh (.tup [.str sV, .lst []]), .sh (.int i), .sh (.int fi), .sh (.int li), .sh (.int op), .un, .un, .un, .un, .un, .un, .un, .un, .un, .un, .un] _
        refine sw_seq1 (sw_asgG (ep_var rfl) gt_tup2 rfl) ?_
        show SW _ [.sh (.tup [.str sV, .lst []]), .sh (.int i), .sh (.int fi), .sh (.int li), .sh (.int op), .sh (.str sV), .sh (.lst []), .un, .un, .un, .un, .un, .un, .un, .un, .un] _
        refine sw_guard (b := decide (sV = sV)) (et_test (by walk_at "ep")) (fun _ => ?_) fun z => absurd z (by decide)
        refine sw_ret (d := .lst (csD [[⟨fi, op, some i⟩]])) (EvF.p (ef_lst (ea_cons (EvF.p (ef_lst (ea_cons (ep_tup (ea_cons (ep_var rfl) (ea_cons (ep_var rfl) (ea_cons (ep_var rfl) ea_nil))) (by show 3 ≤ sizeLine; decide)) ea_nil) (by show 1 ≤ sizeLine; decide))) ea_nil) (by show 1 ≤ sizeLine; decide))) ⟨⟨_, rfl, rfl, ?_⟩, trivial⟩
        intro c hc
        rcases List.mem_singleton.mp hc with rfl
        refine ⟨Nat.one_le_two_pow, fun e he => ?_⟩
        rcases List.mem_singleton.mp he with rfl
        exact ⟨by show fi < 100; omega, by show op < 100; omega, i0, i1⟩
    | @r _ fs hp nd hl3 =>
      cases ho with
      | v h => exact absurd h (by decide)
      | m0 h => exact absurd h (by decide)
      | m1 h => exact absurd h (by decide)
      | l h => exact absurd h (by decide)
      | @r _ _ kvs _ h1 h2 =>
        show SW _ [.sh (.tup [.str sR, .lst (fD fs)]), .sh (.dct kvs), .sh (.int fi), .sh (.int li), .sh (.int op), .un, .un, .un, .un, .un, .un, .un, .un, .un, .un, .un] _
        refine sw_seq1 (sw_asgG (ep_var rfl) gt_tup2 rfl) ?_
        show SW _ [.sh (.tup [.str sR, .lst (fD fs)]), .sh (.dct kvs), .sh (.int fi), .sh (.int li), .sh (.int op), .sh (.str sR), .sh (.lst (fD fs)), .un, .un, .un, .un, .un, .un, .un, .un, .un] _
        refine sw_guard (b := decide (sR = sV)) (et_test (by walk_at "ep")) (fun z => absurd z (by decide)) fun _ => ?_
        refine sw_guard (b := decide (sR = sR)) (et_test (by walk_at "ep")) (fun _ => ?_) fun z => absurd z (by decide)
        refine q_asg (d := .lst []) (EvF.p (ef_lst ea_nil (by decide))) ?_
        show SW _ [.sh (.tup [.str sR, .lst (fD fs)]), .sh (.dct kvs), .sh (.int fi), .sh (.int li), .sh (.int op), .sh (.str sR), .sh (.lst (fD fs)), .sh (.lst (csD [])), .un, .un, .un, .un, .un, .un, .un, .un] _
        have em : mnT (.mk sR fs) = mnF fs := by rw [mnT, if_neg (by decide)]
        refine sw_seq (fun Γ' => ∃ cols e8 e9 e10, Γ' = [.sh (.tup [.str sR, .lst (fD fs)]), .sh (.dct kvs), .sh (.int fi), .sh (.int li), .sh (.int op), .sh (.str sR), .sh (.lst (fD fs)), .sh (.lst (csD cols)), e8, e9, e10, .un, .un, .un, .un, .un] ∧ cols.length = mnF fs ∧ okC (2 ^ g) cols)
          (sw_for (fun i Γ' => ∃ cols e8 e9 e10, Γ' = [.sh (.tup [.str sR, .lst (fD fs)]), .sh (.dct kvs), .sh (.int fi), .sh (.int li), .sh (.int op), .sh (.str sR), .sh (.lst (fD fs)), .sh (.lst (csD cols)), e8, e9, e10, .un, .un, .un, .un, .un] ∧ cols.length = ((fs.li.take i).map fun p => mnT p.2).sum ∧ okC (2 ^ g) cols) (wi_list (ep_var rfl)) ⟨[], _, _, _, rfl, rfl, fun c hc => by cases hc⟩ ?_ ?_) ?_
        · rintro i d Γi hdi ⟨cols, e8, e9, e10, rfl, hcl, hco⟩
          rw [fD_li, List.getElem?_map] at hdi
          obtain ⟨p, hpi, rfl⟩ := Option.map_eq_some_iff.mp hdi
          refine ⟨_, gt_tup2, ?_⟩
          show SW _ [.sh (.tup [.str sR, .lst (fD fs)]), .sh (.dct kvs), .sh (.int fi), .sh (.int li), .sh (.int op), .sh (.str sR), .sh (.lst (fD fs)), .sh (.lst (csD cols)), .sh (.str p.1), .sh (tD p.2), e10, .un, .un, .un, .un, .un] _
          have pm : p ∈ fs.li := List.mem_of_getElem? hpi
          have hd : dpT p.2 < N := by
            have e : dpT (.mk sR fs) = dpF fs + 1 := by rw [dpT]
            have := dp_li pm
            omega
          have hmp : mnT p.2 ≤ mnF fs := mn_le pm
          have hlk : kvs.lookup p.1 = some ((kvs.lookup p.1).getD .non) := by
            have := h1 p pm
            cases e : kvs.lookup p.1 with
            | none => rw [e] at this; cases this
            | some y => rfl
          refine q_asgW (ew_callP (ea_cons (ep_var rfl) (ea_cons (ep_dget (ep_var rfl) (ep_var rfl) hlk) (ea_cons (ep_var rfl) (ea_cons (ep_var rfl) (ea_cons (ep_var rfl) ea_nil))))) (R := fun d Γ' => (∃ more, d = .lst (csD more) ∧ more.length = mnT p.2 ∧ okC (2 ^ g) more) ∧ Γ' = _) ⟨p.2, _, fi, li, op, g, rfl, hp p pm, h2 p pm, hd, by omega, hfi, hli, hop, hg6, rfl⟩ fun e Γ' h => ⟨h, rfl⟩) ?_
          rintro _ _ ⟨⟨more, rfl, hml, hmo⟩, rfl⟩
          show SW _ [.sh (.tup [.str sR, .lst (fD fs)]), .sh (.dct kvs), .sh (.int fi), .sh (.int li), .sh (.int op), .sh (.str sR), .sh (.lst (fD fs)), .sh (.lst (csD cols)), .sh (.str p.1), .sh (tD p.2), .sh (.lst (csD more)), .un, .un, .un, .un, .un] _
          have hil : i < fs.li.length := (List.getElem?_eq_some_iff.mp hpi).1
          have hsum : cols.length + mnT p.2 = ((fs.li.take (i + 1)).map fun p => mnT p.2).sum := by
            rw [hcl, List.take_succ, hpi]
            simp
          have hle : ((fs.li.take (i + 1)).map fun p => mnT p.2).sum ≤ mnF fs := by
            rw [mnF_li]
            conv => rhs; rw [← List.take_append_drop (i + 1) fs.li, List.map_append, List.sum_append]
            omega
          refine sw_asg (d := .lst (csD (cols ++ more))) (EvF.p (EvF.cast (ef_op (ep_var rfl) (ep_var rfl) (rdf_cat (ds := csD cols) (es := csD more) (by rw [List.length_map, List.length_map, sizeLine_eq]; omega))) (List.map_append (f := cD)).symm)) ⟨cols ++ more, _, _, _, rfl, by rw [List.length_append, hml]; exact hsum, hco.append hmo⟩
        · rintro Γ' ⟨cols, e8, e9, e10, rfl, hcl, hco⟩
          refine ⟨cols, e8, e9, e10, rfl, ?_, hco⟩
          rw [hcl, fD_li, List.length_map, List.take_length, mnF_li]
        · rintro _ ⟨cols, e8, e9, e10, rfl, hcl, hco⟩
          exact sw_ret (d := .lst (csD cols)) (ep_var rfl) ⟨⟨cols, rfl, by rw [em]; exact hcl, hco⟩, trivial⟩
    | @o g' s ww t' hs hg' =>
      have hd : dpT t' < N := by
        have : dpT (.mk s (.cons ww t' .nil)) = max (dpT t') 0 + 1 := by rw [dpT, dpF, dpF]
        rw [this] at hN; omega
      have hv : decide (s = sV) = false := by rcases hs with rfl | rfl <;> decide
      have hr' : decide (s = sR) = false := by rcases hs with rfl | rfl <;> decide
      have em : mnT (.mk s (.cons ww t' .nil)) = mnT t' := by rw [mnT, if_neg (of_decide_eq_false hv), mnF, mnF]; rfl
      have ok9 : okT (.mk s (.cons ww t' .nil)) := Gd.ok (.o hs hg')
      have p2 : (2 : Nat) ^ (g' + 1) = 2 ^ g' + 2 ^ g' := by rw [Nat.pow_succ]; omega
      have p1 : 1 ≤ (2 : Nat) ^ g' := Nat.one_le_two_pow
      have p64 : (2 : Nat) ^ g' ≤ 2 ^ 6 := Nat.pow_le_pow_right (by decide) (by omega)
      have e64 : (2 : Nat) ^ 6 = 64 := by decide
      have hx : ∃ (xs : List D) (b : Bool), (x = .tup xs ∧ b = false ∧ xs.length ≤ 1 ∨ x = .lst xs ∧ b = true ∧ xs.length ≤ 2) ∧ (∀ y ∈ xs, Ob t' y) ∧ decide (s = sL) = b := by
        cases ho with
        | m0 h => subst h; exact ⟨[], false, .inl ⟨rfl, rfl, by decide⟩, (fun y hy => nomatch hy), by decide⟩
        | @m1 _ _ _ y h oy => subst h; exact ⟨[y], false, .inl ⟨rfl, rfl, by show 1 ≤ 1; decide⟩, (fun z hz => by rcases List.mem_singleton.mp hz with rfl; exact oy), by decide⟩
        | @l _ _ _ xs h hl hxs => subst h; exact ⟨xs, true, .inr ⟨rfl, rfl, hl⟩, hxs, by decide⟩
        | r h => subst h; rcases hs with h | h <;> exact absurd h (by decide)
      obtain ⟨xs, b, hx, hxs, hb⟩ := hx
      have hx2 : xs.length ≤ 2 := by rcases hx with h | h <;> omega
      show SW _ [.sh (.tup [.str s, .lst [.tup [.str ww, tD t']]]), .sh x, .sh (.int fi), .sh (.int li), .sh (.int op), .un, .un, .un, .un, .un, .un, .un, .un, .un, .un, .un] _
      refine sw_seq1 (sw_asgG (ep_var rfl) gt_tup2 rfl) ?_
      show SW _ [.sh (.tup [.str s, .lst [.tup [.str ww, tD t']]]), .sh x, .sh (.int fi), .sh (.int li), .sh (.int op), .sh (.str s), .sh (.lst [.tup [.str ww, tD t']]), .un, .un, .un, .un, .un, .un, .un, .un, .un] _
      refine sw_guard (b := decide (s = sV)) (et_test (by walk_at "ep")) (fun z => by rw [hv] at z; cases z) fun _ => ?_
      refine sw_guard (b := decide (s = sR)) (et_test (by walk_at "ep")) (fun z => by rw [hr'] at z; cases z) fun _ => ?_
      have elen : EvP (tCB (rLenS K) (tCons (tVar 1) tNil)) [.sh (.tup [.str s, .lst [.tup [.str ww, tD t']]]), .sh x, .sh (.int fi), .sh (.int li), .sh (.int op), .sh (.str s), .sh (.lst [.tup [.str ww, tD t']]), .un, .un, .un, .un, .un, .un, .un, .un, .un] (.int xs.length) := by
        rcases hx with ⟨rfl, _⟩ | ⟨rfl, _⟩
        · exact ep_cb (ea_cons (ep_var rfl) ea_nil) rc_lenT
        · exact ep_cb (ea_cons (ep_var rfl) ea_nil) rc_len
      refine sw_guard (b := decide ((xs.length : Int) = 0)) (et_test (ep_op elen ep_int rd_eqI)) (fun z => ?_) fun z => ?_
      · refine sw_ret (d := .lst (csD (List.replicate (mnT t') [⟨fi, op, none⟩]))) (EvF.p (EvF.cast (ef_map (List.range (mnT t')) (fun i => D.int (0 + (i : Nat))) (fun _ => cD [⟨fi, op, none⟩]) (wi_rng1 (n := (mnT t' : Int)) (ea_cons (ep_call (ea_cons (ep_var (d := tD (.mk s (.cons ww t' .nil))) rfl) ea_nil) ⟨_, rfl, ok9, by omega, hm, rfl⟩ fun e Γ' h => by rw [h, em]) ea_nil) (by omega) (by omega)) ?_ fun i _ => ⟨_, gv_name (by decide), EvF.p (ef_lst (ea_cons (ep_tup (ea_cons (ep_var rfl) (ea_cons (ep_var rfl) (ea_cons ep_non ea_nil))) (by show 3 ≤ sizeLine; decide)) ea_nil) (by show 1 ≤ sizeLine; decide))⟩) ?_)) ⟨⟨_, rfl, ?_, ?_⟩, trivial⟩
        · rw [List.length_range, sizeLine_eq]; omega
        · rw [csD, List.map_replicate, List.map_const', List.length_range]
        · rw [List.length_replicate, em]
        · intro c hc
          obtain ⟨_, rfl⟩ := List.mem_replicate.mp hc
          refine ⟨by show 1 ≤ _; omega, fun e he => ?_⟩
          rcases List.mem_singleton.mp he with rfl
          exact ⟨by show fi < 100; omega, by show op < 100; omega, trivial⟩
      · obtain ⟨y, ys, rfl⟩ : ∃ y ys, xs = y :: ys := by
          cases xs with
          | nil => exact absurd z (by decide)
          | cons y ys => exact ⟨y, ys, rfl⟩
        have hys1 : ys.length ≤ 1 := by rw [List.length_cons] at hx2; omega
        have hmr : ∃ m : Nat, m ≤ li + 1 ∧ EvP (tOp (rI0 fun i j => V.int (i + j)) (tVar 3) (tCB (fun xs H Q => (∃ i, xs = [V.int i] ∧ Q (V.int i) H) ∨ ∃ k, xs = [V.bl k] ∧ Q (V.int (if k = true then 1 else 0)) H) (tCons (tOp rEq (tVar 5) (tC (.str sL))) tNil))) [.sh (.tup [.str s, .lst [.tup [.str ww, tD t']]]), .sh x, .sh (.int fi), .sh (.int li), .sh (.int op), .sh (.str s), .sh (.lst [.tup [.str ww, tD t']]), .un, .un, .un, .un, .un, .un, .un, .un, .un] (.int m) := by
          have e1 : EvP (tCB (fun xs H Q => (∃ i, xs = [V.int i] ∧ Q (V.int i) H) ∨ ∃ k, xs = [V.bl k] ∧ Q (V.int (if k = true then 1 else 0)) H) (tCons (tOp rEq (tVar 5) (tC (.str sL))) tNil)) [.sh (.tup [.str s, .lst [.tup [.str ww, tD t']]]), .sh x, .sh (.int fi), .sh (.int li), .sh (.int op), .sh (.str s), .sh (.lst [.tup [.str ww, tD t']]), .un, .un, .un, .un, .un, .un, .un, .un, .un] (.int (if b = true then 1 else 0)) := ep_cb (ea_cons (EvP.cast (ep_op (ep_var rfl) ep_str rd_eqS) (by rw [hb])) ea_nil) rc_intB
          cases b with
          | true => exact ⟨li + 1, Nat.le_refl _, EvP.cast (ep_op (ep_var rfl) e1 rd_I0i) rfl⟩
          | false => exact ⟨li, by omega, EvP.cast (ep_op (ep_var rfl) e1 rd_I0i) (by simp)⟩
        obtain ⟨m, hml, emr⟩ := hmr
        refine q_asg emr ?_
        show SW _ [.sh (.tup [.str s, .lst [.tup [.str ww, tD t']]]), .sh x, .sh (.int fi), .sh (.int li), .sh (.int op), .sh (.str s), .sh (.lst [.tup [.str ww, tD t']]), .un, .un, .un, .sh (.int m), .un, .un, .un, .un, .un] _
        have eb : ∀ {Γ : List En}, Γ[6]? = some (.sh (.lst [.tup [.str ww, tD t']])) → EvP (tOp (rIxT K) (tOp (rIxL K) (tVar 6) (tC (.int 0))) (tC (.int 1))) Γ (tD t') := fun h => ep_op (ep_op (ep_var h) ep_int (rd_ixL (atI_nat (j := 0) rfl))) ep_int (rd_ixT (atI_nat (j := 1) rfl))
        have e0 : ∀ {Γ : List En}, Γ[1]? = some (.sh x) → EvP (tOp (rIx K) (tVar 1) (tC (.int 0))) Γ y := fun h => by
          rcases hx with ⟨rfl, _⟩ | ⟨rfl, _⟩
          · exact ep_op (ep_var h) ep_int (rd_ixSeqT (atI_nat (j := 0) rfl))
          · exact ep_op (ep_var h) ep_int (rd_ixSeqL (atI_nat (j := 0) rfl))
        have eo : ∀ {Γ : List En}, Γ[4]? = some (.sh (.int op)) → EvP (tOp (rI0 fun i j => V.int (i + j)) (tVar 4) (tC (.int 1))) Γ (.int ((op + 1 : Nat) : Int)) := fun h => EvP.cast (ep_op (ep_var h) ep_int rd_I0i) (by congr 1)
        have em' : mnT t' ≤ 1000 := by rw [em] at hm; exact hm
        refine q_asgW (ew_callP (ea_cons (eb rfl) (ea_cons (e0 rfl) (ea_cons (ep_var rfl) (ea_cons (ep_var rfl) (ea_cons (eo rfl) ea_nil))))) (R := fun d Γ' => (∃ cols, d = .lst (csD cols) ∧ cols.length = mnT t' ∧ okC (2 ^ g') cols) ∧ Γ' = _) ⟨t', y, fi, m, op + 1, g', rfl, hg', hxs y List.mem_cons_self, hd, em', hfi, by omega, by omega, by omega, rfl⟩ fun e Γ' h => ⟨h, rfl⟩) ?_
        rintro _ _ ⟨⟨cols0, rfl, hc0, ho0⟩, rfl⟩
        show SW _ [.sh (.tup [.str s, .lst [.tup [.str ww, tD t']]]), .sh x, .sh (.int fi), .sh (.int li), .sh (.int op), .sh (.str s), .sh (.lst [.tup [.str ww, tD t']]), .sh (.lst (csD cols0)), .un, .un, .sh (.int m), .un, .un, .un, .un, .un] _
        refine sw_seq (fun Γ' => ∃ cols e12 e13, Γ' = [.sh (.tup [.str s, .lst [.tup [.str ww, tD t']]]), .sh x, .sh (.int fi), .sh (.int li), .sh (.int op), .sh (.str s), .sh (.lst [.tup [.str ww, tD t']]), .sh (.lst (csD cols)), .un, .un, .sh (.int m), .un, e12, e13, .un, .un] ∧ cols.length = mnT t' ∧ okC (2 ^ (g' + 1)) cols) ?_ ?_
        · rcases hx with ⟨rfl, _, hx1⟩ | ⟨rfl, _, hx1⟩
          · have : ys = [] := by
              cases ys with
              | nil => rfl
              | cons _ _ => simp at hx1
            subst this
            refine sw_inr (sw_for (ds := []) (fun i Γ' => Γ' = [.sh (.tup [.str s, .lst [.tup [.str ww, tD t']]]), .sh (.tup [y]), .sh (.int fi), .sh (.int li), .sh (.int op), .sh (.str s), .sh (.lst [.tup [.str ww, tD t']]), .sh (.lst (csD cols0)), .un, .un, .sh (.int m), .un, .un, .un, .un, .un]) (wi_tup (ep_tupFrom (ep_var rfl))) rfl (fun i d Γi hdi => by simp at hdi) ?_)
            rintro _ rfl
            exact ⟨cols0, .un, .un, rfl, hc0, ho0.mono (by omega)⟩
          · refine sw_inl (sw_for (fun i Γ' => ∃ cols e12 e13, Γ' = [.sh (.tup [.str s, .lst [.tup [.str ww, tD t']]]), .sh (.lst (y :: ys)), .sh (.int fi), .sh (.int li), .sh (.int op), .sh (.str s), .sh (.lst [.tup [.str ww, tD t']]), .sh (.lst (csD cols)), .un, .un, .sh (.int m), .un, e12, e13, .un, .un] ∧ cols.length = mnT t' ∧ okC (2 ^ g' + i * 2 ^ g') cols) (wi_list (ep_lstFrom (ep_var rfl))) ⟨cols0, .un, .un, rfl, hc0, by rw [Nat.zero_mul, Nat.add_zero]; exact ho0⟩ ?_ ?_)
            · rintro i d Γi hdi ⟨cols, e12, e13, rfl, hcl, hco⟩
              have hi0 : i = 0 := by have := (List.getElem?_eq_some_iff.mp hdi).1; omega
              subst hi0
              rw [Nat.zero_mul, Nat.add_zero] at hco
              refine ⟨_, gt_name, ?_⟩
              show SW _ [.sh (.tup [.str s, .lst [.tup [.str ww, tD t']]]), .sh (.lst (y :: ys)), .sh (.int fi), .sh (.int li), .sh (.int op), .sh (.str s), .sh (.lst [.tup [.str ww, tD t']]), .sh (.lst (csD cols)), .un, .un, .sh (.int m), .un, .sh d, e13, .un, .un] _
              refine q_asgW (ew_callP (ea_cons (eb rfl) (ea_cons (ep_var rfl) (ea_cons (ep_var rfl) (ea_cons (ep_var rfl) (ea_cons (eo rfl) ea_nil))))) (R := fun d Γ' => (∃ cols, d = .lst (csD cols) ∧ cols.length = mnT t' ∧ okC (2 ^ g') cols) ∧ Γ' = _) ⟨t', d, m, m, op + 1, g', rfl, hg', hxs d (List.mem_cons_of_mem _ (List.mem_of_getElem? hdi)), hd, em', by omega, by omega, by omega, by omega, rfl⟩ fun e Γ' h => ⟨h, rfl⟩) ?_
              rintro _ _ ⟨⟨cols1, rfl, hc1, ho1⟩, rfl⟩
              show SW _ [.sh (.tup [.str s, .lst [.tup [.str ww, tD t']]]), .sh (.lst (y :: ys)), .sh (.int fi), .sh (.int li), .sh (.int op), .sh (.str s), .sh (.lst [.tup [.str ww, tD t']]), .sh (.lst (csD cols)), .un, .un, .sh (.int m), .un, .sh d, .sh (.lst (csD cols1)), .un, .un] _
              refine sw_asg (ef_zipcat (ea_cons (ep_var rfl) (ea_cons (ep_var rfl) ea_nil)) (by omega) (hco.mono (by omega)) (ho1.mono (by omega)) fun p hp => ?_) ⟨_, _, _, rfl, by rw [List.length_zipWith, hcl, hc1, Nat.min_self], by rw [Nat.one_mul]; exact hco.zip ho1⟩
              obtain ⟨m1, m2⟩ := zip_mem hp
              have l1 := (hco _ m1).1
              have l2 := (ho1 _ m2).1
              exact ef_op (ep_var rfl) (ep_var rfl) (rdf_catC (by omega) (by omega))
            · rintro Γ' ⟨cols, e12, e13, rfl, hcl, hco⟩
              have hb2 : ys.length * 2 ^ g' ≤ 1 * 2 ^ g' := Nat.mul_le_mul_right _ hys1
              exact ⟨cols, e12, e13, rfl, hcl, hco.mono (by omega)⟩
        · rintro _ ⟨cols, e12, e13, rfl, hcl, hco⟩
          exact sw_ret (d := .lst (csD cols)) (ep_var rfl) ⟨⟨cols, rfl, by rw [em]; exact hcl, hco⟩, trivial⟩
theorem ok_sheets (T : Kx mg) (F : FnP K "_law_sheets" s__law_sheets f fd) (c__law_many : Cal P w K mg base 10 "_law_many" (spE (C_many 9))) (c__law_streams : Cal P w K mg base 20 "_law_streams" (spE (C_streams 9))) : FnOk P w K mg base CX0 21 f fd ["tree", "docs"] (spE C_sheets) := by
  refine fn_ok F sc__law_sheets (fun Γ R ⟨t, ds, h, _⟩ => by subst h; rfl) fun cdv A outer s H E hr => ⟨_, (pss_cons (ps_setLc (i := 2) (own := [("turn", 3)]) (g := (gName 3)) (tt := tYes) rfl sc__law_sheets.nd rfl rfl (sw_true rfl rfl rfl (by decide +kernel)) (pi_range1 rfl T.z_range (pa_cons (pe_c c__law_many hr (by first | decide | omega) rfl (pa_cons (pv 0) pa_nil)) pa_nil)) (blkOk_by (own := [("turn", 3)]) (N := ["tree", "docs", "found", "turn", "one", "more", "ahead", "behind"]) (sc := defScope s__law_sheets) (by decide +kernel)) (fun _ _ _ _ _ => (pg_name (i := 3) sc__law_sheets.nd rfl (Or.inl rfl))) (fun _ _ _ _ _ => pts_nil) (fun _ _ _ _ _ => (pe_lst pa_nil)))
      (pss_cons (ps_for PassesOwn.never rfl (pi_list (pv 1)) (pg_name (i := 4) sc__law_sheets.nd rfl (by first | exact Or.inl rfl | exact Or.inr rfl)) (pss_cons (ps_set (i := 5) sc__law_sheets.nd rfl (by first | exact Or.inl rfl | exact Or.inr rfl) (pe_c c__law_streams hr (by first | decide | omega) rfl (pa_cons (pv 0) (pa_cons (pv 4) (pa_cons pe_int (pa_cons pe_int (pa_cons pe_int pa_nil)))))))
      (pss_one (ps_setLc (i := 2) (own := [("ahead", 6), ("behind", 7)]) (g := (gTup K 2 (gCons (gName 6) (gCons (gName 7) gNil)))) (tt := tYes) rfl sc__law_sheets.nd rfl rfl (sw_true rfl rfl rfl (by decide +kernel)) (pi_zip rfl T.z_zip (pa_cons (pv 2) (pa_cons (pv 5) pa_nil))) (blkOk_by (own := [("ahead", 6), ("behind", 7)]) (N := ["tree", "docs", "found", "turn", "one", "more", "ahead", "behind"]) (sc := defScope s__law_sheets) (by decide +kernel)) (fun _ _ _ _ _ => (pg_tup rfl (pgs_cons (pg_name (i := 6) sc__law_sheets.nd rfl (Or.inl rfl)) (pgs_cons (pg_name (i := 7) sc__law_sheets.nd rfl (Or.inl rfl)) pgs_nil)))) (fun _ _ _ _ _ => pts_nil) (fun _ _ _ _ _ => (pe_op op_cat (pv 6) (pv 7)))))))
      (pss_one (ps_ret (pv 2))))), ?_⟩
  rintro Γ R ⟨t, ds, rfl, hg, ho, hd, hm, hl, rfl⟩ _
  show SW _ [.sh (tD t), .sh (.lst ds), .un, .un, .un, .un, .un, .un] _
  refine q_asg (d := .lst (csD (List.replicate (mnT t) []))) (EvF.p (EvF.cast (ef_map (List.range (mnT t)) (fun i => D.int (0 + (i : Nat))) (fun _ => cD []) (wi_rng1 (n := (mnT t : Int)) (ea_cons (ep_call (ea_cons (ep_var rfl) ea_nil) ⟨t, rfl, hg.ok, hd, hm, rfl⟩ fun e Γ' h => h) ea_nil) (by omega) (by omega)) (by rw [List.length_range, sizeLine_eq]; omega) fun i _ => ⟨_, gv_name (by decide), EvF.p (ef_lst ea_nil (by decide))⟩) (by rw [csD, List.map_replicate, List.map_const', List.length_range]))) ?_
  show SW _ [.sh (tD t), .sh (.lst ds), .sh (.lst (csD (List.replicate (mnT t) []))), .un, .un, .un, .un, .un] _
  refine sw_seq (fun Γ' => ∃ cols e4 e5, Γ' = [.sh (tD t), .sh (.lst ds), .sh (.lst (csD cols)), .un, e4, e5, .un, .un] ∧ cols.length = mnT t ∧ okC 24 cols) (sw_for (fun i Γ' => ∃ cols e4 e5, Γ' = [.sh (tD t), .sh (.lst ds), .sh (.lst (csD cols)), .un, e4, e5, .un, .un] ∧ cols.length = mnT t ∧ okC (i * 8) cols) (wi_list (ep_var rfl)) ⟨_, _, _, rfl, List.length_replicate, fun c hc => by obtain ⟨_, rfl⟩ := List.mem_replicate.mp hc; exact ⟨Nat.le_refl 0, fun e he => nomatch he⟩⟩ ?_ ?_) ?_
  · rintro i d Γi hdi ⟨cols, e4, e5, rfl, hcl, hco⟩
    have hi : i < 3 := by have := (List.getElem?_eq_some_iff.mp hdi).1; omega
    refine ⟨_, gt_name, ?_⟩
    show SW _ [.sh (tD t), .sh (.lst ds), .sh (.lst (csD cols)), .un, .sh d, e5, .un, .un] _
    refine q_asgW (ew_callP (ea_cons (ep_var rfl) (ea_cons (ep_var rfl) (ea_cons ep_int (ea_cons ep_int (ea_cons ep_int ea_nil))))) (R := fun d Γ' => (∃ cols, d = .lst (csD cols) ∧ cols.length = mnT t ∧ okC (2 ^ 3) cols) ∧ Γ' = _) ⟨t, d, 0, 0, 0, 3, rfl, hg, ho d (List.mem_of_getElem? hdi), hd, hm, by decide, by decide, by decide, by decide, rfl⟩ fun e Γ' h => ⟨h, rfl⟩) ?_
    rintro _ _ ⟨⟨cols1, rfl, hc1, ho1⟩, rfl⟩
    show SW _ [.sh (tD t), .sh (.lst ds), .sh (.lst (csD cols)), .un, .sh d, .sh (.lst (csD cols1)), .un, .un] _
    refine sw_asg (ef_zipcat (ea_cons (ep_var rfl) (ea_cons (ep_var rfl) ea_nil)) (by omega) (hco.mono (by omega)) (ho1.mono (by decide)) fun p hp => ?_) ⟨_, _, _, rfl, by rw [List.length_zipWith, hcl, hc1, Nat.min_self], by rw [Nat.add_mul]; exact hco.zip ho1⟩
    obtain ⟨m1, m2⟩ := zip_mem hp
    have l1 := (hco _ m1).1
    have l2 := (ho1 _ m2).1
    exact ef_op (ep_var rfl) (ep_var rfl) (rdf_catC (by omega) (by omega))
  · rintro Γ' ⟨cols, e4, e5, rfl, hcl, hco⟩
    exact ⟨cols, e4, e5, rfl, hcl, hco.mono (by omega)⟩
  · rintro _ ⟨cols, e4, e5, rfl, hcl, hco⟩
    exact sw_ret (d := .lst (csD cols)) (ep_var rfl) ⟨⟨cols, rfl, hcl, hco⟩, trivial⟩
end
end Lz
set_option Elab.async false
set_option linter.all false
set_option maxRecDepth 100000
set_option maxHeartbeats 4000000
/-! C13: k81: the law. -/
namespace Lz
open PySem PySem.Spec PyProof.Rows L2 DL XS
local macro_rules | `(tactic| walk_at "sd") => `(tactic| first
  | assumption
  | exact .inl ⟨by decide, by decide⟩ | exact ⟨by decide, by decide, by decide⟩ | exact ⟨by decide, by decide⟩
  | (show (0 : Int) < _; first | decide | omega) | exact ⟨by omega, by omega⟩ | exact .inl ⟨by omega, by omega⟩ | exact .inr ⟨by omega, by omega⟩ | exact .inr ⟨by decide, by decide⟩ | omega)
local macro_rules | `(tactic| walk_at "ep") => `(tactic| first
  | exact ep_int | exact ep_str | exact ep_bl | exact ep_non | exact ep_ref | exact ep_ty
  | exact ep_var rfl
  | (refine' ep_ixM (.inr rfl) ?ka ?kr; (case ka => walk_at "ep"); (case kr => exact rfl))
  | (refine' ep_ixM (.inl rfl) ?ka ?kr; (case ka => walk_at "ep"); (case kr => exact rfl))
  | (refine' ep_op ?ka ?kb rd_I0i; (case ka => walk_at "ep"); (case kb => walk_at "ep"))
  | (refine' ep_op ?ka ?kb rd_I0b; (case ka => walk_at "ep"); (case kb => walk_at "ep"))
  | (refine' ep_op ?ka ?kb (rd_Ii ?sd); (case ka => walk_at "ep"); (case kb => walk_at "ep"); (case sd => walk_at "sd"))
  | (refine' ep_op ?ka ?kb rd_eqI; (case ka => walk_at "ep"); (case kb => walk_at "ep"))
  | (refine' ep_op ?ka ?kb rd_eqS; (case ka => walk_at "ep"); (case kb => walk_at "ep"))
  | (refine' ep_op ?ka ?kb rd_neI; (case ka => walk_at "ep"); (case kb => walk_at "ep"))
  | (refine' ep_op ?ka ?kb rd_neS; (case ka => walk_at "ep"); (case kb => walk_at "ep")))
local macro_rules | `(tactic| walk_at "et") => `(tactic| first
  | (refine' et_test ?ka; (case ka => walk_at "ep"))
  | (refine' et_not ?ka; (case ka => walk_at "et"))
  | (refine' et_and ?ka fun _ => ?kb; (case ka => walk_at "et"); (case kb => walk_at "et"))
  | (refine' et_or ?ka fun _ => ?kb; (case ka => walk_at "et"); (case kb => walk_at "et")))
theorem sc_law : FnScope ["script", "flask", "lap", "sheet", "turn", "tree", "one", "k"] ["script"] (defScope s_law) := ⟨rfl, rfl, rfl, by decide +kernel, rfl, by decide +kernel, by decide +kernel⟩
theorem rc_min2 {i j : Int} : RC (fun xs H Q => ∃ i j, xs = [.int i, .int j] ∧ Q (.int (if j < i then j else i)) H) [.int i, .int j] (.int (if j < i then j else i)) := rc_int2 (f := fun i j => if j < i then j else i)
/-- the 400 entries -/
def e4 (k : Nat) : Ey := ⟨k % 100, k % 7, if k % 2 = 0 then none else some (k : Int)⟩
def es4 : List Ey := (List.range 400).map e4
theorem len4 : es4.length = 400 := by rw [es4, List.length_map, List.length_range]
theorem ok4 : ∀ e ∈ es4, okE e := fun e he => by
  obtain ⟨k, hk, rfl⟩ := List.mem_map.mp he
  have hk := List.mem_range.mp hk
  refine ⟨by show k % 100 < 100; omega, by show k % 7 < 100; omega, ?_⟩
  show okO (if k % 2 = 0 then none else some (k : Int))
  split
  · trivial
  · exact ⟨by unfold bg; omega, by unfold bg; omega⟩
theorem ne4 : es4 ≠ [] := fun z => by have := len4; rw [z] at this; cases this
def ez : Ey := ⟨0, 0, none⟩
theorem ez_t : eT ez = Str.ofString "0.0" := by decide +kernel
theorem cT_ne {es : List Ey} (h : es ≠ []) : cT es = jn (es.map eT) := by
  cases es with
  | nil => exact absurd rfl h
  | cons e es => rfl
theorem cT4 : cT es4 ++ Str.ofString " 0.0" = cT (es4 ++ [ez]) := by
  rw [cT_ne ne4, cT_ne (by simp), List.map_append, jn_app (by simpa using ne4) (by simp), List.map_singleton, jn_one, ez_t, Str.append_assoc]
  congr 1
theorem len_cT4 : (cT es4).length ≤ 4000000 := by
  have := len_fT ok4
  rw [fT_ne ne4, ← cT_ne ne4, len4] at this
  omega
def q1 : List Ey := [⟨0, 1, some 5⟩, ⟨1, 0, none⟩]
def q2 : List Ey := [⟨99, 0, some (-7)⟩]
theorem q1_t : cT q1 = Str.ofString "0.1=5 1.0" := by decide +kernel
theorem q2_t : cT q2 = Str.ofString "99.0=-7" := by decide +kernel
def C_law (K : PySem.W.Frag) : Cn := fun Γ R => ∃ (a : Addr) (ns : List Int) (p : Prop), Γ = [.sh (.scr a ns p)] ∧ (p → KLs K a (ns.map V.int)) ∧ R = fun d Γ' => d = .bl true
section
variable {P : Program} {w : World} {K : PySem.W.Frag} {mg : Str → Option Value} {base : Heap} {f : Addr} {fd : FuncData} {CX : Addr}
theorem ok_law (T : Kx mg) (c__law_flask : Cal P w K mg base 1 "_law_flask" (spN (C_flask K) fun k => Fo k 0)) (c__law_drip : Cal P w K mg base 1 "_law_drip" (spK C_drip)) (c__law_entry : Cal P w K mg base 3 "_law_entry" (spK C_entry))
    (c__law_tree : Cal P w K mg base 9 "_law_tree" (spK (C_tree 7))) (c__law_docs : Cal P w K mg base 11 "_law_docs" (spK (C_docs 7))) (c__law_sheets : Cal P w K mg base 21 "_law_sheets" (spE C_sheets))
    (c__law_line : Cal P w K mg base 1 "_law_line" (spE C_wc)) (c_write_column : Cal P w K mg base 2 "write_column" (spE C_wc)) (c__law_right : CalG P w K mg base 5 "_law_right" (spE C_right)) (c__law_place : Cal P w K mg base 5 "_law_place" (spE C_place))
    (c_read_column : CalU P w K mg base 4 "read_column" (spUF C_rc CX "place" B_rc)) (F : FnP K "law" s_law f fd) : FnG P w K mg base 22 f fd ["script"] (spE (C_law K)) := by
  refine fn_okG F sc_law (fun Γ R ⟨a, ns, p, h, _⟩ => by subst h; rfl) fun cdv A outer s H E hr hg => ⟨_, (pss_cons (ps_set (i := 1) sc_law.nd rfl (by first | exact Or.inl rfl | exact Or.inr rfl) (pe_c c__law_flask hr (by first | decide | omega) rfl (pa_cons (pv 0) pa_nil)))
      (pss_cons (ps_for PassesOwn.never rfl (pi_range1 rfl T.z_range (pa_cons (pe_op op_add pe_int (pe_op op_mul pe_int (pe_callB (call_min2 rfl) rfl T.z_min (by decide +kernel) (pa_cons (pe_callB call_len_seq rfl T.z_len (by decide +kernel) (pa_cons (pv 0) pa_nil)) (pa_cons pe_int pa_nil))))) pa_nil)) (pg_name (i := 2) sc_law.nd rfl (by first | exact Or.inl rfl | exact Or.inr rfl)) (pss_cons (ps_setLc (i := 3) (own := [("turn", 4)]) (g := (gName 4)) (tt := tYes) rfl sc_law.nd rfl rfl (sw_true rfl rfl rfl (by decide +kernel)) (pi_range1 rfl T.z_range (pa_cons (pe_c c__law_drip hr (by first | decide | omega) rfl (pa_cons (pv 1) (pa_cons pe_int pa_nil))) pa_nil)) (blkOk_by (own := [("turn", 4)]) (N := ["script", "flask", "lap", "sheet", "turn", "tree", "one", "k"]) (sc := defScope s_law) (by decide +kernel)) (fun _ _ _ _ _ => (pg_name (i := 4) sc_law.nd rfl (Or.inl rfl))) (fun _ _ _ _ _ => pts_nil) (fun _ _ _ _ _ => (pe_c c__law_entry hr (by first | decide | omega) rfl (pa_cons (pv 1) pa_nil))))
      (pss_cons (ps_set (i := 5) sc_law.nd rfl (by first | exact Or.inl rfl | exact Or.inr rfl) (pe_c c__law_tree hr (by first | decide | omega) rfl (pa_cons (pv 1) (pa_cons (pe_op op_add pe_int (pe_c c__law_drip hr (by first | decide | omega) rfl (pa_cons (pv 1) (pa_cons pe_int pa_nil)))) (pa_cons pe_int pa_nil)))))
      (pss_one (ps_for PassesOwn.never rfl (pi_list (pe_op op_cat (pe_lst (pa_cons (pv 3) pa_nil)) (pe_c c__law_sheets hr (by first | decide | omega) rfl (pa_cons (pv 5) (pa_cons (pe_c c__law_docs hr (by first | decide | omega) rfl (pa_cons (pv 1) (pa_cons (pv 5) (pa_cons (pe_c c__law_drip hr (by first | decide | omega) rfl (pa_cons (pv 1) (pa_cons pe_int pa_nil))) pa_nil)))) pa_nil))))) (pg_name (i := 6) sc_law.nd rfl (by first | exact Or.inl rfl | exact Or.inr rfl)) (pss_one (ps_if (pt_not (pt_val (pe_cg c__law_right hr hg (by first | decide | omega) rfl (pa_cons (pv 6) pa_nil)))) (pss_one (ps_ret pe_bl)) pss_nil)))))))
      (pss_cons (ps_if (pt_cmpR (op_eqD hr.units) (pv 0) (pe_lst pa_nil) (nomark _)) (pss_cons (ps_setLc (i := 3) (own := [("k", 7)]) (g := (gName 7)) (tt := tYes) rfl sc_law.nd rfl rfl (sw_true rfl rfl rfl (by decide +kernel)) (pi_range1 rfl T.z_range (pa_cons pe_int pa_nil)) (blkOk_by (own := [("k", 7)]) (N := ["script", "flask", "lap", "sheet", "turn", "tree", "one", "k"]) (sc := defScope s_law) (by decide +kernel)) (fun _ _ _ _ _ => (pg_name (i := 7) sc_law.nd rfl (Or.inl rfl))) (fun _ _ _ _ _ => pts_nil) (fun _ _ _ _ _ => (pe_tup (pa_cons (pe_op op_mod (pv 7) pe_int) (pa_cons (pe_op op_mod (pv 7) pe_int) (pa_cons (pe_ix (show IxR _ (rIxL K) from ix_list) (pe_lst (pa_cons pe_non (pa_cons (pv 7) pa_nil))) (pe_op op_mod (pv 7) pe_int) (fun _ _ => rfl)) pa_nil))))))
      (pss_one (ps_if (PW.pt (pw_or (pt_not (pt_val (pe_cg c__law_right hr hg (by first | decide | omega) rfl (pa_cons (pv 3) pa_nil)))) (pw_or1 (pt_cmpR op_ne (pe_c c__law_place hr (by first | decide | omega) rfl (pa_cons (pe_op op_add_str (pe_c c__law_line hr (by first | decide | omega) rfl (pa_cons (pv 3) pa_nil)) pe_str) pa_nil)) pe_int (nomark _))))) (pss_one (ps_ret pe_bl)) pss_nil))) pss_nil)
      (pss_cons (ps_if (PW.pt (pw_or (pt_cmpR op_ne (pe_c c_write_column hr (by first | decide | omega) rfl (pa_cons (pe_lst (pa_cons (pe_tup (pa_cons pe_int (pa_cons pe_int (pa_cons pe_int pa_nil)))) (pa_cons (pe_tup (pa_cons pe_int (pa_cons pe_int (pa_cons pe_non pa_nil)))) pa_nil))) pa_nil)) pe_str (nomark _)) (pw_or1 (pt_cmpR (op_neD hr.units) (pe_cu c_read_column hr (by first | decide | omega) rfl passF (pa_cons pe_str pa_nil)) (pe_lst pa_nil) (nomark _))))) (pss_one (ps_ret pe_bl)) pss_nil)
      (pss_one (ps_ret (pe_cmpR (op_eqD hr.units) (pe_cu c_read_column hr (by first | decide | omega) rfl passF (pa_cons pe_str pa_nil)) (pe_lst (pa_cons (pe_tup (pa_cons pe_int (pa_cons pe_int (pa_cons (pe_un un_neg pe_int) pa_nil)))) pa_nil)) (nomark _)))))))), ?_⟩
  rintro Γ R ⟨a, ns, p, rfl, hp, rfl⟩ _
  show SW _ ([D.scr a ns p].map En.sh ++ List.replicate 7 .un) _
  have rt : ∀ {Γ : List En} {i : Nat} {es : List Ey}, Γ[i]? = some (.sh (cD es)) → (∀ e ∈ es, okE e) → es.length ≤ 400 → EvP (tCall (spE C_right) [] E0 (tCons (tVar i) tNil)) Γ (.bl true) := fun {Γ i es} h ok hl => ep_call (ea_cons (ep_var h) ea_nil) ⟨es, rfl, ok, hl, rfl⟩ fun e Γ' h => h
  refine sw_flask (M := fun Γ' => ∃ e1 e2 e3 e5 e6, Γ' = [.sh (.scr a ns p), e1, e2, e3, .un, e5, e6, .un]) sh_nm (en_call (ea_cons (ep_var rfl) ea_nil) ⟨a, ns, p, rfl, hp⟩) (fun fa fb k hk => ?_) ?_
  · show SK fa fb _ [.sh (.scr a ns p), .sh (.ref fa), .un, .un, .un, .un, .un, .un] k _
    obtain ⟨m, hm, m0, m3⟩ : ∃ m : Int, (if (3 : Int) < (ns.length : Nat) then 3 else ((ns.length : Nat) : Int)) = m ∧ 0 ≤ m ∧ m ≤ 3 := ⟨_, rfl, by split <;> omega, by split <;> omega⟩
    have ml : ∀ {Γ : List En}, Γ[0]? = some (.sh (.scr a ns p)) → EvP (tCB (fun xs H Q => ∃ i j, xs = [V.int i, V.int j] ∧ Q (V.int (if j < i then j else i)) H) (tCons (tCB (rLenS K) (tCons (tVar 0) tNil)) (tCons (tC (.int 3)) tNil))) Γ (.int m) := fun {Γ} h => EvP.cast (ep_cb (ea_cons (ep_cb (ea_cons (ep_var h) ea_nil) (rc_lenScr hp)) (ea_cons ep_int ea_nil)) rc_min2) (by rw [hm])
    refine sk_forN (fun i Γ' k' => (∃ e2 e3 e5 e6, Γ' = [.sh (.scr a ns p), .sh (.ref fa), e2, e3, .un, e5, e6, .un]) ∧ Fo k' (i * 200000) ∧ i ≤ 9) (wi_rng1 (n := 3 + 2 * m) (ea_cons (ep_op ep_int (ep_op ep_int (ml rfl) (rd_Ii (.inl ⟨by decide, by decide⟩))) rd_I0i) ea_nil) (by omega) (by omega)) ⟨⟨.un, .un, .un, .un, rfl⟩, by rw [Nat.zero_mul]; exact hk, by omega⟩ ?_ fun Γ' k' ⟨⟨e2, e3, e5, e6, h⟩, _⟩ => ⟨_, e2, e3, e5, e6, h⟩
    rintro i d Γi ki hd ⟨⟨e2, e3, e5, e6, rfl⟩, hf, hi⟩
    have hi2 : i < 9 := by
      have := (List.getElem?_eq_some_iff.mp hd).1
      rw [rgD_len] at this
      omega
    have t7 : tn 7 = 65600 := by decide
    have o7 : on 7 = 17493 := by decide
    show SK fa fb _ [.sh (.scr a ns p), .sh (.ref fa), .sh d, e3, .un, e5, e6, .un] ki _
    refine qk_asg (R := fun d k' => ∃ es : List Ey, d = cD es ∧ (∀ e ∈ es, okE e) ∧ es.length ≤ 40 ∧ Fo k' (i * 200000 + 300)) (ek_ofF (efk_rng (Rl := fun ds k' => ∃ es : List Ey, ds = es.map eD ∧ (∀ e ∈ es, okE e) ∧ es.length ≤ 40 ∧ Fo k' (i * 200000 + 300)) (R1 := fun d k' => ∃ r : Nat, d = .int r ∧ r ≤ 40 ∧ Fo k' (i * 200000 + 1)) (ek_drip rfl (ea_cons ep_int ea_nil) hf (by omega) (by decide) (by decide) fun r k' r0 r1 h => ⟨r.toNat, by congr 1; omega, by omega, h⟩) ?_) fun ds k' ⟨es, e, q⟩ => ⟨es, by rw [e]; rfl, q⟩) ?_
    · rintro d k1 ⟨r, rfl, hr40, h1⟩
      refine ⟨r, rfl, EvFK.imp (efk_lc (List.range r) (fun i => D.int (0 + (i : Nat))) (fun j acc kj => ∃ es : List Ey, acc = es.map eD ∧ (∀ e ∈ es, okE e) ∧ es.length = j ∧ j ≤ r ∧ Fo kj (i * 200000 + 1 + j * 7)) rfl (wi_rng1 (n := (r : Int)) (ea_cons ep_int ea_nil) (by omega) (by omega)) (fun j acc kj ⟨es, e, _, hl, hj, _⟩ => by rw [e, List.length_map, hl, sizeLine_eq]; omega) ⟨[], rfl, (fun e he => nomatch he), rfl, Nat.zero_le _, h1⟩ ?_) ?_⟩
      · rintro j x acc kj hx ⟨es, rfl, ok, hl, hj, hfj⟩
        have hjr : j < r := by
          have := (List.getElem?_eq_some_iff.mp hx).1
          rwa [List.length_range] at this
        refine ⟨_, gv_name (by decide), sv1, rfl, ?_⟩
        have h2 : EvKF fa fb (tCall (spK C_entry) [] E0 (tCons (tVar 1) tNil)) [.sh (.scr a ns p), .sh (.ref fa), .sh d, e3, .sh (.int (0 + (x : Nat))), e5, e6, .un] kj fun d k' => ∃ e : Ey, d = eD e ∧ okE e ∧ Fo k' (i * 200000 + 1 + j * 7 + 7) := ekf_call rfl ea_nil ⟨_, rfl, hfj, by omega, rfl⟩
        refine h2.imp fun d k' ⟨e, ed, oe, h⟩ => ⟨es ++ [e], by rw [ed, List.map_append]; rfl, fun y hy => ?_, by rw [List.length_append, hl]; rfl, hjr, h.mono (by omega)⟩
        rcases List.mem_append.mp hy with hy | hy
        · exact ok y hy
        · rcases List.mem_singleton.mp hy with rfl
          exact oe
      · rintro ds k' ⟨es, rfl, ok, hl, hj, h⟩
        rw [List.length_range] at hl h
        exact ⟨es, rfl, ok, by omega, h.mono (by omega)⟩
    rintro _ k1 ⟨es, rfl, ok, hl, h1⟩
    show SK fa fb _ [.sh (.scr a ns p), .sh (.ref fa), .sh d, .sh (cD es), .un, e5, e6, .un] k1 _
    refine qk_asg (R := fun d k' => ∃ t : Ty, d = tD t ∧ Gd 3 t ∧ mnT t ≤ 3 ∧ dpT t ≤ 6 ∧ Fo k' (i * 200000 + 301 + tn 7)) (ek_callA (R1 := fun ds k' => ∃ q : Nat, ds = [.int q, .int (3 : Nat)] ∧ 1 ≤ q ∧ q ≤ 3 ∧ Fo k' (i * 200000 + 301)) rfl (eak_cons (R1 := fun d k' => ∃ q : Nat, d = .int q ∧ 1 ≤ q ∧ q ≤ 3 ∧ Fo k' (i * 200000 + 301)) (ek_opP ep_int (ek_drip rfl (ea_cons ep_int ea_nil) h1 (by omega) (by decide) (by decide) fun r k' r0 r1 h => ⟨.int (1 + r), rd_I0i, (1 + r).toNat, by congr 1; omega, by omega, by omega, h⟩)) ?_) ?_) ?_
    · rintro _ k2 ⟨q, rfl, q1, q3, h2⟩
      exact eak_cons (R1 := fun d k' => d = .int 3 ∧ k' = k2) (ek_p ep_int ⟨rfl, rfl⟩) fun d k3 ⟨e1, e2⟩ => by subst e1 e2; exact eak_nil ⟨q, rfl, q1, q3, h2⟩
    · rintro _ k2 ⟨q, rfl, q1, q3, h2⟩
      exact ⟨_, ⟨q, 3, _, rfl, h2, by omega, q1, q3, by decide, by omega, rfl⟩, fun d k3 ⟨t, e, g, e1, e2, h⟩ => ⟨t, e, g, by omega, by omega, h⟩⟩
    rintro _ k2 ⟨t, rfl, hg3, hmn, hdp, h2⟩
    show SK fa fb _ [.sh (.scr a ns p), .sh (.ref fa), .sh d, .sh (cD es), .un, .sh (tD t), e6, .un] k2 _
    refine sk_forNK (fun ds j Γ' k' => (∃ e6, Γ' = [.sh (.scr a ns p), .sh (.ref fa), .sh d, .sh (cD es), .un, .sh (tD t), e6, .un]) ∧ (∃ cols, ds = csD cols ∧ okC 400 cols) ∧ Fo k' ((i + 1) * 200000)) (wik_list (R1 := fun d k' => (∃ cols, d = .lst (csD cols) ∧ okC 400 cols) ∧ Fo k' ((i + 1) * 200000)) (ek_opP (x := .lst [cD es]) (EvF.p (ef_lst (ea_cons (ep_var rfl) ea_nil) (by show 1 ≤ sizeLine; decide))) (ek_callPA (R1 := fun ds k' => ∃ docs, ds = [tD t, .lst docs] ∧ docs.length ≤ 3 ∧ (∀ x ∈ docs, Ob t x) ∧ Fo k' ((i + 1) * 200000)) ?_ ?_)) fun d k' ⟨⟨cols, e, o⟩, h⟩ => ⟨_, e, ⟨_, rfl⟩, ⟨cols, rfl, o⟩, h⟩) ?_ ?_
    · refine eak_cons (R1 := fun d k' => d = tD t ∧ k' = k2) (ek_p (ep_var rfl) ⟨rfl, rfl⟩) ?_
      rintro _ k3 ⟨rfl, rfl⟩
      refine eak_cons (R1 := fun d k' => ∃ docs, d = .lst docs ∧ docs.length ≤ 3 ∧ (∀ x ∈ docs, Ob t x) ∧ Fo k' ((i + 1) * 200000)) (ek_callA (R1 := fun ds k' => ∃ q : Nat, ds = [tD t, .int q] ∧ q ≤ 3 ∧ Fo k' (i * 200000 + 302 + tn 7)) rfl ?_ ?_) fun d k4 ⟨docs, e, q⟩ => eak_nil ⟨docs, by rw [e], q⟩
      · refine eak_cons (R1 := fun d k' => d = tD t ∧ k' = k3) (ek_p (ep_var rfl) ⟨rfl, rfl⟩) ?_
        rintro _ k4 ⟨rfl, rfl⟩
        exact eak_cons (R1 := fun d k' => ∃ q : Nat, d = .int q ∧ q ≤ 3 ∧ Fo k' (i * 200000 + 302 + tn 7)) (ek_drip rfl (ea_cons ep_int ea_nil) h2 (by omega) (by decide) (by decide) fun r k' r0 r1 h => ⟨r.toNat, by congr 1; omega, by omega, h.mono (by omega)⟩) fun d k5 ⟨q, e, q3, h⟩ => eak_nil ⟨q, by rw [e], q3, h⟩
      · rintro _ k4 ⟨q, rfl, q3, h4⟩
        exact ⟨_, ⟨t, q, 3, _, rfl, h4, by omega, q3, hg3, by omega, rfl⟩, fun d k5 ⟨ds, e, l3, o, h⟩ => ⟨ds, e, l3, o, h.mono (by omega)⟩⟩
    · rintro _ k3 ⟨docs, rfl, l3, od, h3⟩
      refine ⟨_, ⟨t, docs, rfl, hg3, od, by omega, by omega, l3, rfl⟩, fun d G ⟨cols, e, hcl, hco⟩ => ⟨.lst (csD (es :: cols)), by rw [e]; exact rd_ofF (rdf_cat (ds := [cD es]) (es := csD cols) (by rw [List.length_map, sizeLine_eq]; show 1 + _ ≤ _; omega)), ⟨_, rfl, fun c hc => ?_⟩, h3⟩⟩
      rcases List.mem_cons.mp hc with rfl | hc
      · exact ⟨by omega, ok⟩
      · exact (hco.mono (by decide)) c hc
    · rintro ds j d' Γj kj hdj ⟨⟨e6, rfl⟩, ⟨cols, rfl, hco⟩, hfj⟩
      rw [List.getElem?_map] at hdj
      obtain ⟨c, hc, rfl⟩ := Option.map_eq_some_iff.mp hdj
      obtain ⟨hcl, hce⟩ := hco c (List.mem_of_getElem? hc)
      show SK fa fb _ [.sh (.scr a ns p), .sh (.ref fa), .sh d, .sh (cD es), .un, .sh (tD t), .sh (cD c), .un] kj _
      exact sk_if (v := false) (et_not (et_B (rt rfl hce hcl))) (fun z => by cases z) fun _ => sk_next ⟨⟨_, rfl⟩, ⟨cols, rfl, hco⟩, hfj⟩
    · rintro ds Γ' k' ⟨⟨e6, rfl⟩, _, h⟩
      exact ⟨⟨_, _, _, _, rfl⟩, h, by omega⟩
  rintro _ ⟨e1, e2, e3, e5, e6, rfl⟩
  refine sw_seq (fun Γ' => ∃ e3, Γ' = [.sh (.scr a ns p), e1, e2, e3, .un, e5, e6, .un]) (sw_if (et_test (ep_op (ep_var rfl) (EvF.p (ef_lst ea_nil (by decide))) (rd_eqScr hp))) (fun _ => ?_) fun _ => sw_next ⟨e3, rfl⟩) ?_
  · refine q_asg (d := cD es4) (EvF.p (EvF.cast (ef_map (List.range 400) (fun i => D.int (0 + (i : Nat))) (fun i => eD (e4 i)) (wi_rng1 (n := 400) (ea_cons ep_int ea_nil) (by decide) (by decide)) (by rw [List.length_range, sizeLine_eq]; decide) fun i _ => ⟨_, gv_name (by decide), ?_⟩) (by rw [es4, List.map_map]; rfl))) ?_
    · have ei : (0 + (i : Nat) : Int) = (i : Int) := by omega
      rw [ei]
      have iv : EvP (tVar 7) ((wipG [.sh (.scr a ns p), e1, e2, e3, .un, e5, e6, .un] [7]).set 7 (.sh (.int (i : Int)))) (.int (i : Int)) := ep_var rfl
      have h100 : EvP (tOp (rI (fun _ j => 0 < j) fun i j => V.int (i % j)) (tVar 7) (tC (.int 100))) ((wipG [.sh (.scr a ns p), e1, e2, e3, .un, e5, e6, .un] [7]).set 7 (.sh (.int (i : Int)))) (.int ((i % 100 : Nat) : Int)) := EvP.cast (ep_op iv ep_int (rd_Ii (by decide))) (by congr 1)
      have h7 : EvP (tOp (rI (fun _ j => 0 < j) fun i j => V.int (i % j)) (tVar 7) (tC (.int 7))) ((wipG [.sh (.scr a ns p), e1, e2, e3, .un, e5, e6, .un] [7]).set 7 (.sh (.int (i : Int)))) (.int ((i % 7 : Nat) : Int)) := EvP.cast (ep_op iv ep_int (rd_Ii (by decide))) (by congr 1)
      have h2 : EvP (tOp (rI (fun _ j => 0 < j) fun i j => V.int (i % j)) (tVar 7) (tC (.int 2))) ((wipG [.sh (.scr a ns p), e1, e2, e3, .un, e5, e6, .un] [7]).set 7 (.sh (.int (i : Int)))) (.int ((i % 2 : Nat) : Int)) := EvP.cast (ep_op iv ep_int (rd_Ii (by decide))) (by congr 1)
      have hl : EvP (tLst (tCons (tC .non) (tCons (tVar 7) tNil))) ((wipG [.sh (.scr a ns p), e1, e2, e3, .un, e5, e6, .un] [7]).set 7 (.sh (.int (i : Int)))) (.lst [.non, .int (i : Int)]) := EvF.p (ef_lst (ea_cons ep_non (ea_cons iv ea_nil)) (by show 2 ≤ sizeLine; decide))
      have hv : EvP (tOp (rIxL K) (tLst (tCons (tC .non) (tCons (tVar 7) tNil))) (tOp (rI (fun _ j => 0 < j) fun i j => V.int (i % j)) (tVar 7) (tC (.int 2)))) ((wipG [.sh (.scr a ns p), e1, e2, e3, .un, e5, e6, .un] [7]).set 7 (.sh (.int (i : Int)))) (oD (if i % 2 = 0 then none else some (i : Int))) := by
        by_cases z : i % 2 = 0
        · rw [if_pos z]; rw [z] at h2
          exact ep_op hl h2 (rd_ixL (atI_nat (j := 0) rfl))
        · rw [if_neg z]
          have z1 : i % 2 = 1 := by omega
          rw [z1] at h2
          exact ep_op hl h2 (rd_ixL (atI_nat (j := 1) rfl))
      exact ep_tup (ea_cons h100 (ea_cons h7 (ea_cons hv ea_nil))) (by show 3 ≤ sizeLine; decide)
    show SW _ [.sh (.scr a ns p), e1, e2, .sh (cD es4), .un, e5, e6, .un] _
    have ln : EvP (tCall (spE C_wc) [] E0 (tCons (tVar 3) tNil)) [.sh (.scr a ns p), e1, e2, .sh (cD es4), .un, e5, e6, .un] (.str (cT es4)) := ep_call (ea_cons (ep_var rfl) ea_nil) ⟨es4, rfl, ok4, by rw [len4]; decide, rfl⟩ fun e Γ' h => h
    have pl : EvP (tCall (spE C_place) [] E0 (tCons (tOp rAddStr (tCall (spE C_wc) [] E0 (tCons (tVar 3) tNil)) (tC (.str (Str.ofString " 0.0")))) tNil)) [.sh (.scr a ns p), e1, e2, .sh (cD es4), .un, e5, e6, .un] (.int 400) := by
      refine ep_call (ea_cons (EvP.cast (ep_op ln ep_str (rd_addS ?_)) (by rw [cT4])) ea_nil) ⟨es4 ++ [ez], rfl, fun e he => ?_, ?_, ?_, rfl⟩ fun e Γ' h => h
      · have := len_cT4
        have : (Str.ofString " 0.0").length = 4 := by decide +kernel
        rw [sizeLine_eq]; omega
      · rcases List.mem_append.mp he with he | he
        · exact ok4 e he
        · rcases List.mem_singleton.mp he with rfl
          exact ⟨by decide, by decide, trivial⟩
      · rw [List.length_append, len4]; decide
      · rw [List.length_append, len4]; decide
    exact sw_if (b := false) (EtP.cast (et_or (et_not (et_B (rt rfl ok4 (by rw [len4]; decide)))) fun _ => et_test (ep_op pl ep_int rd_neI)) rfl) (fun z => by cases z) fun _ => sw_next ⟨_, rfl⟩
  rintro _ ⟨e3, rfl⟩
  have rd : ∀ {Γ : List En} {z : Str} (es : List Ey), cT es = z → (∀ e ∈ es, okE e) → es.length ≤ 400 → EvP (tCall (spUF C_rc CX "place" B_rc) [] (fun _ _ _ => False) (tCons (tC (.str z)) tNil)) Γ (cD es) := fun {Γ z} es e ok hl => by
    subst e
    exact EvF.p (EvFR.f (Rl := fun ds => ds = es.map eD) (ef_callUF (ea_cons ep_str ea_nil) ⟨es, rfl, ok, hl, rfl⟩) fun es h => h)
  refine sw_guard (b := false) (EtP.cast (et_or (et_test (ep_op (ep_call (ea_cons (EvF.p (ef_lst (ea_cons (ep_tup (ea_cons ep_int (ea_cons ep_int (ea_cons ep_int ea_nil))) (by show 3 ≤ sizeLine; decide)) (ea_cons (ep_tup (ea_cons ep_int (ea_cons ep_int (ea_cons ep_non ea_nil))) (by show 3 ≤ sizeLine; decide)) ea_nil)) (by show 2 ≤ sizeLine; decide))) ea_nil) (z := .str (Str.ofString "0.1=5 1.0")) ⟨q1, rfl, ?_, by decide, rfl⟩ fun e Γ' h => by rw [h, q1_t]) ep_str rd_neS)) fun _ => et_test (ep_op (rd [] rfl (fun e he => nomatch he) (by decide)) (EvF.p (ef_lst ea_nil (by decide))) (rd_neD (pyD_c []) rfl (shaped_c []) rfl))) (by decide +kernel)) (fun z => by cases z) fun _ => ?_
  · intro e he
    rcases List.mem_cons.mp he with rfl | he
    · exact ⟨by decide, by decide, by decide, by decide⟩
    · rcases List.mem_singleton.mp he with rfl
      exact ⟨by decide, by decide, trivial⟩
  refine sw_ret (EvP.cast (ep_op (rd q2 q2_t ?_ (by decide)) (EvF.p (ef_lst (ea_cons (ep_tup (ea_cons ep_int (ea_cons ep_int (ea_cons (ep_neg ep_int) ea_nil))) (by show 3 ≤ sizeLine; decide)) ea_nil) (by show 1 ≤ sizeLine; decide))) (rd_eqD (pyD_c q2) (pyD_c q2) (shaped_c _) (shaped_c _))) (congrArg D.bl (by decide +kernel))) ⟨rfl, trivial⟩
  intro e he
  rcases List.mem_singleton.mp he with rfl
  exact ⟨by decide, by decide, by decide, by decide⟩
theorem law_sp (K : PySem.W.Frag) (H : Hp) (a : Addr) (ns : List Int) (_ : Only H) (h : SqL K H a (ns.map V.int)) : spE (C_law K) [.ref a] H (fun v _ => v = .bl true) fun _ _ _ => False := by
  refine ⟨_, H, _, fun d _ => d = .bl true, good_args (es := [.scr a ns (KLs K a (ns.map V.int))]) (Ex.refl H) ⟨_, _, rfl, ⟨rfl, ?_⟩, rfl⟩, argOk_sh _, ⟨a, ns, _, rfl, id, rfl⟩, fun v d Γ' F' H' hr G' x r => ?_⟩
  · rcases h with (h | h) | h
    · exact .inl h
    · exact .inr (.inl h)
    · exact .inr (.inr h)
  · subst hr
    exact r
end
end Lz
set_option Elab.async false
set_option linter.all false
set_option maxRecDepth 100000
set_option autoImplicit false
set_option maxHeartbeats 4000000
/-! C14: k81: what the top leaves, by names; the law's promise from it. -/
namespace Lz
open PySem PySem.Spec PyProof.Rows L2 DL XS
abbrev PX : Program := PySem.Challenge.rw_levelcolumns_k81_columns_written_and_rea.prog
abbrev s_InvalidText : Stmt := (C8.clsBody (PySem.Challenge.pw_levelcolumns_k81_columns_written_and_rea.main.body.getD 2 (.Pass ⟨0, 0, 0, 0⟩))).getD 0 (.Pass ⟨0, 0, 0, 0⟩)
section
variable {P : Program} {w : World} {K : PySem.W.Frag} {mg : Str → Option Value} {base : Heap} {f cc cda C : Addr} {oc : Value} {od : Option Addr} {kV doc pm ct : Value} {an : Option Addr} {osl : Array (Option Value)}
theorem len1 {C : Addr} {f x : Str} : ∀ vs H Q E, spXr C (I1 f) vs H Q E → vs.length = (["self", x] : List Str).length := fun vs H Q E ⟨F, H0, a, ws, args, fs, e, _, _, _, r, ⟨i, e1, _⟩, _⟩ => by
  subst e e1
  rw [List.length_cons, r.length]; rfl
theorem sc_InvalidText : ScS ["self", "place"] ["self", "place"] (defScope s_InvalidText) := ⟨rfl, rfl, rfl, by decide +kernel, rfl, by decide +kernel, by decide +kernel, free_of (by decide +kernel), rfl, rfl⟩
theorem ok_InvalidText (T : SuC P K mg C f cc cda ["self", "place"] ["self", "place"] "__init__" "InvalidText.__init__" (defArgs s_InvalidText) (defBody s_InvalidText) (defScope s_InvalidText)) (h0z : PySem.W.findIn K (.ref C) "place" = some none) (lk : K.lookup f = some ⟨oc, od, .func (PySem.W.fnX "__init__" "InvalidText.__init__" (defArgs s_InvalidText) (defBody s_InvalidText) (defScope s_InvalidText) [("__class__", cc)] .none kV doc pm an (.ref cda) ct), osl⟩) :
    FnOk P w K mg base CX0 1 f (PySem.W.fnX "__init__" "InvalidText.__init__" (defArgs s_InvalidText) (defBody s_InvalidText) (defScope s_InvalidText) [("__class__", cc)] .none kV doc pm an (.ref cda) ct) ["self", "place"] (spXr C (I1 "place")) := by
  refine su_ok T lk len1 rfl fun A outer s H vs Q E hr ⟨F, H0, a, ws, args, fs, e1, eF, e2, h0, r, ⟨i, e3, hi, e4⟩, k⟩ => ?_
  subst e1 e2 e3 e4
  obtain ⟨v, _, rfl, rv, rfl⟩ := r
  cases (show v = V.int i from rv)
  exact ⟨_, _, a, pe_joined (.cons pe_str (.cons (pe_fmt (pv 1)) .nil)), pss_one (ps_ost (pv 0) (pv 1)), rfl, upd_same, fun Qp hq => run1r T.ox h0z (by decide) hi h0 k Qp _ rfl rfl hq⟩
end
/-- what is asked of the own exception -/
structure Own (K : PySem.W.Frag) : Prop where
  e1 : (excB K (He.ga K "InvalidText") && (oexB K (He.ga K "InvalidText") && suB PX.main.file K (He.ga K "InvalidText") (He.ma K (He.ga K "InvalidText") "__init__") "InvalidText.__init__")) = true
  e4 : PySem.W.findIn K (.ref (He.ga K "InvalidText")) "place" = some none
  e5 : PySem.W.exmOne K (.ref (He.ga K "InvalidText")) (.ref (He.ga K "InvalidText")) = some true
  f_ : fnA K (He.ma K (He.ga K "InvalidText") "__init__") = some (Str.ofString "__init__", Str.ofString "InvalidText.__init__", defArgs s_InvalidText, FuncBody.stmts (defBody s_InvalidText), defScope s_InvalidText, mainGlobals, [(("__class__" : Str), ccA K (He.ma K (He.ga K "InvalidText") "__init__"))], builtinsNs)
def fn : List He.DefD :=
  let g := fun (x : Str) (s : Stmt) => (⟨(x, none), x, x, defArgs s, defBody s, defScope s, [], []⟩ : He.DefD)
  [g "write_column" s_write_column, g "read_column" s_read_column, g "plain_number" s_plain_number, g "_signed_number" s__signed_number, g "_entry_text" s__entry_text, g "_entry_in" s__entry_in, g "_law_flask" s__law_flask, g "_law_drip" s__law_drip, g "_law_amount" s__law_amount, g "_law_tree" s__law_tree, g "_law_object" s__law_object, g "_law_docs" s__law_docs, g "_law_many" s__law_many, g "_law_streams" s__law_streams, g "_law_sheets" s__law_sheets, g "_law_line" s__law_line, g "_law_entry" s__law_entry, g "_law_right" s__law_right, g "_law_place" s__law_place, g "law" s_law]
def gls : List Str := ["write_column", "read_column", "plain_number", "_signed_number", "_entry_text", "_entry_in", "_law_flask", "_law_drip", "_law_amount", "_law_tree", "_law_object", "_law_docs", "_law_many", "_law_streams", "_law_sheets", "_law_line", "_law_entry", "_law_right", "_law_place", "law", "InvalidText"]
def frs : List Str := ["len", "abs", "min", "range", "list", "int", "all", "repr", "super", "enumerate", "zip", "sum", "max"]
def nums0 : List (Str × Int) := [("MOST_ENTRIES", 400), ("MOST_DIGITS", 60), ("GREATEST_LEVEL", 99)]
def fa : List He.Fa := gls.map .glo ++ frs.map .free ++ nums0.map (fun p => .int p.1 p.2)
section
variable {w : World} {K : PySem.W.Frag} {h : Heap} {mg : Str → Option Value}
theorem fact_of (c : He.SaysD fa fn K) {f : He.Fa} (m : f ∈ fa) : f.ok K = true :=
  List.all_eq_true.mp (He.ba (show ((fa.all fun f => f.ok K) && fn.all fun d => d.ok K) = true from congrArg (fun z : He.AlD => z.1) c)).1 f m
theorem glo (c : He.SaysD fa fn K) (X : K.In h) (G : h.Ns mainGlobals mg) {x : Str} (m : x ∈ gls) : mg x = some (.ref (He.ga K x)) := He.glo_ok X G (fact_of c (by unfold fa; simp only [List.mem_append]; exact .inl (.inl (List.mem_map_of_mem m))))
theorem fre (c : He.SaysD fa fn K) (X : K.In h) (G : h.Ns mainGlobals mg) {x : Str} (m : x ∈ frs) : mg x = none := He.free_ok X G (fact_of c (by unfold fa; simp only [List.mem_append]; exact .inl (.inr (List.mem_map_of_mem m))))
theorem int_ (c : He.SaysD fa fn K) (X : K.In h) (G : h.Ns mainGlobals mg) {x : Str} {i : Int} (m : (x, i) ∈ nums0) : ∃ u, mg x = some u ∧ RelV (.int i) u := by
  obtain ⟨t, e⟩ := He.int_ok X G (fact_of c (by unfold fa; simp only [List.mem_append]; exact .inr (List.mem_map_of_mem (f := fun p : Str × Int => He.Fa.int p.1 p.2) m)))
  exact ⟨_, e, t, rfl⟩
theorem mk_ {base : Heap} (c : He.SaysD fa fn K) (X : K.In h) (G : h.Ns mainGlobals mg) (O : Own K) : MakX PX w K mg base 1 "InvalidText" (He.ga K "InvalidText") ["place"] (spXr (He.ga K "InvalidText") (I1 "place")) := by
  obtain ⟨q0, q⟩ := Bool.and_eq_true_iff.mp O.e1
  obtain ⟨q1, q2⟩ := Bool.and_eq_true_iff.mp q
  have ox := oex_of q1
  obtain ⟨cda, oc, od, kV, doc, pm, ct, an, osl, T, iC, tI, lk⟩ := su_of (P := PX) (mg := mg) (N := ["self", "place"]) (ps := ["self", "place"]) ox O.f_ q2 sc_InvalidText ⟨_, rfl, rfl⟩ ⟨_, rfl, rfl⟩ (by decide +kernel) (fre c X G (by decide))
  refine ⟨_, _, ok_InvalidText T O.e4 lk, glo c X G (by decide), ox, iC, tI, fun s us hl => ?_, fun s u us hl => ?_⟩
  · exact match us, hl with | [_, _], _ => .of_eq rfl
  · exact match us, hl with | [_], _ => .of_eq rfl
theorem facts {f : Addr} (X : K.In h) (G : h.Ns mainGlobals mg) (hfa : mg ("law" : Str) = some (.ref f)) (c : He.SaysD fa fn K) (O : Own K) :
    ∃ fd : FuncData, (∀ (s : Shared) (v : Value), BindsTo s fd ⟨[v], []⟩ [("script", v)]) ∧ ∀ base : Heap, K.In base → base.Ns mainGlobals mg → FnG PX w K mg base 22 f fd ["script"] (spE (C_law K)) := by
  have TX : Tx mg := ⟨fre c X G (by decide), fre c X G (by decide), fre c X G (by decide), fre c X G (by decide), fre c X G (by decide), fre c X G (by decide), fre c X G (by decide), fre c X G (by decide)⟩
  have KX : Kx mg := { TX with z_enumerate := fre c X G (by decide), z_zip := fre c X G (by decide), z_sum := fre c X G (by decide), z_max := fre c X G (by decide), g_MOST_ENTRIES := int_ c X G (by decide), g_MOST_DIGITS := int_ c X G (by decide), g_GREATEST_LEVEL := int_ c X G (by decide) }
  have xf := (exc_of (Bool.and_eq_true_iff.mp O.e1).1).2
  obtain ⟨d0, F0⟩ := c.def_ 0 rfl
  obtain ⟨d1, F1⟩ := c.def_ 1 rfl
  obtain ⟨d2, F2⟩ := c.def_ 2 rfl
  obtain ⟨d3, F3⟩ := c.def_ 3 rfl
  obtain ⟨d4, F4⟩ := c.def_ 4 rfl
  obtain ⟨d5, F5⟩ := c.def_ 5 rfl
  obtain ⟨d6, F6⟩ := c.def_ 6 rfl
  obtain ⟨d7, F7⟩ := c.def_ 7 rfl
  obtain ⟨d8, F8⟩ := c.def_ 8 rfl
  obtain ⟨d9, F9⟩ := c.def_ 9 rfl
  obtain ⟨d10, F10⟩ := c.def_ 10 rfl
  obtain ⟨d11, F11⟩ := c.def_ 11 rfl
  obtain ⟨d12, F12⟩ := c.def_ 12 rfl
  obtain ⟨d13, F13⟩ := c.def_ 13 rfl
  obtain ⟨d14, F14⟩ := c.def_ 14 rfl
  obtain ⟨d15, F15⟩ := c.def_ 15 rfl
  obtain ⟨d16, F16⟩ := c.def_ 16 rfl
  obtain ⟨d17, F17⟩ := c.def_ 17 rfl
  obtain ⟨d18, F18⟩ := c.def_ 18 rfl
  obtain ⟨d19, F19⟩ := c.def_ 19 rfl
  have G0 : FnP K "write_column" s_write_column (He.ga K "write_column") d0 := F0
  have G1 : FnP K "read_column" s_read_column (He.ga K "read_column") d1 := F1
  have G2 : FnP K "plain_number" s_plain_number (He.ga K "plain_number") d2 := F2
  have G3 : FnP K "_signed_number" s__signed_number (He.ga K "_signed_number") d3 := F3
  have G4 : FnP K "_entry_text" s__entry_text (He.ga K "_entry_text") d4 := F4
  have G5 : FnP K "_entry_in" s__entry_in (He.ga K "_entry_in") d5 := F5
  have G6 : FnP K "_law_flask" s__law_flask (He.ga K "_law_flask") d6 := F6
  have G7 : FnP K "_law_drip" s__law_drip (He.ga K "_law_drip") d7 := F7
  have G8 : FnP K "_law_amount" s__law_amount (He.ga K "_law_amount") d8 := F8
  have G9 : FnP K "_law_tree" s__law_tree (He.ga K "_law_tree") d9 := F9
  have G10 : FnP K "_law_object" s__law_object (He.ga K "_law_object") d10 := F10
  have G11 : FnP K "_law_docs" s__law_docs (He.ga K "_law_docs") d11 := F11
  have G12 : FnP K "_law_many" s__law_many (He.ga K "_law_many") d12 := F12
  have G13 : FnP K "_law_streams" s__law_streams (He.ga K "_law_streams") d13 := F13
  have G14 : FnP K "_law_sheets" s__law_sheets (He.ga K "_law_sheets") d14 := F14
  have G15 : FnP K "_law_line" s__law_line (He.ga K "_law_line") d15 := F15
  have G16 : FnP K "_law_entry" s__law_entry (He.ga K "_law_entry") d16 := F16
  have G17 : FnP K "_law_right" s__law_right (He.ga K "_law_right") d17 := F17
  have G18 : FnP K "_law_place" s__law_place (He.ga K "_law_place") d18 := F18
  have G19 : FnP K "law" s_law (He.ga K "law") d19 := F19
  have b0 : Binds K d0 ["column"] [] := G0.bindsN fun _ _ _ _ _ _ us hl => match us, hl with | [_], _ => rfl
  have b1 : Binds K d1 ["text"] [] := G1.bindsN fun _ _ _ _ _ _ us hl => match us, hl with | [_], _ => rfl
  have b2 : Binds K d2 ["word"] [] := G2.bindsN fun _ _ _ _ _ _ us hl => match us, hl with | [_], _ => rfl
  have b3 : Binds K d3 ["word"] [] := G3.bindsN fun _ _ _ _ _ _ us hl => match us, hl with | [_], _ => rfl
  have b4 : Binds K d4 ["entry"] [] := G4.bindsN fun _ _ _ _ _ _ us hl => match us, hl with | [_], _ => rfl
  have b5 : Binds K d5 ["word"] [] := G5.bindsN fun _ _ _ _ _ _ us hl => match us, hl with | [_], _ => rfl
  have b6 : Binds K d6 ["script"] [] := G6.bindsN fun _ _ _ _ _ _ us hl => match us, hl with | [_], _ => rfl
  have b7 : Binds K d7 ["flask", "many"] [] := G7.bindsN fun _ _ _ _ _ _ us hl => match us, hl with | [_, _], _ => rfl
  have b8 : Binds K d8 ["flask", "wide"] [] := G8.bindsN fun _ _ _ _ _ _ us hl => match us, hl with | [_, _], _ => rfl
  have b9 : Binds K d9 ["flask", "many", "opens"] [] := G9.bindsN fun _ _ _ _ _ _ us hl => match us, hl with | [_, _, _], _ => rfl
  have b10 : Binds K d10 ["flask", "tree", "deep"] [] := G10.bindsN fun _ _ _ _ _ _ us hl => match us, hl with | [_, _, _], _ => rfl
  have b11 : Binds K d11 ["flask", "tree", "many"] [] := G11.bindsN fun _ _ _ _ _ _ us hl => match us, hl with | [_, _, _], _ => rfl
  have b12 : Binds K d12 ["tree"] [] := G12.bindsN fun _ _ _ _ _ _ us hl => match us, hl with | [_], _ => rfl
  have b13 : Binds K d13 ["tree", "thing_here", "first", "lists", "opens"] [] := G13.bindsN fun _ _ _ _ _ _ us hl => match us, hl with | [_, _, _, _, _], _ => rfl
  have b14 : Binds K d14 ["tree", "docs"] [] := G14.bindsN fun _ _ _ _ _ _ us hl => match us, hl with | [_, _], _ => rfl
  have b15 : Binds K d15 ["sheet"] [] := G15.bindsN fun _ _ _ _ _ _ us hl => match us, hl with | [_], _ => rfl
  have b16 : Binds K d16 ["flask"] [] := G16.bindsN fun _ _ _ _ _ _ us hl => match us, hl with | [_], _ => rfl
  have b17 : Binds K d17 ["sheet"] [] := G17.bindsN fun _ _ _ _ _ _ us hl => match us, hl with | [_], _ => rfl
  have b18 : Binds K d18 ["line"] [] := G18.bindsN fun _ _ _ _ _ _ us hl => match us, hl with | [_], _ => rfl
  have b19 := FunD.bindsA (ps := ["script"]) G19 fun _ _ _ _ _ _ us hl => match us, hl with | [_], _ => rfl
  have kr0 : KRev K d0 ["column"] ["column"] := by
    obtain ⟨oc, od, dV, kV, doc, pm, an, cdv, ct, osl, rfl, lk, hcd, hD, _⟩ := G0.ex
    rcases hD with ⟨_, rfl⟩ | ⟨e, _⟩
    · exact fun s ws _ hl => match ws, hl with | [_], _ => .of_eq rfl
    · exact absurd rfl e
  have kr1 : KRev K d1 ["text"] ["text"] := by
    obtain ⟨oc, od, dV, kV, doc, pm, an, cdv, ct, osl, rfl, lk, hcd, hD, _⟩ := G1.ex
    rcases hD with ⟨_, rfl⟩ | ⟨e, _⟩
    · exact fun s ws _ hl => match ws, hl with | [_], _ => .of_eq rfl
    · exact absurd rfl e
  have g := fun x hx => glo c X G (x := x) hx
  have el := hfa.symm.trans (g "law" (by decide))
  cases el
  refine ⟨d19, fun s v => b19 s [v] rfl, fun base _ _ => ?_⟩
  have cal : ∀ {x : Str} {st : Stmt} {fd : FuncData} {ps : List Str} {k : Nat} {sp : L2.Sp}, FnP K x st (He.ga K x) fd → Binds K fd ps [] → x ∈ gls → FnOk PX w K mg base CX0 k (He.ga K x) fd ps sp → Cal PX w K mg base k x sp := fun {x st fd ps k sp} F b m q => ⟨_, fd, ps, q, g x m, F.kp, b⟩
  have cFlask := cal G6 b6 (by decide) (ok_flask (base := base) (P := PX) (w := w) TX G6)
  have cDrip := cal G7 b7 (by decide) (ok_drip (base := base) (P := PX) (w := w) (mg := mg) G7)
  have cAmount := cal G8 b8 (by decide) (ok_amount cDrip G8)
  have cTree := cal G9 b9 (by decide) (ok_tree KX G9 G9.kp (g _ (by decide)) b9 cDrip 7)
  have cObject := cal G10 b10 (by decide) (ok_object KX G10 G10.kp (g _ (by decide)) b10 cDrip cAmount 7)
  have cDocs := cal G11 b11 (by decide) (ok_docs (N := 7) KX G11 cObject)
  have cMany := cal G12 b12 (by decide) (ok_many (base := base) (P := PX) (w := w) KX G12 G12.kp (g _ (by decide)) b12 9)
  have cStreams := cal G13 b13 (by decide) (ok_streams KX G13 G13.kp (g _ (by decide)) b13 cMany 9 (by decide))
  have cSheets := cal G14 b14 (by decide) (ok_sheets KX G14 cMany cStreams)
  have cLine := cal G15 b15 (by decide) (ok_line (base := base) (P := PX) (w := w) TX G15)
  have cEt := cal G4 b4 (by decide) (ok_et (base := base) (P := PX) (w := w) (mg := mg) G4)
  have oWc := ok_wc cEt G0
  have cWc := cal G0 b0 (by decide) (oWc)
  have cPlain := cal G2 b2 (by decide) (ok_plain (base := base) (P := PX) (w := w) KX G2)
  have cSigned := cal G3 b3 (by decide) (ok_signed KX cPlain G3)
  have cEi := cal G5 b5 (by decide) (ok_ei KX cPlain cSigned G5)
  have oRc := ok_rc KX cEi (mk_ c X G O) G1
  have cRc : CalU PX w K mg base 4 "read_column" (spUF C_rc (He.ga K "InvalidText") "place" B_rc) := ⟨_, _, _, oRc, g _ (by decide), G1.kp, b1⟩
  have cRcK : CalKU PX w K mg base 4 "read_column" ["text"] (spUF C_rc (He.ga K "InvalidText") "place" B_rc) := ⟨_, _, _, oRc, g _ (by decide), G1.kp, kr1⟩
  have cWcK : CalK PX w K mg base 2 "write_column" ["column"] (spE C_wc) := ⟨_, _, _, oWc, g _ (by decide), G0.kp, kr0⟩
  have cPlace := cal G18 b18 (by decide) (ok_place cRc (g _ (by decide)) O.e5 xf O.e4 G18)
  have cEntry := cal G16 b16 (by decide) (ok_entry cDrip cAmount G16)
  have cRight : CalG PX w K mg base 5 "_law_right" (spE C_right) := ⟨_, _, _, ok_right TX cLine cWc cWcK cRc cRcK G17, g _ (by decide), G17.kp, b17⟩
  exact ok_law KX cFlask cDrip cEntry cTree cDocs cSheets cLine cWc cRight cPlace cRc G19
end
end Lz
section
set_option Elab.async false
set_option maxRecDepth 100000
set_option maxHeartbeats 0
open PySem W PyProof Rows
open_top hd for PySem.Challenge.rw_levelcolumns_k81_columns_written_and_rea
end
set_option Elab.async false
set_option linter.all false
set_option maxRecDepth 100000
set_option maxHeartbeats 0
namespace Lz
open PySem PySem.Spec PyProof.Rows L2 DL XS
theorem says4 (P : Params) : He.SaysD fa fn (hd.heap_39 P) := by
  show He.obsD fa fn (hd.heap_39 P) = He.valD fn
  kernel_rfl
theorem own4 (P : Params) : Own (hd.heap_39 P) where
  e1 := by kernel_rfl
  e4 := by kernel_rfl
  e5 := by kernel_rfl
  f_ := by kernel_rfl
end Lz
open PySem PySem.W PyProof.Rows in
theorem PySem.Challenge.cw_levelcolumns_k81_columns_written_and_rea_holds : PySem.Challenge.rw_levelcolumns_k81_columns_written_and_rea.Holds := by
  refine hd (DL.walkG (l := PySem.Challenge.rw_levelcolumns_k81_columns_written_and_rea) (n := 63) (k := 22) (px := "script") (KP := hd.heap_39) (pr := fun K => DL.spE (Lz.C_law K)) rfl (by decide) rfl ⟨rfl, by decide, by decide⟩ (fun w h Y => PySem.W.kIn_of Y) ?F fun K H a ns h1 h2 => Lz.law_sp K H a ns h1 h2)
  intro w mg f h X G hm
  exact Lz.facts X G hm (Lz.says4 _) (Lz.own4 _)
#print axioms PySem.Challenge.cw_levelcolumns_k81_columns_written_and_rea_holds
