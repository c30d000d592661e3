import PyProof.Rows.All
import Wide.All
import OpenK.AllK
import Wide.FinOn
import HandS.ForMost
import HandS.ForExc
import HandS.Walk
import HandS.Style
import HandS.Defaults
import HandS.Conv
import HandS.Codes
import HandS.Steps
import HandS.ExcInit
import HandS.ExcSuper
import KE.KExcSuper
import KE.KSuper
import HandS.ExcIs
import HandS.ExcField
import HandS.IsInst
import HandS.ExcValue
import KE.KExcIs
import PyProof.InstNe
import HandS.Dict
import HandS.MakeKwOnly
import HandS.HeadHook1
import HandS.FStr
import HandS.Star
import PyProof.ReprRoads
import HandS.Wide
import HandS.More
import KE.GoesEnum
import KE.GoesMore
import KE.GoesZip
import KE.KIndexOf
import KE.KDictZip
import OpenK.KOps
import PyProof.TypeEq
import HandS.SetFor
import HandS.Set
import HandS.HeadHook2
import PySem.Challenge.RW_levelcolumns_k43_nodes_that_asks_need
set_option Elab.async false
set_option linter.all false
set_option Elab.async false
set_option linter.all false
set_option maxRecDepth 100000
set_option maxHeartbeats 4000000
/-! DL: data over the hand layer. D: what a value is (immutable view); Rep: how the frozen heap bears it; En: what a slot holds; Good: the state of a def's body against its entry. -/
namespace DL
open PySem PySem.Spec PyProof.Rows L2

inductive D where
  | non | bl (b : Bool) | int (i : Int) | str (x : Str) | ref (a : Addr) | ty (n : String)
  | lst (ds : List D) | tup (ds : List D)
  | obj (C : Addr) (fs : List (Str × D))
  | scr (a : Addr) (ns : List Int) (p : Prop)
  | dct (kvs : List (Str × D))
  | dki (p : Int → Bool)
  | opq (p : Hp → V → Prop)

/-- an entry of a dict with text keys -/
def kvV (p : Str × V) : Key × V := (.inr p.1, p.2)
mutual
def Rep (F : Hp) : D → V → Prop
  | .non, v => v = .non
  | .bl b, v => v = .bl b
  | .int i, v => v = .int i
  | .str x, v => v = .str x
  | .ref a, v => v = .ref a
  | .ty n, v => v = .ty n
  | .lst ds, v => ∃ a xs, v = .ref a ∧ F a = some (.lst xs) ∧ Reps F ds xs
  | .tup ds, v => ∃ a xs, v = .ref a ∧ F a = some (.tup xs) ∧ Reps F ds xs
  | .obj C fs, v => ∃ a dx xs, v = .ref a ∧ F a = some (.ins C dx xs) ∧ RepF F fs xs
  | .scr a ns p, v => v = .ref a ∧ (F a = some (.lst (ns.map V.int)) ∨ (∃ o, F a = some (.frz o (.lst (ns.map V.int)))) ∨ p)
  | .dct kvs, v => ∃ a xs, v = .ref a ∧ F a = some (.dK (xs.map kvV)) ∧ RepF F kvs xs
  | .dki p, v => ∃ a kvs, v = .ref a ∧ F a = some (.dK kvs) ∧ ∀ i : Int, (valV kvs (Sum.inl i : Key)).isSome = p i
  | .opq p, v => ∃ F0 : Hp, (∀ a o, F0 a = some o → F a = some o) ∧ p F0 v
def Reps (F : Hp) : List D → List V → Prop
  | [], xs => xs = []
  | d :: ds, xs => ∃ v r, xs = v :: r ∧ Rep F d v ∧ Reps F ds r
def RepF (F : Hp) : List (Str × D) → List (Str × V) → Prop
  | [], xs => xs = []
  | (f, d) :: ds, xs => ∃ v r, xs = (f, v) :: r ∧ Rep F d v ∧ RepF F ds r
end
variable {K : PySem.W.Frag}

/-- the frozen heap grows -/
abbrev Ex (H H' : Hp) : Prop := ∀ a o, H a = some o → H' a = some o
theorem Ex.refl (H : Hp) : Ex H H := fun _ _ h => h
theorem Ex.trans {H H1 H2 : Hp} (a : Ex H H1) (b : Ex H1 H2) : Ex H H2 := fun x o h => b x o (a x o h)
theorem Ex.new {H : Hp} {p : Addr} {o : HO} (h : H p = none) : Ex H (upd H p o) := fun a u e => by
  rw [upd_ne (ne_of_none e h)]
  exact e
theorem ex_rd {H H' : Hp} {a : Addr} {u : HO} (e : Ex H H') (h : Rd H a u) : Rd H' a u := by
  rcases h with h | ⟨o, h⟩
  · exact Or.inl (e a _ h)
  · exact Or.inr ⟨o, e a _ h⟩
theorem ex_l {H H' : Hp} {a : Addr} {xs : List V} (e : Ex H H') (h : SqL K H a xs) : SqL K H' a xs := by
  rcases h with h | h
  · exact Or.inl (ex_rd e h)
  · exact Or.inr h
theorem ex_t {H H' : Hp} {a : Addr} {xs : List V} (e : Ex H H') (h : SqT K H a xs) : SqT K H' a xs := by
  rcases h with h | h
  · exact Or.inl (ex_rd e h)
  · exact Or.inr h
mutual
theorem Rep.mono {F F' : Hp} (e : Ex F F') : ∀ {d : D} {v : V}, Rep F d v → Rep F' d v
  | .non, _, h => h
  | .bl _, _, h => h
  | .int _, _, h => h
  | .str _, _, h => h
  | .ref _, _, h => h
  | .ty _, _, h => h
  | .lst ds, _, ⟨a, xs, h1, h2, h3⟩ => ⟨a, xs, h1, e _ _ h2, Reps.mono e h3⟩
  | .tup ds, _, ⟨a, xs, h1, h2, h3⟩ => ⟨a, xs, h1, e _ _ h2, Reps.mono e h3⟩
  | .obj C fs, _, ⟨a, dx, xs, h1, h2, h3⟩ => ⟨a, dx, xs, h1, e _ _ h2, RepF.mono e h3⟩
  | .scr a ns p, _, ⟨h1, h2⟩ => ⟨h1, h2.imp (e _ _) (fun h => h.imp (fun ⟨o, q⟩ => ⟨o, e _ _ q⟩) fun q => q)⟩
  | .dct kvs, _, ⟨a, xs, h1, h2, h3⟩ => ⟨a, xs, h1, e _ _ h2, RepF.mono e h3⟩
  | .dki p, _, ⟨a, kvs, h1, h2, h3⟩ => ⟨a, kvs, h1, e _ _ h2, h3⟩
  | .opq p, _, ⟨F0, h1, h2⟩ => ⟨F0, fun a o z => e _ _ (h1 a o z), h2⟩
theorem Reps.mono {F F' : Hp} (e : Ex F F') : ∀ {ds : List D} {xs : List V}, Reps F ds xs → Reps F' ds xs
  | [], _, h => h
  | _ :: _, _, ⟨v, r, h1, h2, h3⟩ => ⟨v, r, h1, Rep.mono e h2, Reps.mono e h3⟩
theorem RepF.mono {F F' : Hp} (e : Ex F F') : ∀ {ds : List (Str × D)} {xs : List (Str × V)}, RepF F ds xs → RepF F' ds xs
  | [], _, h => h
  | (_, _) :: _, _, ⟨v, r, h1, h2, h3⟩ => ⟨v, r, h1, Rep.mono e h2, RepF.mono e h3⟩
end
theorem Reps.length {F : Hp} : ∀ {ds : List D} {xs : List V}, Reps F ds xs → xs.length = ds.length
  | [], _, h => by cases h; rfl
  | _ :: _, _, ⟨v, r, h1, _, h3⟩ => by cases h1; simp [Reps.length h3]
theorem Reps.get {F : Hp} : ∀ {ds : List D} {xs : List V} {i : Nat} {d : D}, Reps F ds xs → ds[i]? = some d → ∃ v, xs[i]? = some v ∧ Rep F d v
  | [], _, _, _, _, e => by simp at e
  | _ :: _, _, 0, _, ⟨v, r, h1, h2, _⟩, e => by cases h1; simp at e; subst e; exact ⟨v, rfl, h2⟩
  | _ :: _, _, i + 1, _, ⟨v, r, h1, _, h3⟩, e => by
    cases h1
    obtain ⟨u, e1, e2⟩ := Reps.get (i := i) h3 (by simpa using e)
    exact ⟨u, by simpa using e1, e2⟩
theorem Reps.get' {F : Hp} {ds : List D} {xs : List V} {i : Nat} {v : V} (h : Reps F ds xs) (e : xs[i]? = some v) : ∃ d, ds[i]? = some d ∧ Rep F d v := by
  have hi : i < ds.length := by
    rw [← h.length]
    exact (List.getElem?_eq_some_iff.mp e).1
  obtain ⟨u, e1, r⟩ := h.get (List.getElem?_eq_getElem hi)
  rw [e] at e1
  cases e1
  exact ⟨_, List.getElem?_eq_getElem hi, r⟩
theorem Reps.append {F : Hp} : ∀ {ds es : List D} {xs ys : List V}, Reps F ds xs → Reps F es ys → Reps F (ds ++ es) (xs ++ ys)
  | [], _, _, _, h, g => by cases h; exact g
  | _ :: _, _, _, _, ⟨v, r, h1, h2, h3⟩, g => by cases h1; exact ⟨v, r ++ _, rfl, h2, h3.append g⟩
theorem Reps.one {F : Hp} {d : D} {v : V} (h : Rep F d v) : Reps F [d] [v] := ⟨v, [], rfl, h, rfl⟩
theorem Reps.set {F : Hp} {d : D} {v : V} (h : Rep F d v) : ∀ {ds : List D} {xs : List V} (i : Nat), Reps F ds xs → Reps F (ds.set i d) (xs.set i v)
  | [], _, _, g => by cases g; exact rfl
  | _ :: _, _, 0, ⟨u, r, h1, h2, h3⟩ => by cases h1; exact ⟨v, r, rfl, h, h3⟩
  | _ :: _, _, i + 1, ⟨u, r, h1, h2, h3⟩ => by cases h1; exact ⟨u, r.set i v, rfl, h2, h3.set h i⟩
theorem Reps.eraseIdx {F : Hp} : ∀ {ds : List D} {xs : List V} (i : Nat), Reps F ds xs → Reps F (ds.eraseIdx i) (xs.eraseIdx i)
  | [], _, _, g => by cases g; exact rfl
  | _ :: _, _, 0, ⟨u, r, h1, h2, h3⟩ => by cases h1; exact h3
  | _ :: _, _, i + 1, ⟨u, r, h1, h2, h3⟩ => by cases h1; exact ⟨u, r.eraseIdx i, rfl, h2, h3.eraseIdx i⟩
theorem Reps.take {F : Hp} : ∀ {ds : List D} {xs : List V} (n : Nat), Reps F ds xs → Reps F (ds.take n) (xs.take n)
  | [], _, _, g => by cases g; simp [Reps]
  | _ :: _, _, 0, _ => by simp [Reps]
  | _ :: _, _, n + 1, ⟨u, r, h1, h2, h3⟩ => by cases h1; exact ⟨u, r.take n, rfl, h2, h3.take n⟩
theorem Reps.drop {F : Hp} : ∀ {ds : List D} {xs : List V} (n : Nat), Reps F ds xs → Reps F (ds.drop n) (xs.drop n)
  | [], _, _, g => by cases g; simp [Reps]
  | _ :: _, _, 0, g => g
  | _ :: _, _, n + 1, ⟨u, r, h1, h2, h3⟩ => by cases h1; exact h3.drop n
theorem Reps.reverse {F : Hp} : ∀ {ds : List D} {xs : List V}, Reps F ds xs → Reps F ds.reverse xs.reverse
  | [], _, g => by cases g; exact rfl
  | _ :: _, _, ⟨u, r, h1, h2, h3⟩ => by
    cases h1
    rw [List.reverse_cons, List.reverse_cons]
    exact h3.reverse.append (.one h2)
theorem Reps.ints {F : Hp} : ∀ (ns : List Int), Reps F (ns.map D.int) (ns.map V.int)
  | [] => rfl
  | n :: ns => ⟨_, _, rfl, rfl, Reps.ints ns⟩
theorem Reps.strs {F : Hp} : ∀ (ns : List Str), Reps F (ns.map D.str) (ns.map V.str)
  | [] => rfl
  | n :: ns => ⟨_, _, rfl, rfl, Reps.strs ns⟩
theorem Reps.strs_eq {F : Hp} : ∀ {ns : List Str} {xs : List V}, Reps F (ns.map D.str) xs → xs = ns.map V.str
  | [], _, h => h
  | n :: ns, _, ⟨v, r, h1, h2, h3⟩ => by
    cases h1
    have h2' : v = .str n := h2
    rw [h2', Reps.strs_eq h3]
    rfl
theorem Reps.ints_eq {F : Hp} : ∀ {ns : List Int} {xs : List V}, Reps F (ns.map D.int) xs → xs = ns.map V.int
  | [], _, h => h
  | n :: ns, _, ⟨v, r, h1, h2, h3⟩ => by
    cases h1
    have h2' : v = .int n := h2
    rw [h2', Reps.ints_eq h3]
    rfl
theorem RepF.lookup {F : Hp} {f : Str} {d : D} : ∀ {fs : List (Str × D)} {xs : List (Str × V)}, RepF F fs xs → fs.lookup f = some d → ∃ v, xs.lookup f = some v ∧ Rep F d v
  | [], _, _, e => by simp at e
  | (g, d') :: fs, _, ⟨v, r, h1, h2, h3⟩, e => by
    cases h1
    simp only [List.lookup] at e ⊢
    cases q : f == g with
    | true => rw [q] at e; cases e; exact ⟨v, rfl, h2⟩
    | false => rw [q] at e; exact RepF.lookup h3 e

/-! ### what a slot holds: nothing; shared (frozen) data; a list of the def's own; a list lent by the caller -/
inductive En where
  | un
  | sh (d : D)
  | own (ds : List D)
  | lent (ds : List D)

/-- the entry of a def: frozen heap, heap, the lent slots' addresses -/
structure Ct where
  F0 : Hp
  H0 : Hp
  P : Nat → Option Addr
def Ct.L (c : Ct) (a : Addr) : Prop := ∃ i, c.P i = some a

def EnOk (c : Ct) (F H : Hp) (i : Nat) (o : Option V) : En → Prop
  | .un => True
  | .sh d => ∃ v, o = some v ∧ Rep F d v
  | .own ds => ∃ a xs, o = some (.ref a) ∧ F a = none ∧ H a = some (.lst xs) ∧ Reps F ds xs ∧ c.H0 a = none
  | .lent ds => ∃ a xs, o = some (.ref a) ∧ F a = none ∧ H a = some (.lst xs) ∧ Reps F ds xs ∧ c.P i = some a
def En.mut : En → Bool
  | .own _ => true
  | .lent _ => true
  | _ => false

def En.put : En → List D → En
  | .own _, es => .own es
  | _, es => .lent es

structure Good (c : Ct) (F H : Hp) (σ : L2.St) (Γ : List En) : Prop where
  ff : Ex c.F0 F
  fh : Ex F H
  hh : ∀ a o, c.H0 a = some o → ¬ c.L a → H a = some o
  li : ∀ a, c.L a → ∃ o, H a = some o
  nw : ∀ a, F a ≠ none → c.F0 a ≠ none ∨ c.H0 a = none
  len : σ.length = Γ.length
  en : ∀ (i : Nat) (e : En), Γ[i]? = some e → ∃ o, σ[i]? = some o ∧ EnOk c F H i o e
  dj : ∀ (i j : Nat) (a : Addr) (e e' : En), Γ[i]? = some e → Γ[j]? = some e' → e.mut = true → e'.mut = true → σ[i]? = some (some (.ref a)) → σ[j]? = some (some (.ref a)) → i = j

/-- a pure step: new objects, frozen or not -/
structure Stp (F H F' H' : Hp) : Prop where
  f : Ex F F'
  h : Ex H H'
  fh : Ex F' H'
  nw : ∀ a, F' a ≠ none → F a ≠ none ∨ H a = none
theorem Stp.refl {F H : Hp} (h : Ex F H) : Stp F H F H := ⟨Ex.refl _, Ex.refl _, h, fun _ e => .inl e⟩
theorem Stp.trans {F H F1 H1 F2 H2 : Hp} (a : Stp F H F1 H1) (b : Stp F1 H1 F2 H2) : Stp F H F2 H2 := ⟨a.f.trans b.f, a.h.trans b.h, b.fh, fun x e => by
  rcases b.nw x e with z | z
  · exact a.nw x z
  · right
    cases q : H x with
    | none => rfl
    | some o => rw [a.h x o q] at z; cases z⟩
/-- a new object, frozen -/
theorem Stp.new {F H : Hp} (e : Ex F H) {p : Addr} (o : HO) (h : H p = none) : Stp F H (upd F p o) (upd H p o) := by
  have hF : F p = none := by
    cases q : F p with
    | none => rfl
    | some u => rw [e _ _ q] at h; cases h
  refine ⟨Ex.new hF, Ex.new h, fun a u q => ?_, fun a q => ?_⟩
  · by_cases z : a = p
    · subst z; rw [upd_same] at q ⊢; exact q
    · rw [upd_ne z] at q ⊢; exact e _ _ q
  · by_cases z : a = p
    · subst z; exact .inr h
    · rw [upd_ne z] at q; exact .inl q
/-- a new object, kept loose -/
theorem Stp.loose {F H : Hp} (e : Ex F H) {p : Addr} (o : HO) (h : H p = none) : Stp F H F (upd H p o) :=
  ⟨Ex.refl _, Ex.new h, e.trans (Ex.new h), fun _ q => .inl q⟩

section
variable {c : Ct} {F F' H H' : Hp} {σ : L2.St} {Γ : List En}
theorem Good.exH (G : Good c F H σ Γ) {a : Addr} {o : HO} (h : F a = some o) : H a = some o := G.fh a o h
theorem Good.sh (G : Good c F H σ Γ) {i : Nat} {d : D} (h : Γ[i]? = some (.sh d)) : ∃ v, σ[i]? = some (some v) ∧ Rep F d v := by
  obtain ⟨o, e, v, e2, r⟩ := G.en i _ h
  exact ⟨v, by rw [e, e2], r⟩
theorem Good.own (G : Good c F H σ Γ) {i : Nat} {ds : List D} (h : Γ[i]? = some (.own ds)) : ∃ a xs, σ[i]? = some (some (.ref a)) ∧ F a = none ∧ H a = some (.lst xs) ∧ Reps F ds xs ∧ c.H0 a = none := by
  obtain ⟨o, e, a, xs, e2, r⟩ := G.en i _ h
  exact ⟨a, xs, by rw [e, e2], r⟩
theorem Good.lent (G : Good c F H σ Γ) {i : Nat} {ds : List D} (h : Γ[i]? = some (.lent ds)) : ∃ a xs, σ[i]? = some (some (.ref a)) ∧ F a = none ∧ H a = some (.lst xs) ∧ Reps F ds xs ∧ c.P i = some a := by
  obtain ⟨o, e, a, xs, e2, r⟩ := G.en i _ h
  exact ⟨a, xs, by rw [e, e2], r⟩
/-- what is new to H is new to the entry -/
theorem Good.fresh (G : Good c F H σ Γ) {a : Addr} (h : H a = none) : c.H0 a = none := by
  cases q : c.H0 a with
  | none => rfl
  | some o =>
    by_cases l : c.L a
    · obtain ⟨u, e⟩ := G.li a l
      rw [h] at e; cases e
    · rw [G.hh a o q l] at h; cases h
theorem Good.step (G : Good c F H σ Γ) (S : Stp F H F' H') : Good c F' H' σ Γ where
  ff := G.ff.trans S.f
  fh := S.fh
  hh := fun a o e n => S.h a o (G.hh a o e n)
  li := fun a l => (G.li a l).imp fun o e => S.h a o e
  nw := fun a e => by
    rcases S.nw a e with z | z
    · exact G.nw a z
    · exact .inr (G.fresh z)
  len := G.len
  en := fun i e he => by
    obtain ⟨o, h1, h2⟩ := G.en i e he
    have key : ∀ a xs, F a = none → H a = some (.lst xs) → F' a = none := fun a xs e2 e3 => by
      cases q : F' a with
      | none => rfl
      | some u =>
        rcases S.nw a (by rw [q]; exact Option.some_ne_none _) with z | z
        · exact absurd e2 z
        · rw [e3] at z; cases z
    refine ⟨o, h1, ?_⟩
    cases e with
    | un => trivial
    | sh d =>
      obtain ⟨v, e1, r⟩ := h2
      exact ⟨v, e1, r.mono S.f⟩
    | own ds =>
      obtain ⟨a, xs, e1, e2, e3, e4, e5⟩ := h2
      exact ⟨a, xs, e1, key a xs e2 e3, S.h _ _ e3, e4.mono S.f, e5⟩
    | lent ds =>
      obtain ⟨a, xs, e1, e2, e3, e4, e5⟩ := h2
      exact ⟨a, xs, e1, key a xs e2 e3, S.h _ _ e3, e4.mono S.f, e5⟩
  dj := G.dj
/-- a slot gets shared data (whatever it held, but a lent list) -/
theorem Good.setSh (G : Good c F H σ Γ) {i : Nat} {d : D} {v : V} (r : Rep F d v) : Good c F H (σ.set i (some v)) (Γ.set i (.sh d)) where
  ff := G.ff
  fh := G.fh
  hh := G.hh
  li := G.li
  nw := G.nw
  len := by rw [List.length_set, List.length_set]; exact G.len
  en := fun j e he => by
    by_cases z : i = j
    · subst z
      have hl : i < Γ.length := by
        have := (List.getElem?_eq_some_iff.mp he).1
        rwa [List.length_set] at this
      rw [List.getElem?_set_self hl] at he
      cases he
      exact ⟨some v, List.getElem?_set_self (by rw [G.len]; exact hl), v, rfl, r⟩
    · rw [List.getElem?_set_ne z] at he
      obtain ⟨o, h1, h2⟩ := G.en j e he
      exact ⟨o, by rw [List.getElem?_set_ne z]; exact h1, h2⟩
  dj := fun a b x e e' h1 h2 m1 m2 h3 h4 => by
    have f : ∀ {j : Nat} {e : En}, (Γ.set i (.sh d))[j]? = some e → e.mut = true → i ≠ j := fun {j e} he m z => by
      subst z
      have hl : i < Γ.length := by
        have := (List.getElem?_eq_some_iff.mp he).1
        rwa [List.length_set] at this
      rw [List.getElem?_set_self hl] at he
      cases he
      cases m
    have za := f h1 m1
    have zb := f h2 m2
    rw [List.getElem?_set_ne za] at h1 h3
    rw [List.getElem?_set_ne zb] at h2 h4
    exact G.dj a b x e e' h1 h2 m1 m2 h3 h4
/-- a slot's entry is forgotten -/
theorem Good.setUn (G : Good c F H σ Γ) {i : Nat} {o : Option V} : Good c F H (σ.set i o) (Γ.set i .un) where
  ff := G.ff
  fh := G.fh
  hh := G.hh
  li := G.li
  nw := G.nw
  len := by rw [List.length_set, List.length_set]; exact G.len
  en := fun j e he => by
    by_cases z : i = j
    · subst z
      have hl : i < Γ.length := by
        have := (List.getElem?_eq_some_iff.mp he).1
        rwa [List.length_set] at this
      rw [List.getElem?_set_self hl] at he
      cases he
      exact ⟨o, List.getElem?_set_self (by rw [G.len]; exact hl), trivial⟩
    · rw [List.getElem?_set_ne z] at he
      obtain ⟨o, h1, h2⟩ := G.en j e he
      exact ⟨o, by rw [List.getElem?_set_ne z]; exact h1, h2⟩
  dj := fun a b x e e' h1 h2 m1 m2 h3 h4 => by
    have f : ∀ {j : Nat} {e : En}, (Γ.set i .un)[j]? = some e → e.mut = true → i ≠ j := fun {j e} he m z => by
      subst z
      have hl : i < Γ.length := by
        have := (List.getElem?_eq_some_iff.mp he).1
        rwa [List.length_set] at this
      rw [List.getElem?_set_self hl] at he
      cases he
      cases m
    have za := f h1 m1
    have zb := f h2 m2
    rw [List.getElem?_set_ne za] at h1 h3
    rw [List.getElem?_set_ne zb] at h2 h4
    exact G.dj a b x e e' h1 h2 m1 m2 h3 h4
/-- no slot holds the mutable list at a -/
def NoSlot (σ : L2.St) (Γ : List En) (a : Addr) : Prop := ∀ (j : Nat) (e : En), Γ[j]? = some e → e.mut = true → σ[j]? ≠ some (some (.ref a))
theorem Good.noSlot (G : Good c F H σ Γ) {a : Addr} (h : H a = none) : NoSlot σ Γ a := fun j e he m q => by
  obtain ⟨o, h1, h2⟩ := G.en j e he
  rw [q] at h1
  cases h1
  cases e with
  | un => cases m
  | sh d => cases m
  | own ds =>
    obtain ⟨b, xs, e1, e2, e3, _⟩ := h2
    cases e1
    rw [h] at e3; cases e3
  | lent ds =>
    obtain ⟨b, xs, e1, e2, e3, _⟩ := h2
    cases e1
    rw [h] at e3; cases e3
/-- a slot gets a list of the def's own -/
theorem Good.setOwn (G : Good c F H σ Γ) {i : Nat} {ds : List D} {a : Addr} {xs : List V} (n : NoSlot σ Γ a) (hF : F a = none) (hH : H a = some (.lst xs)) (r : Reps F ds xs) (h0 : c.H0 a = none) :
    Good c F H (σ.set i (some (.ref a))) (Γ.set i (.own ds)) where
  ff := G.ff
  fh := G.fh
  hh := G.hh
  li := G.li
  nw := G.nw
  len := by rw [List.length_set, List.length_set]; exact G.len
  en := fun j e he => by
    by_cases z : i = j
    · subst z
      have hl : i < Γ.length := by
        have := (List.getElem?_eq_some_iff.mp he).1
        rwa [List.length_set] at this
      rw [List.getElem?_set_self hl] at he
      cases he
      exact ⟨some (.ref a), List.getElem?_set_self (by rw [G.len]; exact hl), a, xs, rfl, hF, hH, r, h0⟩
    · rw [List.getElem?_set_ne z] at he
      obtain ⟨o, h1, h2⟩ := G.en j e he
      exact ⟨o, by rw [List.getElem?_set_ne z]; exact h1, h2⟩
  dj := fun p q x e e' h1 h2 m1 m2 h3 h4 => by
    have hli : ∀ {j : Nat} {e : En}, (Γ.set i (.own ds))[j]? = some e → i = j → i < σ.length := fun {j e} he z => by
      subst z
      have := (List.getElem?_eq_some_iff.mp he).1
      rw [List.length_set] at this
      rw [G.len]; exact this
    by_cases zp : i = p
    · by_cases zq : i = q
      · exact zp.symm.trans zq
      · have hl := hli h1 zp
        subst zp
        rw [List.getElem?_set_self hl] at h3
        cases h3
        rw [List.getElem?_set_ne zq] at h2 h4
        exact absurd h4 (n q e' h2 m2)
    · by_cases zq : i = q
      · have hl := hli h2 zq
        subst zq
        rw [List.getElem?_set_self hl] at h4
        cases h4
        rw [List.getElem?_set_ne zp] at h1 h3
        exact absurd h3 (n p e h1 m1)
      · rw [List.getElem?_set_ne zp] at h1 h3
        rw [List.getElem?_set_ne zq] at h2 h4
        exact G.dj p q x e e' h1 h2 m1 m2 h3 h4
/-- a loose list is frozen -/
theorem Good.freeze (G : Good c F H σ Γ) {a : Addr} {xs : List V} (n : NoSlot σ Γ a) (hF : F a = none) (hH : H a = some (.lst xs)) (h0 : c.H0 a = none) : Good c (upd F a (.lst xs)) H σ Γ := by
  have e0 : Ex F (upd F a (.lst xs)) := Ex.new hF
  refine ⟨G.ff.trans e0, fun b o q => ?_, G.hh, G.li, fun b q => ?_, G.len, fun i e he => ?_, G.dj⟩
  · by_cases z : b = a
    · subst z; rw [upd_same] at q; cases q; exact hH
    · rw [upd_ne z] at q; exact G.fh _ _ q
  · by_cases z : b = a
    · subst z; exact .inr h0
    · rw [upd_ne z] at q; exact G.nw _ q
  · obtain ⟨o, h1, h2⟩ := G.en i e he
    refine ⟨o, h1, ?_⟩
    cases e with
    | un => trivial
    | sh d =>
      obtain ⟨v, e1, r⟩ := h2
      exact ⟨v, e1, r.mono e0⟩
    | own ds =>
      obtain ⟨b, ys, e1, e2, e3, e4, e5⟩ := h2
      have nb : b ≠ a := fun z => by
        subst z
        exact n i _ he rfl (by rw [h1, e1])
      exact ⟨b, ys, e1, by rw [upd_ne nb]; exact e2, e3, e4.mono e0, e5⟩
    | lent ds =>
      obtain ⟨b, ys, e1, e2, e3, e4, e5⟩ := h2
      have nb : b ≠ a := fun z => by
        subst z
        exact n i _ he rfl (by rw [h1, e1])
      exact ⟨b, ys, e1, by rw [upd_ne nb]; exact e2, e3, e4.mono e0, e5⟩
/-- the own list of a slot is frozen: the slot is shared from now on -/
theorem Good.freezeSlot (G : Good c F H σ Γ) {i : Nat} {ds : List D} (h : Γ[i]? = some (.own ds)) : ∃ F', Ex F F' ∧ Good c F' H σ (Γ.set i (.sh (.lst ds))) := by
  obtain ⟨a, xs, e1, e2, e3, e4, e5⟩ := G.own h
  have hi : i < Γ.length := (List.getElem?_eq_some_iff.mp h).1
  have G1 : Good c F H (σ.set i (some (.ref a))) (Γ.set i .un) := G.setUn
  have es : σ.set i (some (.ref a)) = σ := by
    apply List.ext_getElem?
    intro j
    by_cases z : i = j
    · subst z; rw [List.getElem?_set_self (by rw [G.len]; exact hi), e1]
    · rw [List.getElem?_set_ne z]
  rw [es] at G1
  have n : NoSlot σ (Γ.set i .un) a := fun j e he m q => by
    by_cases z : i = j
    · subst z
      rw [List.getElem?_set_self hi] at he
      cases he; cases m
    · rw [List.getElem?_set_ne z] at he
      exact z (G.dj i j a _ _ h he rfl m e1 q)
  have G2 := G1.freeze n e2 e3 e5
  have r : Rep (upd F a (.lst xs)) (.lst ds) (.ref a) := ⟨a, xs, rfl, upd_same, e4.mono (Ex.new e2)⟩
  have G3 := G2.setSh (i := i) r
  rw [es, List.set_set] at G3
  exact ⟨_, Ex.new e2, G3⟩
/-- a mutable slot's list changes -/
theorem Good.chg (G : Good c F H σ Γ) {i : Nat} {ds es : List D} {a : Addr} {ys : List V} {e : En} (h : Γ[i]? = some e) (he : e = .own ds ∨ e = .lent ds) (e1 : σ[i]? = some (some (.ref a))) (r : Reps F es ys) :
    Good c F (upd H a (.lst ys)) σ (Γ.set i (e.put es)) := by
  have hi : i < Γ.length := (List.getElem?_eq_some_iff.mp h).1
  have hm : e.mut = true := by rcases he with rfl | rfl <;> rfl
  have info : F a = none ∧ (∃ xs, H a = some (.lst xs)) ∧ EnOk c F (upd H a (.lst ys)) i (some (.ref a)) (e.put es) ∧ (c.L a ∨ c.H0 a = none) := by
    rcases he with rfl | rfl
    · obtain ⟨b, xs, q1, q2, q3, q4, q5⟩ := G.own h
      rw [e1] at q1; cases q1
      exact ⟨q2, ⟨xs, q3⟩, ⟨a, ys, rfl, q2, upd_same, r, q5⟩, .inr q5⟩
    · obtain ⟨b, xs, q1, q2, q3, q4, q5⟩ := G.lent h
      rw [e1] at q1; cases q1
      exact ⟨q2, ⟨xs, q3⟩, ⟨a, ys, rfl, q2, upd_same, r, q5⟩, .inl ⟨i, q5⟩⟩
  obtain ⟨hF, ⟨xs, hH⟩, hen, hl⟩ := info
  have hm' : (e.put es).mut = true := by rcases he with rfl | rfl <;> rfl
  refine ⟨G.ff, fun b o q => ?_, fun b o q n => ?_, fun b l => ?_, G.nw, by rw [List.length_set]; exact G.len, fun j f hf => ?_, fun p q x f f' h1 h2 m1 m2 h3 h4 => ?_⟩
  · have nb : b ≠ a := fun z => by subst z; rw [hF] at q; cases q
    rw [upd_ne nb]; exact G.fh _ _ q
  · have nb : b ≠ a := fun z => by
      subst z
      rcases hl with l | l
      · exact n l
      · rw [l] at q; cases q
    rw [upd_ne nb]; exact G.hh _ _ q n
  · by_cases z : b = a
    · subst z; exact ⟨_, upd_same⟩
    · rw [upd_ne z]; exact G.li _ l
  · by_cases z : i = j
    · subst z
      rw [List.getElem?_set_self hi] at hf
      cases hf
      exact ⟨_, e1, hen⟩
    · rw [List.getElem?_set_ne z] at hf
      obtain ⟨o, h1, h2⟩ := G.en j f hf
      refine ⟨o, h1, ?_⟩
      cases f with
      | un => trivial
      | sh d => exact h2
      | own ds' =>
        obtain ⟨b, zs, q1, q2, q3, q4, q5⟩ := h2
        have nb : b ≠ a := fun w => by
          subst w
          exact z (G.dj i j b _ _ h hf hm rfl e1 (by rw [h1, q1]))
        exact ⟨b, zs, q1, q2, by rw [upd_ne nb]; exact q3, q4, q5⟩
      | lent ds' =>
        obtain ⟨b, zs, q1, q2, q3, q4, q5⟩ := h2
        have nb : b ≠ a := fun w => by
          subst w
          exact z (G.dj i j b _ _ h hf hm rfl e1 (by rw [h1, q1]))
        exact ⟨b, zs, q1, q2, by rw [upd_ne nb]; exact q3, q4, q5⟩
  · have back : ∀ {j : Nat} {f : En}, (Γ.set i (e.put es))[j]? = some f → f.mut = true → ∃ g, Γ[j]? = some g ∧ g.mut = true := fun {j f} hf m => by
      by_cases z : i = j
      · subst z; exact ⟨e, h, hm⟩
      · rw [List.getElem?_set_ne z] at hf; exact ⟨f, hf, m⟩
    obtain ⟨g, hg, mg⟩ := back h1 m1
    obtain ⟨g', hg', mg'⟩ := back h2 m2
    exact G.dj p q x g g' hg hg' mg mg' h3 h4
end
end DL
set_option Elab.async false
set_option linter.all false
set_option maxRecDepth 100000
set_option maxHeartbeats 4000000
/-! DL2: judgements over data: expressions (pure, fresh, with effects), tests, arguments, statements, loops, comprehensions, calls. -/
namespace DL
open PySem PySem.Spec PyProof.Rows L2
section
/-- te is the data d, nothing that stood changes -/
def EvP (te : TE) (Γ : List En) (d : D) : Prop := ∀ c F H σ, Good c F H σ Γ → ∀ Q : VK, (∀ v F' H', Stp F H F' H' → Rep F' d v → Q v H') → te σ H Q
/-- te is a new list, loose as yet -/
def EvF (te : TE) (Γ : List En) (ds : List D) : Prop := ∀ c F H σ, Good c F H σ Γ → ∀ Q : VK, (∀ a xs F' H', Stp F H F' H' → H a = none → F' a = none → H' a = some (.lst xs) → Reps F' ds xs → Q (.ref a) H') → te σ H Q
/-- what stands apart from the slots' lists stays as it is -/
def Fr (σ : L2.St) (Γ Γ' : List En) (F H F' H' : Hp) : Prop := ∀ a o, H a = some o → NoSlot σ Γ a → H' a = some o ∧ (F a = none → F' a = none) ∧ NoSlot σ Γ' a
theorem Fr.stp {σ : L2.St} {Γ : List En} {F H F' H' : Hp} (S : Stp F H F' H') : Fr σ Γ Γ F H F' H' := fun a o e n => by
  refine ⟨S.h a o e, fun f => ?_, n⟩
  cases q : F' a with
  | none => rfl
  | some u =>
    rcases S.nw a (by rw [q]; exact Option.some_ne_none _) with z | z
    · exact absurd f z
    · rw [e] at z; cases z
theorem Fr.trans {σ : L2.St} {Γ Γ1 Γ2 : List En} {F H F1 H1 F2 H2 : Hp} (x : Fr σ Γ Γ1 F H F1 H1) (y : Fr σ Γ1 Γ2 F1 H1 F2 H2) : Fr σ Γ Γ2 F H F2 H2 := fun a o e n => by
  obtain ⟨h1, h2, h3⟩ := x a o e n
  obtain ⟨k1, k2, k3⟩ := y a o h1 h3
  exact ⟨k1, fun f => k2 (h2 f), k3⟩
/-- te gives some d and turns the slots' lists to Γ', as R says -/
def EvW (te : TE) (Γ : List En) (R : D → List En → Prop) : Prop := ∀ c F H σ, Good c F H σ Γ → ∀ Q : VK, (∀ v d Γ' F' H', R d Γ' → Good c F' H' σ Γ' → Ex F F' → Fr σ Γ Γ' F H F' H' → Rep F' d v → Q v H') → te σ H Q
def EtP (tt : TT) (Γ : List En) (b : Bool) : Prop := ∀ c F H σ, Good c F H σ Γ → ∀ Q : Bool → Hp → Prop, (∀ F' H', Stp F H F' H' → Q b H') → tt σ H Q
def EtW (tt : TT) (Γ : List En) (R : Bool → List En → Prop) : Prop := ∀ c F H σ, Good c F H σ Γ → ∀ Q : Bool → Hp → Prop, (∀ b Γ' F' H', R b Γ' → Good c F' H' σ Γ' → Ex F F' → Q b H') → tt σ H Q
def EaP (ta : TA) (Γ : List En) (ds : List D) : Prop := ∀ c F H σ, Good c F H σ Γ → ∀ Q : List V → Hp → Prop, (∀ vs F' H', Stp F H F' H' → Reps F' ds vs → Q vs H') → ta σ H Q
def EoP (to : TO) (Γ : List En) (o : Option Int) : Prop := ∀ c F H σ, Good c F H σ Γ → ∀ Q : Option Int → Hp → Prop, (∀ F' H', Stp F H F' H' → Q o H') → to σ H Q
/-- an operation on two values; a call or method's rule on values -/
def RD (r : R2) (x y z : D) : Prop := ∀ F H vx vy, Ex F H → Rep F x vx → Rep F y vy → ∀ Q : VK, (∀ v F' H', Stp F H F' H' → Rep F' z v → Q v H') → r vx vy H Q
def RDF (r : R2) (x y : D) (zs : List D) : Prop := ∀ F H vx vy, Ex F H → Rep F x vx → Rep F y vy → ∀ Q : VK, (∀ a xs F' H', Stp F H F' H' → H a = none → F' a = none → H' a = some (.lst xs) → Reps F' zs xs → Q (.ref a) H') → r vx vy H Q
def RC (r : List V → Hp → VK → Prop) (ds : List D) (z : D) : Prop := ∀ F H vs, Ex F H → Reps F ds vs → ∀ Q : VK, (∀ v F' H', Stp F H F' H' → Rep F' z v → Q v H') → r vs H Q
def RCF (r : List V → Hp → VK → Prop) (ds : List D) (zs : List D) : Prop := ∀ F H vs, Ex F H → Reps F ds vs → ∀ Q : VK, (∀ a xs F' H', Stp F H F' H' → H a = none → F' a = none → H' a = some (.lst xs) → Reps F' zs xs → Q (.ref a) H') → r vs H Q
end
section
variable {K : PySem.W.Frag} {Γ Γ' : List En} {te ta tb : TE} {tt tu : TT} {d x y z : D} {ds es : List D} {R : D → List En → Prop}
theorem EvP.w (h : EvP te Γ d) (hR : R d Γ) : EvW te Γ R := fun c F H σ G Q k => h c F H σ G Q fun v F' H' S r => k v d Γ F' H' hR (G.step S) S.f (Fr.stp S) r
theorem EvP.w' (h : EvP te Γ d) : EvW te Γ (fun e Γ' => e = d ∧ Γ' = Γ) := h.w ⟨rfl, rfl⟩
theorem EvF.p (h : EvF te Γ ds) : EvP te Γ (.lst ds) := fun c F H σ G Q k => h c F H σ G Q fun a xs F' H' S n nf e r =>
  k (.ref a) (upd F' a (.lst xs)) H' ⟨S.f.trans (Ex.new nf), S.h, fun b o q => by
    by_cases z : b = a
    · subst z; rw [upd_same] at q; cases q; exact e
    · rw [upd_ne z] at q; exact S.fh _ _ q, fun b q => by
    by_cases z : b = a
    · subst z; exact .inr n
    · rw [upd_ne z] at q; exact S.nw _ q⟩ ⟨a, xs, rfl, upd_same, r.mono (Ex.new nf)⟩
theorem RC.cast {r : List V → Hp → VK → Prop} (h : RC r ds x) (e : x = y) : RC r ds y := e ▸ h
theorem EvP.cast (h : EvP te Γ x) (e : x = y) : EvP te Γ y := e ▸ h
theorem EvF.cast (h : EvF te Γ ds) (e : ds = es) : EvF te Γ es := e ▸ h
theorem EtP.cast {a b : Bool} (h : EtP tt Γ a) (e : a = b) : EtP tt Γ b := e ▸ h
/-! ### pure expressions -/
theorem ep_var {i : Nat} (h : Γ[i]? = some (.sh d)) : EvP (tVar i) Γ d := fun c F H σ G Q k => by
  obtain ⟨v, e, r⟩ := G.sh h
  exact ⟨v, e, k v F H (.refl G.fh) r⟩
theorem ep_int {i : Int} : EvP (tC (.int i)) Γ (.int i) := fun c F H σ G Q k => k _ F H (.refl G.fh) rfl
theorem ep_str {i : Str} : EvP (tC (.str i)) Γ (.str i) := fun c F H σ G Q k => k _ F H (.refl G.fh) rfl
theorem ep_bl {i : Bool} : EvP (tC (.bl i)) Γ (.bl i) := fun c F H σ G Q k => k _ F H (.refl G.fh) rfl
theorem ep_non : EvP (tC .non) Γ .non := fun c F H σ G Q k => k _ F H (.refl G.fh) rfl
theorem ep_ref {a : Addr} : EvP (tC (.ref a)) Γ (.ref a) := fun c F H σ G Q k => k _ F H (.refl G.fh) rfl
theorem ep_ty {a : String} : EvP (tC (.ty a)) Γ (.ty a) := fun c F H σ G Q k => k _ F H (.refl G.fh) rfl
theorem ep_op {r : R2} (ha : EvP ta Γ x) (hb : EvP tb Γ y) (hr : RD r x y z) : EvP (tOp r ta tb) Γ z := fun c F H σ G Q k =>
  ha c F H σ G _ fun v F1 H1 S1 r1 => hb c F1 H1 σ (G.step S1) _ fun u F2 H2 S2 r2 =>
    hr F2 H2 v u S2.fh (r1.mono S2.f) r2 Q fun w F3 H3 S3 r3 => k w F3 H3 (S1.trans (S2.trans S3)) r3
theorem ef_op {r : R2} (ha : EvP ta Γ x) (hb : EvP tb Γ y) (hr : RDF r x y ds) : EvF (tOp r ta tb) Γ ds := fun c F H σ G Q k =>
  ha c F H σ G _ fun v F1 H1 S1 r1 => hb c F1 H1 σ (G.step S1) _ fun u F2 H2 S2 r2 =>
    hr F2 H2 v u S2.fh (r1.mono S2.f) r2 Q fun a xs F3 H3 S3 n nf e r3 => k a xs F3 H3 (S1.trans (S2.trans S3)) (by
      cases q : H a with
      | none => rfl
      | some o => rw [S2.h _ _ (S1.h _ _ q)] at n; cases n) nf e r3
theorem ea_nil : EaP tNil Γ [] := fun c F H σ G Q k => k [] F H (.refl G.fh) rfl
theorem ea_cons {tr : TA} (ha : EvP ta Γ x) (hr : EaP tr Γ ds) : EaP (tCons ta tr) Γ (x :: ds) := fun c F H σ G Q k =>
  ha c F H σ G _ fun v F1 H1 S1 r1 => hr c F1 H1 σ (G.step S1) _ fun vs F2 H2 S2 r2 => k (v :: vs) F2 H2 (S1.trans S2) ⟨v, vs, rfl, r1.mono S2.f, r2⟩
theorem ep_cb {r : List V → Hp → VK → Prop} {t : TA} (ha : EaP t Γ ds) (hr : RC r ds z) : EvP (tCB r t) Γ z := fun c F H σ G Q k =>
  ha c F H σ G _ fun vs F1 H1 S1 r1 => hr F1 H1 vs S1.fh r1 Q fun v F2 H2 S2 r2 => k v F2 H2 (S1.trans S2) r2
theorem ef_cb {r : List V → Hp → VK → Prop} {t : TA} (ha : EaP t Γ ds) (hr : RCF r ds es) : EvF (tCB r t) Γ es := fun c F H σ G Q k =>
  ha c F H σ G _ fun vs F1 H1 S1 r1 => hr F1 H1 vs S1.fh r1 Q fun a xs F2 H2 S2 n nf e r2 => k a xs F2 H2 (S1.trans S2) (by
      cases q : H a with
      | none => rfl
      | some o => rw [S1.h _ _ q] at n; cases n) nf e r2
theorem ep_tup {t : TA} (ha : EaP t Γ ds) (hl : ds.length ≤ sizeLine) : EvP (tTup t) Γ (.tup ds) := fun c F H σ G Q k =>
  ha c F H σ G _ fun vs F1 H1 S1 r1 => ⟨by rw [r1.length]; exact hl, fun p hp => by
    have S2 := Stp.new S1.fh (.tup vs) hp
    exact k (.ref p) _ _ (S1.trans S2) ⟨p, vs, rfl, upd_same, r1.mono S2.f⟩⟩
theorem ef_lst {t : TA} (ha : EaP t Γ ds) (hl : ds.length ≤ sizeLine) : EvF (tLst t) Γ ds := fun c F H σ G Q k =>
  ha c F H σ G _ fun vs F1 H1 S1 r1 => ⟨by rw [r1.length]; exact hl, fun p hp => by
    have S2 := Stp.loose S1.fh (.lst vs) hp
    refine k p vs _ _ (S1.trans S2) ?_ ?_ upd_same r1
    · cases q : H p with
      | none => rfl
      | some o => rw [S1.h _ _ q] at hp; cases hp
    · cases q : F1 p with
      | none => rfl
      | some o => rw [S1.fh _ _ q] at hp; cases hp⟩
theorem ep_if {b : Bool} (ht : EtP tt Γ b) (h1 : b = true → EvP ta Γ d) (h2 : b = false → EvP tb Γ d) : EvP (tIf tt ta tb) Γ d := fun c F H σ G Q k =>
  ht c F H σ G _ fun F1 H1 S1 => by
    cases b with
    | true => rw [if_pos rfl]; exact h1 rfl c F1 H1 σ (G.step S1) Q fun v F2 H2 S2 r => k v F2 H2 (S1.trans S2) r
    | false => rw [if_neg Bool.false_ne_true]; exact h2 rfl c F1 H1 σ (G.step S1) Q fun v F2 H2 S2 r => k v F2 H2 (S1.trans S2) r
theorem ep_un {r : V → Hp → VK → Prop} (ha : EvP ta Γ x) (hr : RC (fun vs H Q => ∃ v, vs = [v] ∧ r v H Q) [x] z) : EvP (tUn r ta) Γ z := fun c F H σ G Q k =>
  ha c F H σ G _ fun v F1 H1 S1 r1 => by
    obtain ⟨u, e, q⟩ := hr F1 H1 [v] S1.fh (.one r1) Q fun w F2 H2 S2 r2 => k w F2 H2 (S1.trans S2) r2
    cases e
    exact q
/-- an attribute of an instance -/
theorem ep_fld {f : Str} {C : Addr} {fs : List (Str × D)} (ha : EvP ta Γ (.obj C fs)) (hc : Cls K C) (hn : NoAttr K C f) (hf : fs.lookup f = some d) : EvP (tFld K ta f) Γ d := fun c F H σ G Q k =>
  ha c F H σ G _ fun v F1 H1 S1 r1 => by
    obtain ⟨a, dx, xs, e, h, r⟩ := r1
    obtain ⟨u, hu, ru⟩ := r.lookup hf
    exact ⟨a, C, dx, xs, u, e, S1.fh _ _ h, hc, hn, hu, k u F1 H1 S1 ru⟩
/-! ### tests -/
theorem et_test {b : Bool} (h : EvP te Γ (.bl b)) : EtP (tTest te) Γ b := fun c F H σ G Q k => h c F H σ G _ fun v F' H' S r => ⟨b, r, k F' H' S⟩
theorem et_B {b : Bool} (h : EvP te Γ (.bl b)) : EtP (tB te) Γ b := fun c F H σ G Q k => h c F H σ G _ fun v F' H' S r => ⟨b, r, k F' H' S⟩
theorem et_and {a b : Bool} (h1 : EtP tt Γ a) (h2 : a = true → EtP tu Γ b) : EtP (tAnd tt tu) Γ (a && b) := fun c F H σ G Q k => h1 c F H σ G _ fun F1 H1 S1 => by
  cases a with
  | true => rw [if_pos rfl]; exact h2 rfl c F1 H1 σ (G.step S1) Q fun F2 H2 S2 => k F2 H2 (S1.trans S2)
  | false => rw [if_neg Bool.false_ne_true]; exact k F1 H1 S1
theorem et_or {a b : Bool} (h1 : EtP tt Γ a) (h2 : a = false → EtP tu Γ b) : EtP (tOr tt tu) Γ (a || b) := fun c F H σ G Q k => h1 c F H σ G _ fun F1 H1 S1 => by
  cases a with
  | false => rw [if_neg Bool.false_ne_true]; exact h2 rfl c F1 H1 σ (G.step S1) Q fun F2 H2 S2 => k F2 H2 (S1.trans S2)
  | true => rw [if_pos rfl]; exact k F1 H1 S1
theorem et_not {a : Bool} (h1 : EtP tt Γ a) : EtP (tNot tt) Γ (!a) := fun c F H σ G Q k => h1 c F H σ G _ fun F1 H1 S1 => k F1 H1 S1
theorem et_yes : EtP tYes Γ true := fun c F H σ G Q k => k F H (.refl G.fh)
theorem ep_andV {a b : Bool} (h1 : EvP ta Γ (.bl a)) (h2 : a = true → EvP tb Γ (.bl b)) : EvP (tAndV ta tb) Γ (.bl (a && b)) := fun c F H σ G Q k => h1 c F H σ G _ fun v F1 H1 S1 r => ⟨a, r, by
  cases a with
  | true => rw [if_pos rfl]; exact h2 rfl c F1 H1 σ (G.step S1) Q fun v F2 H2 S2 r2 => k v F2 H2 (S1.trans S2) r2
  | false => rw [if_neg Bool.false_ne_true]; exact k _ F1 H1 S1 rfl⟩
theorem ep_orV {a b : Bool} (h1 : EvP ta Γ (.bl a)) (h2 : a = false → EvP tb Γ (.bl b)) : EvP (tOrV ta tb) Γ (.bl (a || b)) := fun c F H σ G Q k => h1 c F H σ G _ fun v F1 H1 S1 r => ⟨a, r, by
  cases a with
  | false => rw [if_neg Bool.false_ne_true]; exact h2 rfl c F1 H1 σ (G.step S1) Q fun v F2 H2 S2 r2 => k v F2 H2 (S1.trans S2) r2
  | true => rw [if_pos rfl]; exact k _ F1 H1 S1 rfl⟩
theorem ep_notV {a : Bool} (h1 : EvP ta Γ (.bl a)) : EvP (tNotV ta) Γ (.bl (!a)) := fun c F H σ G Q k => h1 c F H σ G _ fun v F1 H1 S1 r => ⟨a, r, k _ F1 H1 S1 rfl⟩
/-! ### operations on ints, texts, lists -/
theorem rd_I0 {g : Int → Int → V} {i j : Int} (hz : ∀ F, Rep F z (g i j)) : RD (rI0 g) (.int i) (.int j) z := fun F H vx vy e rx ry Q k => ⟨i, j, rx, ry, k _ F H (.refl e) (hz F)⟩
theorem rd_I {C : Int → Int → Prop} {g : Int → Int → V} {i j : Int} (hc : C i j) (hz : ∀ F, Rep F z (g i j)) : RD (rI C g) (.int i) (.int j) z := fun F H vx vy e rx ry Q k => ⟨i, j, rx, ry, hc, k _ F H (.refl e) (hz F)⟩
def scalD : D → Option V
  | .non => some .non
  | .bl b => some (.bl b)
  | .int i => some (.int i)
  | .str x => some (.str x)
  | .ty n => some (.ty n)
  | _ => none
theorem scalD_rep {F : Hp} {v w : V} : ∀ {d : D}, scalD d = some w → Rep F d v → v = w
  | .non, e, r => by cases e; exact r
  | .bl _, e, r => by cases e; exact r
  | .int _, e, r => by cases e; exact r
  | .str _, e, r => by cases e; exact r
  | .ty _, e, r => by cases e; exact r
  | .ref _, e, _ => by cases e
  | .lst _, e, _ => by cases e
  | .tup _, e, _ => by cases e
  | .obj _ _, e, _ => by cases e
  | .scr _ _ _, e, _ => by cases e
  | .dct _, e, _ => by cases e
  | .dki _, e, _ => by cases e
  | .opq _, e, _ => by cases e
theorem rep_scalD {F : Hp} {w : V} : ∀ {d : D}, scalD d = some w → Rep F d w
  | .non, e => by cases e; rfl
  | .bl _, e => by cases e; rfl
  | .int _, e => by cases e; rfl
  | .str _, e => by cases e; rfl
  | .ty _, e => by cases e; rfl
  | .ref _, e => by cases e
  | .lst _, e => by cases e
  | .tup _, e => by cases e
  | .obj _ _, e => by cases e
  | .scr _ _ _, e => by cases e
  | .dct _, e => by cases e
  | .dki _, e => by cases e
  | .opq _, e => by cases e
theorem rd_eq {v w : V} {b : Bool} (hx : scalD x = some v) (hy : scalD y = some w) (hs : scal v w = true) (hb : decide (v = w) = b) : RD rEq x y (.bl b) := fun F H vx vy e rx ry Q k => by
  rw [scalD_rep hx rx, scalD_rep hy ry]
  exact ⟨hs, by rw [hb]; exact k _ F H (.refl e) rfl⟩
theorem rd_ne {v w : V} {b : Bool} (hx : scalD x = some v) (hy : scalD y = some w) (hs : scal v w = true) (hb : (!decide (v = w)) = b) : RD rNe x y (.bl b) := fun F H vx vy e rx ry Q k => by
  rw [scalD_rep hx rx, scalD_rep hy ry]
  exact ⟨hs, by rw [hb]; exact k _ F H (.refl e) rfl⟩
theorem atI_some {α : Type} {l : List α} {i : Int} {x : α} (h : atI l i = some x) : ∃ j, ixN l.length i = some j ∧ l[j]? = some x := by
  unfold atI at h
  cases q : ixN l.length i with
  | none => rw [q] at h; cases h
  | some j => rw [q] at h; exact ⟨j, rfl, h⟩
theorem atI_of {α : Type} {l : List α} {i : Int} {j : Nat} {x : α} (h : ixN l.length i = some j) (h2 : l[j]? = some x) : atI l i = some x := by
  unfold atI
  rw [h]
  exact h2
theorem Reps.atI {F : Hp} {xs : List V} {i : Int} (r : Reps F ds xs) (h : L2.atI ds i = some d) : ∃ v, L2.atI xs i = some v ∧ Rep F d v := by
  obtain ⟨j, h1, h2⟩ := atI_some h
  obtain ⟨v, e, rv⟩ := r.get h2
  exact ⟨v, atI_of (by rw [r.length]; exact h1) e, rv⟩
theorem rd_ixL {i : Int} (h : atI ds i = some d) : RD (rIxL K) (.lst ds) (.int i) d := fun F H vx vy e rx ry Q k => by
  obtain ⟨a, xs, rfl, hs, r⟩ := rx
  obtain ⟨v, hv, rv⟩ := r.atI h
  exact ⟨a, xs, i, v, rfl, ry, .inl (.inl (e _ _ hs)), hv, k v F H (.refl e) rv⟩
theorem rd_ixT {i : Int} (h : atI ds i = some d) : RD (rIxT K) (.tup ds) (.int i) d := fun F H vx vy e rx ry Q k => by
  obtain ⟨a, xs, rfl, hs, r⟩ := rx
  obtain ⟨v, hv, rv⟩ := r.atI h
  exact ⟨a, xs, i, v, rfl, ry, .inl (.inl (e _ _ hs)), hv, k v F H (.refl e) rv⟩
abbrev rAddStr : R2 := fun x y H Q => ∃ i j, x = .str i ∧ y = .str j ∧ i.length + j.length ≤ sizeLine ∧ Q (.str (i ++ j)) H
theorem rd_addS {a b : Str} (h : a.length + b.length ≤ sizeLine) : RD rAddStr (.str a) (.str b) (.str (a ++ b)) := fun F H vx vy e rx ry Q k => ⟨a, b, rx, ry, h, k _ F H (.refl e) rfl⟩
/-- + of two lists -/
theorem rdf_cat (h : ds.length + es.length ≤ sizeLine) : RDF rCat (.lst ds) (.lst es) (ds ++ es) := fun F H vx vy e rx ry Q k => by
  obtain ⟨a, xs, rfl, hs, r⟩ := rx
  obtain ⟨b, ys, rfl, hs2, r2⟩ := ry
  refine ⟨a, b, xs, ys, rfl, rfl, e _ _ hs, e _ _ hs2, by rw [r.length, r2.length]; exact h, fun p hp => ?_⟩
  refine k p _ F _ (.loose e _ hp) hp ?_ upd_same (r.append r2)
  cases q : F p with
  | none => rfl
  | some o => rw [e _ _ q] at hp; cases hp
/-! ### built-in calls -/
abbrev rLenS (K : PySem.W.Frag) : List V → Hp → VK → Prop := fun xs H Q => ∃ p ys, xs = [.ref p] ∧ (SqL K H p ys ∨ SqT K H p ys) ∧ Q (.int ys.length) H
theorem rc_len : RC (rLenS K) [.lst ds] (.int ds.length) := fun F H vs e r Q k => by
  obtain ⟨v, _, rfl, ⟨a, xs, rfl, hs, r1⟩, rfl⟩ := r
  exact ⟨a, xs, rfl, .inl (.inl (.inl (e _ _ hs))), k _ F H (.refl e) (by rw [r1.length]; rfl)⟩
theorem rc_lenT : RC (rLenS K) [.tup ds] (.int ds.length) := fun F H vs e r Q k => by
  obtain ⟨v, _, rfl, ⟨a, xs, rfl, hs, r1⟩, rfl⟩ := r
  exact ⟨a, xs, rfl, .inr (.inl (.inl (e _ _ hs))), k _ F H (.refl e) (by rw [r1.length]; rfl)⟩
/-- the script -/
def KLs (K : PySem.W.Frag) (a : Addr) (xs : List V) : Prop := ∃ (o : Obj) (its : Array Value) (n : Nat), K.lookup a = some o ∧ o.cls = .type "list" ∧ o.dict = none ∧ o.data = .seq its n ∧ its.size ≤ sizeLine ∧ Vals xs its.toList
theorem scr_sq {F H : Hp} {a : Addr} {ns : List Int} {p : Prop} {v : V} (e : Ex F H) (h : Rep F (.scr a ns p) v) (hp : p → KLs K a (ns.map V.int)) : v = .ref a ∧ SqL K H a (ns.map V.int) := by
  obtain ⟨h1, h2 | ⟨o, h2⟩ | h2⟩ := h
  · exact ⟨h1, .inl (.inl (e _ _ h2))⟩
  · exact ⟨h1, .inl (.inr ⟨o, e _ _ h2⟩)⟩
  · exact ⟨h1, .inr (hp h2)⟩
theorem rd_ixScr {a : Addr} {ns : List Int} {p : Prop} {i n : Int} (hp : p → KLs K a (ns.map V.int)) (h : atI ns i = some n) : RD (rIxL K) (.scr a ns p) (.int i) (.int n) := fun F H vx vy e rx ry Q k => by
  obtain ⟨rfl, hs⟩ := scr_sq e rx hp
  have q : atI (ns.map V.int) i = some (.int n) := by
    obtain ⟨j, h1, h2⟩ := atI_some h
    exact atI_of (by rw [List.length_map]; exact h1) (by rw [List.getElem?_map, h2]; rfl)
  exact ⟨a, _, i, .int n, rfl, ry, hs, q, k _ F H (.refl e) rfl⟩
theorem rc_lenScr {a : Addr} {ns : List Int} {p : Prop} (hp : p → KLs K a (ns.map V.int)) : RC (rLenS K) [.scr a ns p] (.int ns.length) := fun F H vs e r Q k => by
  obtain ⟨v, _, rfl, rx, rfl⟩ := r
  obtain ⟨rfl, hs⟩ := scr_sq e rx hp
  exact ⟨a, _, rfl, .inl hs, k _ F H (.refl e) (by rw [List.length_map]; rfl)⟩
/-- abs, max, min of two ints -/
theorem rc_int2 {f : Int → Int → Int} {i j : Int} : RC (fun vs H Q => ∃ i j, vs = [.int i, .int j] ∧ Q (.int (f i j)) H) [.int i, .int j] (.int (f i j)) := fun F H vs e rr Q k => by
  obtain ⟨v, _, rfl, rv, v2, _, rfl, rv2, rfl⟩ := rr
  have rv' : v = .int i := rv
  have rv2' : v2 = .int j := rv2
  subst rv' rv2'
  exact ⟨i, j, rfl, k _ F H (.refl e) rfl⟩
theorem rc_int1 {f : Int → Int} {i : Int} : RC (fun vs H Q => ∃ i, vs = [.int i] ∧ Q (.int (f i)) H) [.int i] (.int (f i)) := fun F H vs e rr Q k => by
  obtain ⟨v, _, rfl, rv, rfl⟩ := rr
  have rv' : v = .int i := rv
  subst rv'
  exact ⟨i, rfl, k _ F H (.refl e) rfl⟩
end
end DL
set_option Elab.async false
set_option linter.all false
set_option maxRecDepth 100000
set_option maxHeartbeats 4000000
/-! DL3: statements, loops, comprehensions, calls. -/
namespace DL
open PySem PySem.Spec PyProof.Rows L2
/-- what is wanted behind a statement -/
structure Po where
  nx : List En → Prop
  rt : D → List En → Prop
  bk : List En → Prop := fun _ => False
  ct : List En → Prop := fun _ => False
def SW (ts : TS) (Γ : List En) (P : Po) : Prop := ∀ c F H σ, Good c F H σ Γ → ∀ D : Ends,
  (∀ Γ' F' H' σ', P.nx Γ' → Good c F' H' σ' Γ' → Ex F F' → D.nx σ' H') →
  (∀ v d Γ' F' H' σ', P.rt d Γ' → Good c F' H' σ' Γ' → Ex F F' → Rep F' d v → D.rt v H') →
  (∀ Γ' F' H' σ', P.bk Γ' → Good c F' H' σ' Γ' → Ex F F' → D.bk σ' H') →
  (∀ Γ' F' H' σ', P.ct Γ' → Good c F' H' σ' Γ' → Ex F F' → D.ct σ' H') → ts D σ H
/-- a binding target -/
def GtP (g : TG) (d : D) (Γ Γ' : List En) : Prop := ∀ c F H σ v, Good c F H σ Γ → Rep F d v → ∀ Q : L2.St → Hp → Prop, (∀ σ', Good c F H σ' Γ' → Q σ' H) → g v σ H Q
section
variable {K : PySem.W.Frag} {Γ Γ' : List En} {te ta tb : TE} {tt tu : TT} {t u w : TS} {d x y z : D} {ds es : List D} {R : D → List En → Prop} {P : Po} {g : TG}
theorem SW.imp {P' : Po} (h : SW t Γ P) (h1 : ∀ G, P.nx G → P'.nx G) (h2 : ∀ d G, P.rt d G → P'.rt d G) (h3 : ∀ G, P.bk G → P'.bk G) (h4 : ∀ G, P.ct G → P'.ct G) : SW t Γ P' :=
  fun c F H σ G D a b e f => h c F H σ G D (fun Γ' F' H' σ' p => a Γ' F' H' σ' (h1 _ p)) (fun v d Γ' F' H' σ' p => b v d Γ' F' H' σ' (h2 _ _ p)) (fun Γ' F' H' σ' p => e Γ' F' H' σ' (h3 _ p)) (fun Γ' F' H' σ' p => f Γ' F' H' σ' (h4 _ p))
theorem gt_name {i : Nat} : GtP (gName i) d Γ (Γ.set i (.sh d)) := fun c F H σ v G r Q k => k _ (G.setSh r)
theorem gt_tup2 {i j : Nat} : GtP (gTup K 2 (gCons (gName i) (gCons (gName j) gNil))) (.tup [x, y]) Γ ((Γ.set i (.sh x)).set j (.sh y)) := fun c F H σ v G r Q k => by
  obtain ⟨a, xs, rfl, ha, u1, r1, rfl, h1, u2, r2, rfl, h2, rfl⟩ := r
  exact ⟨a, [u1, u2], rfl, .inl (.inl (G.exH ha)), rfl, u1, [u2], rfl, u2, [], rfl, rfl, k _ ((G.setSh h1).setSh h2)⟩
theorem gt_tup3 {i j l : Nat} : GtP (gTup K 3 (gCons (gName i) (gCons (gName j) (gCons (gName l) gNil)))) (.tup [x, y, z]) Γ (((Γ.set i (.sh x)).set j (.sh y)).set l (.sh z)) := fun c F H σ v G r Q k => by
  obtain ⟨a, xs, rfl, ha, u1, r1, rfl, h1, u2, r2, rfl, h2, u3, r3, rfl, h3, rfl⟩ := r
  exact ⟨a, [u1, u2, u3], rfl, .inl (.inl (G.exH ha)), rfl, u1, [u2, u3], rfl, u2, [u3], rfl, u3, [], rfl, rfl, k _ (((G.setSh h1).setSh h2).setSh h3)⟩
theorem sw_next (h : P.nx Γ) : SW tNext Γ P := fun c F H σ G D a b e f => a Γ F H σ h G (Ex.refl F)
theorem sw_brk (h : P.bk Γ) : SW tBreak Γ P := fun c F H σ G D a b e f => e Γ F H σ h G (Ex.refl F)
theorem sw_cont (h : P.ct Γ) : SW tCont Γ P := fun c F H σ G D a b e f => f Γ F H σ h G (Ex.refl F)
theorem sw_seq (M : List En → Prop) (h1 : SW t Γ ⟨M, P.rt, P.bk, P.ct⟩) (h2 : ∀ Γ', M Γ' → SW u Γ' P) : SW (tSeq t u) Γ P := fun c F H σ G D a b e f =>
  h1 c F H σ G { D with nx := u D } (fun Γ' F' H' σ' m G' x => h2 Γ' m c F' H' σ' G' D (fun Γ'' F'' H'' σ'' p G'' y => a Γ'' F'' H'' σ'' p G'' (x.trans y)) (fun v d Γ'' F'' H'' σ'' p G'' y => b v d Γ'' F'' H'' σ'' p G'' (x.trans y))
    (fun Γ'' F'' H'' σ'' p G'' y => e Γ'' F'' H'' σ'' p G'' (x.trans y)) (fun Γ'' F'' H'' σ'' p G'' y => f Γ'' F'' H'' σ'' p G'' (x.trans y))) b e f
theorem sw_seq1 (h1 : SW t Γ ⟨(· = Γ'), P.rt, P.bk, P.ct⟩) (h2 : SW u Γ' P) : SW (tSeq t u) Γ P := sw_seq (· = Γ') h1 fun _ e => e ▸ h2
theorem sw_ret (h : EvP te Γ d) (hr : P.rt d Γ) : SW (tRet te) Γ P := fun c F H σ G D a b e f => h c F H σ G _ fun v F' H' S r => b v d Γ F' H' σ hr (G.step S) S.f r
theorem sw_retW (h : EvW te Γ P.rt) : SW (tRet te) Γ P := fun c F H σ G D a b e f => h c F H σ G _ fun v d Γ' F' H' hr G' x _ r => b v d Γ' F' H' σ hr G' x r
theorem sw_asg {i : Nat} (h : EvP te Γ d) (hn : P.nx (Γ.set i (.sh d))) : SW (tAsg te (gName i)) Γ P := fun c F H σ G D a b e f => h c F H σ G _ fun v F' H' S r => a _ F' H' _ hn ((G.step S).setSh r) S.f
theorem sw_asgG (h : EvP te Γ d) (hg : GtP g d Γ Γ') (hn : P.nx Γ') : SW (tAsg te g) Γ P := fun c F H σ G D a b e f => h c F H σ G _ fun v F' H' S r => hg c F' H' σ v (G.step S) r _ fun σ' G' => a _ F' H' _ hn G' S.f
theorem sw_asgF {i : Nat} (h : EvF te Γ ds) (hn : P.nx (Γ.set i (.own ds))) : SW (tAsg te (gName i)) Γ P := fun c F H σ G D a b e f => h c F H σ G _ fun p xs F' H' S n nf eq r =>
  a _ F' H' _ hn ((G.step S).setOwn (G.noSlot n) nf eq r (G.fresh n)) S.f
theorem sw_asgW {i : Nat} (h : EvW te Γ R) (hn : ∀ d Γ', R d Γ' → P.nx (Γ'.set i (.sh d))) : SW (tAsg te (gName i)) Γ P := fun c F H σ G D a b e f => h c F H σ G _ fun v d Γ' F' H' hr G' x _ r => a _ F' H' _ (hn d Γ' hr) (G'.setSh r) x
theorem sw_drop (h : EvP te Γ d) (hn : P.nx Γ) : SW (tDrop te) Γ P := fun c F H σ G D a b e f => h c F H σ G _ fun v F' H' S r => a _ F' H' _ hn (G.step S) S.f
theorem sw_dropW (h : EvW te Γ R) (hn : ∀ d Γ', R d Γ' → P.nx Γ') : SW (tDrop te) Γ P := fun c F H σ G D a b e f => h c F H σ G _ fun v d Γ' F' H' hr G' x _ r => a _ F' H' _ (hn d Γ' hr) G' x
theorem sw_if {b : Bool} (h : EtP tt Γ b) (h1 : b = true → SW t Γ P) (h2 : b = false → SW u Γ P) : SW (tIfS tt t u) Γ P := fun c F H σ G D a b' e f => h c F H σ G _ fun F1 H1 S => by
  cases b with
  | true =>
    rw [if_pos rfl]
    exact h1 rfl c F1 H1 σ (G.step S) D (fun Γ' F' H' σ' p G' x => a Γ' F' H' σ' p G' (S.f.trans x)) (fun v d Γ' F' H' σ' p G' x => b' v d Γ' F' H' σ' p G' (S.f.trans x)) (fun Γ' F' H' σ' p G' x => e Γ' F' H' σ' p G' (S.f.trans x)) (fun Γ' F' H' σ' p G' x => f Γ' F' H' σ' p G' (S.f.trans x))
  | false =>
    rw [if_neg Bool.false_ne_true]
    exact h2 rfl c F1 H1 σ (G.step S) D (fun Γ' F' H' σ' p G' x => a Γ' F' H' σ' p G' (S.f.trans x)) (fun v d Γ' F' H' σ' p G' x => b' v d Γ' F' H' σ' p G' (S.f.trans x)) (fun Γ' F' H' σ' p G' x => e Γ' F' H' σ' p G' (S.f.trans x)) (fun Γ' F' H' σ' p G' x => f Γ' F' H' σ' p G' (S.f.trans x))
theorem sw_ifW {R : Bool → List En → Prop} (h : EtW tt Γ R) (h1 : ∀ Γ', R true Γ' → SW t Γ' P) (h2 : ∀ Γ', R false Γ' → SW u Γ' P) : SW (tIfS tt t u) Γ P := fun c F H σ G D a b' e f => h c F H σ G _ fun b Γ1 F1 H1 hr G1 x1 => by
  cases b with
  | true =>
    rw [if_pos rfl]
    exact h1 _ hr c F1 H1 σ G1 D (fun Γ' F' H' σ' p G' x => a Γ' F' H' σ' p G' (x1.trans x)) (fun v d Γ' F' H' σ' p G' x => b' v d Γ' F' H' σ' p G' (x1.trans x)) (fun Γ' F' H' σ' p G' x => e Γ' F' H' σ' p G' (x1.trans x)) (fun Γ' F' H' σ' p G' x => f Γ' F' H' σ' p G' (x1.trans x))
  | false =>
    rw [if_neg Bool.false_ne_true]
    exact h2 _ hr c F1 H1 σ G1 D (fun Γ' F' H' σ' p G' x => a Γ' F' H' σ' p G' (x1.trans x)) (fun v d Γ' F' H' σ' p G' x => b' v d Γ' F' H' σ' p G' (x1.trans x)) (fun Γ' F' H' σ' p G' x => e Γ' F' H' σ' p G' (x1.trans x)) (fun Γ' F' H' σ' p G' x => f Γ' F' H' σ' p G' (x1.trans x))
/-- an own list is shared from here on -/
theorem sw_frz {i : Nat} (h : Γ[i]? = some (.own ds)) (k : SW t (Γ.set i (.sh (.lst ds))) P) : SW t Γ P := fun c F H σ G D a b e f => by
  obtain ⟨F1, x1, G1⟩ := G.freezeSlot h
  exact k c F1 H σ G1 D (fun Γ' F' H' σ' p G' x => a Γ' F' H' σ' p G' (x1.trans x)) (fun v d Γ' F' H' σ' p G' x => b v d Γ' F' H' σ' p G' (x1.trans x)) (fun Γ' F' H' σ' p G' x => e Γ' F' H' σ' p G' (x1.trans x)) (fun Γ' F' H' σ' p G' x => f Γ' F' H' σ' p G' (x1.trans x))
/-! ### a mutable list of a slot: read, put, appended to, popped from -/
def Mt (Γ : List En) (i : Nat) (ds : List D) : Prop := Γ[i]? = some (.own ds) ∨ Γ[i]? = some (.lent ds)
theorem Good.mt {c : Ct} {F H : Hp} {σ : L2.St} (G : Good c F H σ Γ) {i : Nat} (h : Mt Γ i ds) : ∃ a xs e, σ[i]? = some (some (.ref a)) ∧ H a = some (.lst xs) ∧ Reps F ds xs ∧ F a = none ∧ Γ[i]? = some e ∧ (e = .own ds ∨ e = .lent ds) := by
  rcases h with h | h
  · obtain ⟨a, xs, h1, h2, h3, h4, _⟩ := G.own h
    exact ⟨a, xs, _, h1, h3, h4, h2, h, .inl rfl⟩
  · obtain ⟨a, xs, h1, h2, h3, h4, _⟩ := G.lent h
    exact ⟨a, xs, _, h1, h3, h4, h2, h, .inr rfl⟩
/-- the slot's list is now es -/
def pt (Γ : List En) (i : Nat) (es : List D) : List En := Γ.set i ((Γ[i]?.getD .un).put es)
theorem Good.pt {c : Ct} {F H : Hp} {σ : L2.St} (G : Good c F H σ Γ) {i : Nat} {a : Addr} {ys : List V} (h : Mt Γ i ds) (e1 : σ[i]? = some (some (.ref a))) (r : Reps F es ys) : Good c F (upd H a (.lst ys)) σ (DL.pt Γ i es) := by
  unfold DL.pt
  rcases h with h | h
  · rw [h]; exact G.chg (ds := ds) h (.inl rfl) e1 r
  · rw [h]; exact G.chg (ds := ds) h (.inr rfl) e1 r
/-- x[e], x a mutable list -/
theorem ep_ixM {i : Nat} {n : Int} (h : Mt Γ i ds) (he : EvP te Γ (.int n)) (hx : atI ds n = some d) : EvP (tOp (rIxL K) (tVar i) te) Γ d := fun c F H σ G Q k => by
  obtain ⟨a, xs, e, h1, h2, h3, h4, h5, h6⟩ := G.mt h
  refine ⟨_, h1, he c F H σ G _ fun v F' H' S r => ?_⟩
  obtain ⟨u, hu, ru⟩ := (h3.mono S.f).atI hx
  exact ⟨a, xs, n, u, rfl, r, .inl (.inl (S.h _ _ h2)), hu, k u F' H' S ru⟩
theorem ep_lenM {i : Nat} (h : Mt Γ i ds) : EvP (tCB (rLenS K) (tCons (tVar i) tNil)) Γ (.int ds.length) := fun c F H σ G Q k => by
  obtain ⟨a, xs, e, h1, h2, h3, h4, h5, h6⟩ := G.mt h
  exact ⟨_, h1, a, xs, rfl, .inl (.inl (.inl h2)), k _ F H (.refl G.fh) (by rw [h3.length]; rfl)⟩
/-- x[e1] = e2 -/
theorem sw_setM {i : Nat} {n : Int} {j : Nat} {tn : TE} (hv : EvP te Γ d) (h : Mt Γ i ds) (hi : EvP tn Γ (.int n)) (hj : ixN ds.length n = some j) (hn : P.nx (pt Γ i (ds.set j d))) : SW (tAsg te (gSub (tVar i) tn rSetL)) Γ P := fun c F H σ G D a b e f =>
  hv c F H σ G _ fun v F1 H1 S1 r1 => by
    have G1 := G.step S1
    obtain ⟨p, xs, e', h1, h2, h3, h4, h5, h6⟩ := G1.mt h
    refine ⟨_, h1, hi c F1 H1 σ G1 _ fun w F2 H2 S2 r2 => ?_⟩
    have G2 := G1.step S2
    exact ⟨p, xs, n, j, rfl, r2, S2.h _ _ h2, by rw [h3.length]; exact hj, a _ F2 _ σ hn (G2.pt h h1 (((h3.mono S2.f)).set (r1.mono S2.f) j)) (S1.f.trans S2.f)⟩
/-- x.append(e) -/
theorem sw_app {i : Nat} (h : Mt Γ i ds) (hv : EvP te Γ d) (hl : ds.length < sizeLine) (hn : P.nx (pt Γ i (ds ++ [d]))) : SW (tDrop (tBM K "list" rAppend (tVar i) (tCons te tNil))) Γ P := fun c F H σ G D a b e f => by
  obtain ⟨p, xs, e', h1, h2, h3, h4, h5, h6⟩ := G.mt h
  refine ⟨_, h1, .inl ⟨rfl, _, SqL.of h2⟩, hv c F H σ G _ fun v F1 H1 S1 r1 => ?_⟩
  have G1 := G.step S1
  exact ⟨p, xs, v, rfl, rfl, S1.h _ _ h2, by rw [h3.length]; exact hl, a _ F1 _ σ hn (G1.pt h h1 ((h3.mono S1.f).append (.one r1))) S1.f⟩
/-- x.append(e), e with effects (x keeps its list meanwhile) -/
theorem sw_appW {i : Nat} (h : Mt Γ i ds) (hv : EvW te Γ R) (hR : ∀ d Γ', R d Γ' → Mt Γ' i ds ∧ P.nx (pt Γ' i (ds ++ [d]))) (hl : ds.length < sizeLine) : SW (tDrop (tBM K "list" rAppend (tVar i) (tCons te tNil))) Γ P := fun c F H σ G D a b e f => by
  obtain ⟨p, xs, e', h1, h2, h3, h4, h5, h6⟩ := G.mt h
  refine ⟨_, h1, .inl ⟨rfl, _, SqL.of h2⟩, hv c F H σ G _ fun v d Γ' F1 H1 hr G1 x1 _ r1 => ?_⟩
  obtain ⟨m, hn⟩ := hR d Γ' hr
  obtain ⟨p', xs', e'', k1, k2, k3, k4, k5, k6⟩ := G1.mt m
  rw [h1] at k1
  cases k1
  exact ⟨p, xs', v, rfl, rfl, k2, by rw [k3.length]; exact hl, a _ F1 _ σ hn (G1.pt m h1 (k3.append (.one r1))) x1⟩
/-! ### loops -/
/-- what is walked is the list ds -/
def WiP (wi : TI) (Γ : List En) (ds : List D) : Prop := ∀ c F H σ, Good c F H σ Γ → ∀ R : It → Hp → Prop,
  (∀ J F' H' (Gd : Hp → Prop) (Y : Nat → Hp → V → Hp → Prop), Stp F H F' H' → Walk J ds.length Gd Y → (∀ H2, Ex F' H2 → Gd H2) →
    (∀ i H1 v H2 F1, i < ds.length → Ex F' F1 → Ex F1 H1 → Y i H1 v H2 → ∃ F2 d, ds[i]? = some d ∧ Stp F1 H1 F2 H2 ∧ Rep F2 d v) → R J H') → wi σ H R
theorem wi_list (h : EvP te Γ (.lst ds)) : WiP (iList K te) Γ ds := fun c F H σ G R k => h c F H σ G _ fun v F1 H1 S1 r1 => by
  obtain ⟨a, xs, rfl, ha, r⟩ := r1
  refine ⟨a, rfl, ⟨xs, .inl (.inl (S1.fh _ _ ha))⟩, k _ F1 H1 (fun H => SqL K H a xs) (YAt xs) S1 (r.length ▸ walk_list) (fun H2 e => .inl (.inl (e _ _ ha))) fun i H1' v H2 F2 hi x1 x2 y => ?_⟩
  obtain ⟨rfl, hv⟩ := y
  obtain ⟨d, hd, rd⟩ := r.get' hv
  exact ⟨F2, d, hd, .refl x2, rd.mono x1⟩
theorem wi_tup (h : EvP te Γ (.tup ds)) : WiP (iTup K te) Γ ds := fun c F H σ G R k => h c F H σ G _ fun v F1 H1 S1 r1 => by
  obtain ⟨a, xs, rfl, ha, r⟩ := r1
  refine ⟨a, rfl, ⟨xs, .inl (.inl (S1.fh _ _ ha))⟩, k _ F1 H1 (fun H => SqT K H a xs) (YAt xs) S1 (r.length ▸ walk_tup) (fun H2 e => .inl (.inl (e _ _ ha))) fun i H1' v H2 F2 hi x1 x2 y => ?_⟩
  obtain ⟨rfl, hv⟩ := y
  obtain ⟨d, hd, rd⟩ := r.get' hv
  exact ⟨F2, d, hd, .refl x2, rd.mono x1⟩
def rgD (lo : Int) (n : Nat) : List D := (List.range n).map fun (i : Nat) => D.int (lo + (i : Int))
theorem rgD_len {lo : Int} {n : Nat} : (rgD lo n).length = n := by simp [rgD]
theorem rgD_get {lo : Int} {n i : Nat} (h : i < n) : (rgD lo n)[i]? = some (.int (lo + (i : Nat))) := by simp [rgD, h]
theorem wi_rng1 {ta : TA} {n : Int} (h : EaP ta Γ [.int n]) (h1 : -(2 ^ 62) ≤ n) (h2 : n < 2 ^ 62) : WiP (iRng1 ta) Γ (rgD 0 n.toNat) := fun c F H σ G R k => h c F H σ G _ fun vs F1 H1 S1 r1 => by
  obtain ⟨v, _, rfl, rv, rfl⟩ := r1
  have rv' : v = .int n := rv
  subst rv'
  refine ⟨n, rfl, h1, h2, k _ F1 H1 (fun _ => True) (YFn fun i => .int (0 + i)) S1 (by rw [rgD_len]; exact walk_range) (fun _ _ => trivial) fun i H1' v H2 F2 hi x1 x2 y => ?_⟩
  obtain ⟨rfl, rfl⟩ := y
  rw [rgD_len] at hi
  exact ⟨F2, _, rgD_get hi, .refl x2, rfl⟩
theorem wi_rng2 {ta : TA} {m n : Int} (h : EaP ta Γ [.int m, .int n]) (hb : -(2 ^ 62) ≤ m ∧ m < 2 ^ 62 ∧ -(2 ^ 62) ≤ n ∧ n < 2 ^ 62) : WiP (iRng2 ta) Γ (rgD m (n - m).toNat) := fun c F H σ G R k => h c F H σ G _ fun vs F1 H1 S1 r1 => by
  obtain ⟨v, _, rfl, rv, v2, _, rfl, rv2, rfl⟩ := r1
  have rv' : v = .int m := rv
  have rv2' : v2 = .int n := rv2
  subst rv' rv2'
  refine ⟨m, n, rfl, hb, k _ F1 H1 (fun _ => True) (YFn fun i => .int (m + i)) S1 (by rw [rgD_len]; exact walk_range) (fun _ _ => trivial) fun i H1' v H2 F2 hi x1 x2 y => ?_⟩
  obtain ⟨rfl, rfl⟩ := y
  rw [rgD_len] at hi
  exact ⟨F2, _, rgD_get hi, .refl x2, rfl⟩
def enD (ds : List D) : List D := (List.range ds.length).map fun (i : Nat) => D.tup [.int (i : Int), ds.getD i .non]
theorem enD_len : (enD ds).length = ds.length := by simp [enD]
theorem wi_enum {ta : TA} (h : EaP ta Γ [.lst ds]) : WiP (iEnum K ta) Γ (enD ds) := fun c F H σ G R k => h c F H σ G _ fun vs F1 H1 S1 r1 => by
  obtain ⟨v, _, rfl, ⟨a, xs, rfl, ha, r⟩, rfl⟩ := r1
  refine ⟨a, xs, rfl, .inl (.inl (S1.fh _ _ ha)), k _ F1 H1 (fun H => SqL K H a xs) _ S1 (by rw [enD_len, ← r.length]; exact walk_enum) (fun H2 e => .inl (.inl (e _ _ ha))) fun i H1' v H2 F2 hi x1 x2 y => ?_⟩
  obtain ⟨T, p, q, rfl, hT, rfl, hp, hq⟩ := y
  obtain ⟨d, hd, rd⟩ := r.get' hq
  rw [enD_len] at hi
  refine ⟨_, .tup [.int (i : Nat), d], by simp [enD, hi]; exact (List.getElem?_eq_some_iff.mp hd).2, Stp.new x2 _ hT, T, _, rfl, upd_same, _, _, rfl, ?_, _, _, rfl, (rd.mono x1).mono (Stp.new x2 (HO.tup [p, q]) hT).f, rfl⟩
  exact (Option.some.inj hp).symm
def zpD : List D → List D → List D
  | x :: xs, y :: ys => .tup [x, y] :: zpD xs ys
  | _, _ => []
theorem zpD_len : ∀ {xs ys : List D}, (zpD xs ys).length = min xs.length ys.length
  | [], _ => by simp [zpD]
  | _ :: _, [] => by simp [zpD]
  | _ :: xs, _ :: ys => by simp only [zpD, List.length_cons, zpD_len (xs := xs) (ys := ys)]; omega
theorem zpD_get : ∀ {xs ys : List D} {i : Nat} {x y : D}, xs[i]? = some x → ys[i]? = some y → (zpD xs ys)[i]? = some (.tup [x, y])
  | [], _, _, _, _, h, _ => by simp at h
  | _ :: _, [], _, _, _, _, h => by simp at h
  | _ :: _, _ :: _, 0, _, _, h, h2 => by simp at h h2; subst h h2; rfl
  | _ :: xs, _ :: ys, i + 1, _, _, h, h2 => by simpa [zpD] using zpD_get (xs := xs) (ys := ys) (i := i) (by simpa using h) (by simpa using h2)
theorem wi_zip {ta : TA} (h : EaP ta Γ [.lst ds, .lst es]) : WiP (iZip K ta) Γ (zpD ds es) := fun c F H σ G R k => h c F H σ G _ fun vs F1 H1 S1 r1 => by
  obtain ⟨v, _, rfl, ⟨a, xs, rfl, ha, r⟩, v2, _, rfl, ⟨b, ys, rfl, hb, r2⟩, rfl⟩ := r1
  refine ⟨a, b, xs, ys, rfl, .inl (.inl (S1.fh _ _ ha)), .inl (.inl (S1.fh _ _ hb)), k _ F1 H1 (fun H => SqL K H a xs ∧ SqL K H b ys) _ S1 (walk_zip (by rw [zpD_len, r.length, r2.length])) (fun H2 e => ⟨.inl (.inl (e _ _ ha)), .inl (.inl (e _ _ hb))⟩) fun i H1' v H2 F2 hi x1 x2 y => ?_⟩
  obtain ⟨T, p, q, rfl, hT, rfl, hp, hq⟩ := y
  obtain ⟨d, hd, rd⟩ := r.get' hp
  obtain ⟨d2, hd2, rd2⟩ := r2.get' hq
  exact ⟨_, _, zpD_get hd hd2, Stp.new x2 _ hT, T, _, rfl, upd_same, _, _, rfl, (rd.mono x1).mono (Stp.new x2 (HO.tup [p, q]) hT).f, _, _, rfl, (rd2.mono x1).mono (Stp.new x2 (HO.tup [p, q]) hT).f, rfl⟩
/-- for .. in ..: I by the turn and the slots -/
theorem sw_for {wi : TI} (I : Nat → List En → Prop) (h : WiP wi Γ ds) (h0 : I 0 Γ) (hs : ∀ i d Γi, ds[i]? = some d → I i Γi → ∃ Γ', GtP g d Γi Γ' ∧ SW t Γ' ⟨I (i + 1), P.rt, P.nx, I (i + 1)⟩) (hd : ∀ Γ', I ds.length Γ' → P.nx Γ') :
    SW (tFor wi g t) Γ P := fun c F H σ G D a b e f => h c F H σ G _ fun J F1 H1 Gd Y S w hG hY => by
  refine for_it w (fun i σ' H' => ∃ Γi F', I i Γi ∧ Good c F' H' σ' Γi ∧ Ex F1 F') ⟨Γ, F1, h0, G.step S, Ex.refl _⟩ (fun i σ' H' _ ⟨_, _, _, G', x⟩ => hG _ (x.trans G'.fh)) ?_ ?_
  · rintro i v σ1 H2 H3 hi ⟨Γi, F2, p, G2, x2⟩ y
    obtain ⟨F3, d, hd', S3, r3⟩ := hY i H2 v H3 F2 hi x2 G2.fh y
    obtain ⟨Γ', hg, hb⟩ := hs i d Γi hd' p
    refine hg c F3 H3 σ1 v (G2.step S3) r3 _ fun σ2 G3 => ?_
    exact hb c F3 H3 σ2 G3 _ (fun Γ'' F' H' σ' q G' x => ⟨Γ'', F', q, G', (x2.trans S3.f).trans x⟩) (fun v d Γ'' F' H' σ' q G' x => b v d Γ'' F' H' σ' q G' ((S.f.trans (x2.trans S3.f)).trans x))
      (fun Γ'' F' H' σ' q G' x => a Γ'' F' H' σ' q G' ((S.f.trans (x2.trans S3.f)).trans x)) (fun Γ'' F' H' σ' q G' x => ⟨Γ'', F', q, G', (x2.trans S3.f).trans x⟩)
  · rintro σ1 H2 ⟨Γi, F2, p, G2, x2⟩
    exact a Γi F2 H2 σ1 (hd _ p) G2 (S.f.trans x2)
/-- while: I by the slots, μ falls -/
theorem sw_while (I : Nat → List En → Prop) (m0 : Nat) (h0 : I m0 Γ) (hs : ∀ m Γi, I m Γi → ∃ b, EtP tt Γi b ∧ (b = true → SW t Γi ⟨fun Γ' => ∃ m', m' < m ∧ I m' Γ', P.rt, P.nx, fun Γ' => ∃ m', m' < m ∧ I m' Γ'⟩) ∧ (b = false → P.nx Γi)) :
    SW (tWhile tt t) Γ P := fun c F H σ G D a b e f => by
  refine ⟨fun m σ' H' => ∃ Γi F', I m Γi ∧ Good c F' H' σ' Γi ∧ Ex F F', ⟨m0, Γ, F, h0, G, Ex.refl _⟩, ?_⟩
  rintro m σ1 H1 ⟨Γi, F1, p, G1, x1⟩
  obtain ⟨v, ht, h1, h2⟩ := hs m Γi p
  refine ht c F1 H1 σ1 G1 _ fun F2 H2 S => ?_
  cases v with
  | true =>
    rw [if_pos rfl]
    refine ⟨fun σ' H' => ∃ Γ' F', (∃ m', m' < m ∧ I m' Γ') ∧ Good c F' H' σ' Γ' ∧ Ex F F', fun σ' H' ⟨Γ', F', ⟨m', hm, q⟩, G', x⟩ => ⟨m', hm, Γ', F', q, G', x⟩, ?_⟩
    exact h1 rfl c F2 H2 σ1 (G1.step S) _ (fun Γ'' F' H' σ' q G' x => ⟨Γ'', F', q, G', (x1.trans S.f).trans x⟩) (fun v d Γ'' F' H' σ' q G' x => b v d Γ'' F' H' σ' q G' ((x1.trans S.f).trans x))
      (fun Γ'' F' H' σ' q G' x => a Γ'' F' H' σ' q G' ((x1.trans S.f).trans x)) (fun Γ'' F' H' σ' q G' x => ⟨Γ'', F', q, G', (x1.trans S.f).trans x⟩)
  | false =>
    rw [if_neg Bool.false_ne_true]
    exact a Γi F2 H2 σ1 (h2 rfl) (G1.step S) (x1.trans S.f)
end
end DL
set_option Elab.async false
set_option linter.all false
set_option maxRecDepth 100000
set_option maxHeartbeats 4000000
/-! DL4: comprehensions, calls, a def. -/
namespace DL
open PySem PySem.Spec PyProof.Rows L2
/-! ### comprehensions -/
theorem wipe_at (σ : L2.St) : ∀ (vs : List Nat) (j : Nat), (wipe σ vs)[j]? = if j ∈ vs then σ[j]?.map (fun _ => none) else σ[j]?
  | [], j => by simp [wipe]
  | v :: vs, j => by
    unfold wipe
    by_cases z : v = j
    · subst z
      rw [List.getElem?_set]
      simp [wipe_length]
      split <;> rename_i h <;> simp [h]
    · rw [List.getElem?_set_ne z, wipe_at σ vs j]
      have e : (j ∈ v :: vs) ↔ j ∈ vs := by simp [Ne.symm z]
      simp [e]
theorem wipe_eq {σ τ : L2.St} {vs : List Nat} (h : ∀ j, j ∉ vs → τ[j]? = σ[j]?) (hl : τ.length = σ.length) : wipe τ vs = wipe σ vs := by
  apply List.ext_getElem?
  intro j
  rw [wipe_at, wipe_at]
  by_cases z : j ∈ vs
  · simp only [if_pos z]
    by_cases q : j < σ.length
    · rw [List.getElem?_eq_getElem q, List.getElem?_eq_getElem (hl ▸ q)]; rfl
    · rw [List.getElem?_eq_none (by omega), List.getElem?_eq_none (by omega)]
  · simp only [if_neg z]; exact h j z
def wipG (Γ : List En) : List Nat → List En
  | [] => Γ
  | v :: vs => (wipG Γ vs).set v .un
theorem Good.wip {c : Ct} {F H : Hp} {σ : L2.St} {Γ : List En} (G : Good c F H σ Γ) : ∀ vs : List Nat, Good c F H (wipe σ vs) (wipG Γ vs)
  | [] => G
  | v :: vs => (G.wip vs).setUn
/-- a target that binds the comprehension's own names vs -/
def GtV (g : TG) (d : D) (vs : List Nat) (Γ Γ' : List En) : Prop := ∀ c F H σ v, Good c F H σ Γ → Rep F d v → ∀ Q : L2.St → Hp → Prop, (∀ σ', Good c F H σ' Γ' → (∀ j, j ∉ vs → σ'[j]? = σ[j]?) → σ'.length = σ.length → Q σ' H) → g v σ H Q
section
variable {K : PySem.W.Frag} {Γ Γ' : List En} {te ta tb : TE} {tt tu : TT} {t u w : TS} {d x y z : D} {ds es : List D} {R R' : D → List En → Prop} {P : Po} {g : TG}
theorem gv_name {i : Nat} {vs : List Nat} (hi : i ∈ vs) : GtV (gName i) d vs Γ (Γ.set i (.sh d)) := fun c F H σ v G r Q k => k _ (G.setSh r) (fun j hj => List.getElem?_set_ne fun (z : i = j) => hj (z ▸ hi)) (List.length_set ..)
theorem gv_tup2 {i j : Nat} {vs : List Nat} (hi : i ∈ vs) (hj : j ∈ vs) : GtV (gTup K 2 (gCons (gName i) (gCons (gName j) gNil))) (.tup [x, y]) vs Γ ((Γ.set i (.sh x)).set j (.sh y)) := fun c F H σ v G r Q k => by
  obtain ⟨a, xs, rfl, ha, u1, r1, rfl, h1, u2, r2, rfl, h2, rfl⟩ := r
  refine ⟨a, [u1, u2], rfl, .inl (.inl (G.exH ha)), rfl, u1, [u2], rfl, u2, [], rfl, rfl, k _ ((G.setSh h1).setSh h2) (fun l hl => ?_) (by rw [List.length_set, List.length_set])⟩
  rw [List.getElem?_set_ne fun (z : j = l) => hl (z ▸ hj), List.getElem?_set_ne fun (z : i = l) => hl (z ▸ hi)]
theorem filterMap_snoc {α β : Type} (f : α → Option β) {xs : List α} {i : Nat} {x : α} (h : xs[i]? = some x) : (xs.take (i + 1)).filterMap f = (xs.take i).filterMap f ++ (f x).toList := by
  have hi := (List.getElem?_eq_some_iff.mp h).1
  have e : xs.take (i + 1) = xs.take i ++ [x] := by
    rw [List.take_succ, h]; rfl
  rw [e, List.filterMap_append]
  cases q : f x <;> simp [q]
/-- [te for g in wi if tt], pure -/
theorem ef_lc {α : Type} {wi : TI} {vs : List Nat} (xs : List α) (f : α → D) (o : α → Option D) (h : WiP wi Γ (xs.map f)) (hl : xs.length < sizeLine)
    (hs : ∀ x ∈ xs, ∃ Γ', GtV g (f x) vs (wipG Γ vs) Γ' ∧ EtP tt Γ' (o x).isSome ∧ ∀ e, o x = some e → EvP te Γ' e) : EvF (tLc wi g tt te vs) Γ (xs.filterMap o) := fun c F H σ G Q k => h c F H σ G _ fun J F1 H1 Gd Y S w hG hY => by
  intro Dl nD
  have nF1 : F1 Dl = none := by
    cases q : F1 Dl with
    | none => rfl
    | some u => rw [S.fh _ _ q] at nD; cases nD
  rw [List.length_map] at w
  have G1 := G.step S
  have fD : ∀ {F2 H2 F3 H3 : Hp} {u : HO}, Stp F2 H2 F3 H3 → F2 Dl = none → H2 Dl = some u → F3 Dl = none := fun {F2 H2 F3 H3 u} S2 hf he => by
    cases q : F3 Dl with
    | none => rfl
    | some v =>
      rcases S2.nw Dl (by rw [q]; exact Option.some_ne_none _) with z | z
      · exact absurd hf z
      · rw [he] at z; cases z
  refine lc_it w (fun i H2 => ∃ F2 acc, Stp F1 H1 F2 H2 ∧ F2 Dl = none ∧ H2 Dl = some (.lst acc) ∧ Reps F2 ((xs.take i).filterMap o) acc) ⟨F1, [], .loose S.fh _ nD, nF1, upd_same, rfl⟩ (fun i H2 _ ⟨F2, acc, S2, _⟩ => hG _ (S2.f.trans S2.fh)) ?_ ?_
  · rintro i v H2 H3 hi ⟨F2, acc, S2, f2, e2, r2⟩ y
    obtain ⟨F3, d, hd, S3, r3⟩ := hY i H2 v H3 F2 (by rw [List.length_map]; exact hi) S2.f S2.fh y
    have hx : xs[i]? = some xs[i] := List.getElem?_eq_getElem hi
    have ed : d = f xs[i] := by
      rw [List.getElem?_map, hx] at hd
      exact (Option.some.inj hd).symm
    subst ed
    obtain ⟨Γ', hg, ht, he⟩ := hs _ (List.getElem_mem hi)
    have S23 := S2.trans S3
    refine hg c F3 H3 _ v ((G1.step S23).wip vs) r3 _ fun σ2 G3 q1 q2 => ⟨?_, ?_⟩
    · refine wipe_eq (fun j hj => ?_) ?_
      · rw [q1 j hj, wipe_at, if_neg hj]
      · rw [q2, wipe_length]
    · refine ht c F3 H3 σ2 G3 _ fun F4 H4 S4 => ?_
      have f3 := fD S3 f2 e2
      have e3 := S3.h _ _ e2
      have f4 := fD S4 f3 e3
      have e4 := S4.h _ _ e3
      cases q : o xs[i] with
      | none =>
        rw [Option.isSome_none, if_neg Bool.false_ne_true]
        refine ⟨F4, acc, S23.trans S4, f4, e4, ?_⟩
        rw [filterMap_snoc o hx, q]
        exact ((r2.mono S3.f).mono S4.f).append (ds := _) (es := []) rfl |> fun z => by simpa using z
      | some e =>
        rw [Option.isSome_some, if_pos rfl]
        refine he e q c F4 H4 σ2 (G3.step S4) _ fun u F5 H5 S5 r5 => ?_
        have f5 := fD S5 f4 e4
        have e5 := S5.h _ _ e4
        have hz : acc.length < sizeLine := by
          rw [r2.length]
          refine Nat.lt_of_le_of_lt (List.length_filterMap_le ..) ?_
          rw [List.length_take]
          omega
        have S5' := (S23.trans S4).trans S5
        refine ⟨acc, e5, hz, F5, acc ++ [u], ⟨S5'.f, fun a w q => ?_, fun a w q => ?_, S5'.nw⟩, f5, upd_same, ?_⟩
        · have na : a ≠ Dl := fun z => by subst z; rw [nD] at q; cases q
          rw [upd_ne na]; exact S5'.h _ _ q
        · have na : a ≠ Dl := fun z => by subst z; rw [f5] at q; cases q
          rw [upd_ne na]; exact S5'.fh _ _ q
        · rw [filterMap_snoc o hx, q]
          exact (((r2.mono S3.f).mono S4.f).mono S5.f).append (.one r5)
  · rintro H2 ⟨F2, acc, S2, f2, e2, r2⟩
    rw [List.take_length] at r2
    refine k Dl acc F2 H2 (S.trans S2) ?_ f2 e2 r2
    cases q : H Dl with
    | none => rfl
    | some u => rw [S.h _ _ q] at nD; cases nD
theorem ef_map {α : Type} {wi : TI} {vs : List Nat} (xs : List α) (f : α → D) (o : α → D) (h : WiP wi Γ (xs.map f)) (hl : xs.length < sizeLine)
    (hs : ∀ x ∈ xs, ∃ Γ', GtV g (f x) vs (wipG Γ vs) Γ' ∧ EvP te Γ' (o x)) : EvF (tLc wi g tYes te vs) Γ (xs.map o) := by
  have q := ef_lc (tt := tYes) xs f (fun x => some (o x)) h hl (te := te) (g := g) (vs := vs) fun x hx => by
    obtain ⟨Γ', h1, h2⟩ := hs x hx
    exact ⟨Γ', h1, et_yes, fun e z => by cases z; exact h2⟩
  rwa [List.filterMap_eq_map'] at q
/-! ### calls -/
abbrev Cn := List En → (D → List En → Prop) → Prop
def argOk : List En → Prop
  | [] => True
  | .sh _ :: r => argOk r
  | .lent _ :: r => argOk r
  | _ :: _ => False
/-- a def's promise, by data -/
def spE (C : Cn) : Sp := fun vs H Q _ => ∃ c F Γ R, Good c F H (vs.map some) Γ ∧ argOk Γ ∧ C Γ R ∧ ∀ v d Γ' F' H', R d Γ' → Good c F' H' (vs.map some) Γ' → Ex F F' → Rep F' d v → Q v H'
theorem reps_slots {F : Hp} : ∀ {es : List D} {vs : List V}, Reps F es vs → ∀ (i : Nat) (e : En), (es.map En.sh)[i]? = some e → ∃ d v, e = .sh d ∧ (vs.map some)[i]? = some (some v) ∧ Rep F d v
  | [], _, _, i, e, h => by simp at h
  | _ :: _, _, ⟨v, r, h1, h2, h3⟩, 0, e, h => by cases h1; simp at h; exact ⟨_, v, h.symm, rfl, h2⟩
  | _ :: _, _, ⟨v, r, h1, h2, h3⟩, i + 1, e, h => by
    cases h1
    obtain ⟨d, u, q1, q2, q3⟩ := reps_slots h3 i e (by simpa using h)
    exact ⟨d, u, q1, by simpa using q2, q3⟩
theorem good_args {F H : Hp} {es : List D} {vs : List V} (x : Ex F H) (r : Reps F es vs) : Good ⟨F, H, fun _ => none⟩ F H (vs.map some) (es.map .sh) where
  ff := Ex.refl _
  fh := x
  hh := fun _ _ e _ => e
  li := fun a ⟨_, e⟩ => by cases e
  nw := fun _ e => .inl e
  len := by rw [List.length_map, List.length_map, r.length]
  en := fun i e he => by
    obtain ⟨d, v, rfl, h2, h3⟩ := reps_slots r i e he
    exact ⟨_, h2, v, rfl, h3⟩
  dj := fun i j a e e' h1 h2 m1 => by
    obtain ⟨d, v, rfl, _, _⟩ := reps_slots r i e h1
    cases m1
theorem argOk_sh : ∀ es : List D, argOk (es.map En.sh)
  | [] => trivial
  | _ :: es => argOk_sh es
/-- a call of a def that changes none of its arguments -/
theorem ep_call {C : Cn} {ta : TA} (ha : EaP ta Γ es) (hc : C (es.map .sh) R) (hR : ∀ e Γ', R e Γ' → e = z) : EvP (tCall (spE C) [] E0 ta) Γ z := fun c F H σ G Q k => ha c F H σ G _ fun vs F1 H1 S1 r1 => by
  show spE C (vs ++ []) H1 Q E0
  rw [List.append_nil]
  refine ⟨_, F1, _, R, good_args S1.fh r1, argOk_sh es, hc, fun v d Γ' F' H' hr G' x r => ?_⟩
  have e := hR d Γ' hr
  subst e
  exact k v F' H' (S1.trans ⟨x, fun a o q => G'.hh a o q (fun ⟨_, z⟩ => by cases z), G'.fh, G'.nw⟩) r
theorem ew_callP {C : Cn} {ta : TA} (ha : EaP ta Γ es) (hc : C (es.map .sh) R') (hR : ∀ e Γ', R' e Γ' → R e Γ) : EvW (tCall (spE C) [] E0 ta) Γ R := fun c F H σ G Q k => ha c F H σ G _ fun vs F1 H1 S1 r1 => by
  show spE C (vs ++ []) H1 Q E0
  rw [List.append_nil]
  refine ⟨_, F1, _, R', good_args S1.fh r1, argOk_sh es, hc, fun v d Γ' F' H' hr G' x r => ?_⟩
  have S2 : Stp F1 H1 F' H' := ⟨x, fun a o q => G'.hh a o q (fun ⟨_, z⟩ => by cases z), G'.fh, G'.nw⟩
  exact k v d Γ F' H' (hR d Γ' hr) (G.step (S1.trans S2)) (S1.trans S2).f (Fr.stp (S1.trans S2)) r
/-- a call whose first argument is a mutable list of slot i, lent -/
theorem ew_call1 {C : Cn} {ta : TA} {i : Nat} (hm : Mt Γ i ds) (ha : EaP ta Γ es) (hc : C (.lent ds :: es.map .sh) R') (hR : ∀ e Γ', R' e Γ' → ∃ ds', Γ'[0]? = some (.lent ds') ∧ R e (pt Γ i ds')) : EvW (tCall (spE C) [] E0 (tCons (tVar i) ta)) Γ R := fun c F H σ G Q k => by
  obtain ⟨a, xs, e0, h1, h2, h3, h4, h5, h6⟩ := G.mt hm
  refine ⟨_, h1, ha c F H σ G _ fun vs F1 H1 S1 r1 => ?_⟩
  show spE C ((.ref a :: vs) ++ []) H1 Q E0
  rw [List.append_nil]
  have G1 := G.step S1
  have f1 : F1 a = none := by
    obtain ⟨a', xs', e', k1, k2, k3, k4, _⟩ := G1.mt hm
    rw [h1] at k1; cases k1; exact k4
  have e1 := S1.h _ _ h2
  have Ga := good_args S1.fh r1
  have Gc : Good ⟨F1, H1, fun j => if j = 0 then some a else none⟩ F1 H1 ((V.ref a :: vs).map some) (.lent ds :: es.map .sh) := by
    refine ⟨Ex.refl _, S1.fh, fun _ _ e _ => e, fun b ⟨j, e⟩ => ?_, fun _ e => .inl e, by simp [r1.length], fun j e he => ?_, fun p q x e e' k1 k2 m1 m2 k3 k4 => ?_⟩
    · dsimp only at e
      by_cases z : j = 0
      · rw [if_pos z] at e; cases e; exact ⟨_, e1⟩
      · rw [if_neg z] at e; cases e
    · cases j with
      | zero => simp at he; subst he; exact ⟨some (.ref a), rfl, a, xs, rfl, f1, e1, h3.mono S1.f, (if_pos rfl : (if (0 : Nat) = 0 then some a else none) = some a)⟩
      | succ j =>
        obtain ⟨d, v, rfl, q1, q2⟩ := reps_slots r1 j e (by simpa using he)
        exact ⟨some v, by simpa using q1, v, rfl, q2⟩
    · have f : ∀ {j : Nat} {e : En}, (En.lent ds :: es.map En.sh)[j]? = some e → e.mut = true → j = 0 := fun {j e} he m => by
        cases j with
        | zero => rfl
        | succ j =>
          obtain ⟨d, v, rfl, _, _⟩ := reps_slots r1 j e (by simpa using he)
          cases m
      rw [f k1 m1, f k2 m2]
  refine ⟨_, F1, _, R', Gc, argOk_sh es, hc, fun v d Γ' F' H' hr G' x r => ?_⟩
  obtain ⟨ds', hl, hr'⟩ := hR d Γ' hr
  obtain ⟨b, ys, q1, q2, q3, q4, q5⟩ := G'.lent hl
  have eb : b = a := by simpa using q1.symm
  subst eb
  have m1 : Mt Γ i ds := hm
  -- the rest of the step first, then the list changes
  have S2 : Stp F1 H1 F' (upd H' b (.lst xs)) := by
    refine ⟨x, fun p o q => ?_, fun p o q => ?_, G'.nw⟩
    · by_cases z : p = b
      · subst z; rw [e1] at q; cases q; exact upd_same
      · rw [upd_ne z]
        exact G'.hh p o q fun ⟨j, e⟩ => by
          dsimp only at e
          by_cases w : j = 0
          · rw [if_pos w] at e; cases e; exact z rfl
          · rw [if_neg w] at e; cases e
    · have np : p ≠ b := fun z => by subst z; rw [q2] at q; cases q
      rw [upd_ne np]; exact G'.fh p o q
  have G3 := (G1.step S2).pt m1 h1 q4
  have eH : upd (upd H' b (.lst xs)) b (.lst ys) = H' := by
    rw [upd_upd]
    funext p
    by_cases z : p = b
    · subst z; rw [upd_same, q3]
    · rw [upd_ne z]
  rw [eH] at G3
  refine k v d _ F' H' hr' G3 (S1.f.trans x) (fun p o e n => ?_) r
  have np : p ≠ b := fun z => by
    subst z
    rcases hm with hm | hm
    · exact n i _ hm rfl h1
    · exact n i _ hm rfl h1
  obtain ⟨t1, t2, t3⟩ := Fr.stp (S1.trans S2) p o e n
  rw [upd_ne np] at t1
  refine ⟨t1, t2, fun j e' he m q => ?_⟩
  unfold pt at he
  by_cases z : i = j
  · subst z; rw [h1] at q; cases q; exact np rfl
  · rw [List.getElem?_set_ne z] at he; exact n j e' he m q
end
end DL
set_option Elab.async false
set_option linter.all false
set_option maxRecDepth 100000
set_option maxHeartbeats 4000000
/-! DL5: a def. -/
namespace DL
open PySem PySem.Spec PyProof.Rows L2
/-- the arguments' entries behind the def: the lent ones as they are now -/
def outG : List En → List En → List En
  | [], _ => []
  | .lent ds :: r, Γ' => (Γ'.headD .un) :: outG r Γ'.tail
  | e :: r, Γ' => e :: outG r Γ'.tail
def lentOk : List En → List En → Prop
  | [], _ => True
  | .lent _ :: r, .lent _ :: r' => lentOk r r'
  | .lent _ :: _, _ => False
  | _ :: r, _ :: r' => lentOk r r'
  | _ :: r, [] => False
theorem outG_len : ∀ {Γ Γ' : List En}, (outG Γ Γ').length = Γ.length
  | [], _ => rfl
  | .un :: r, Γ' => by simp [outG, outG_len (Γ := r)]
  | .sh _ :: r, Γ' => by simp [outG, outG_len (Γ := r)]
  | .own _ :: r, Γ' => by simp [outG, outG_len (Γ := r)]
  | .lent _ :: r, Γ' => by simp [outG, outG_len (Γ := r)]
theorem outG_get : ∀ {Γ Γ' : List En} {i : Nat} {e : En}, argOk Γ → lentOk Γ Γ' → (outG Γ Γ')[i]? = some e → (∃ d, e = .sh d ∧ Γ[i]? = some (.sh d)) ∨ (∃ ds ds', e = .lent ds' ∧ Γ[i]? = some (.lent ds) ∧ Γ'[i]? = some (.lent ds'))
  | [], _, _, _, _, _, h => by simp [outG] at h
  | .sh d :: r, [], _, _, _, l, _ => by simp [lentOk] at l
  | .sh d :: r, _ :: r', 0, e, _, _, h => by simp [outG] at h; exact .inl ⟨d, h.symm, rfl⟩
  | .sh d :: r, _ :: r', i + 1, e, a, l, h => by
    have q := outG_get (Γ := r) (Γ' := r') (i := i) (e := e) (by simpa [argOk] using a) (by simpa [lentOk] using l) (by simpa [outG] using h)
    simpa using q
  | .lent d :: r, .lent d' :: r', 0, e, _, _, h => by simp [outG] at h; exact .inr ⟨d, d', h.symm, rfl, rfl⟩
  | .lent d :: r, .lent d' :: r', i + 1, e, a, l, h => by
    have q := outG_get (Γ := r) (Γ' := r') (i := i) (e := e) (by simpa [argOk] using a) (by simpa [lentOk] using l) (by simpa [outG] using h)
    simpa using q
  | .lent d :: r, [], _, _, _, l, _ => by simp [lentOk] at l
  | .lent d :: r, .un :: _, _, _, _, l, _ => by simp [lentOk] at l
  | .lent d :: r, .sh _ :: _, _, _, _, l, _ => by simp [lentOk] at l
  | .lent d :: r, .own _ :: _, _, _, _, l, _ => by simp [lentOk] at l
  | .un :: _, _, _, _, a, _, _ => by simp [argOk] at a
  | .own _ :: _, _, _, _, a, _, _ => by simp [argOk] at a
section
variable {c : Ct} {F F' H H' : Hp} {σ : L2.St} {Γ Γ' : List En}
theorem Good.start (G : Good c F H σ Γ) (n : Nat) : Good c F H (σ ++ List.replicate n none) (Γ ++ List.replicate n .un) where
  ff := G.ff
  fh := G.fh
  hh := G.hh
  li := G.li
  nw := G.nw
  len := by simp [G.len]
  en := fun i e he => by
    by_cases z : i < Γ.length
    · rw [List.getElem?_append_left z] at he
      obtain ⟨o, h1, h2⟩ := G.en i e he
      exact ⟨o, by rw [List.getElem?_append_left (by rw [G.len]; exact z)]; exact h1, h2⟩
    · have hi : i < Γ.length + n := by
        have := (List.getElem?_eq_some_iff.mp he).1
        simpa using this
      rw [List.getElem?_append_right (by omega), List.getElem?_replicate, if_pos (by omega)] at he
      cases he
      exact ⟨none, by rw [List.getElem?_append_right (by rw [G.len]; omega), List.getElem?_replicate, if_pos (by rw [G.len]; omega)], trivial⟩
  dj := fun i j a e e' h1 h2 m1 m2 h3 h4 => by
    have f : ∀ {j : Nat} {e : En}, (Γ ++ List.replicate n En.un)[j]? = some e → e.mut = true → j < Γ.length := fun {j e} he m => by
      by_cases z : j < Γ.length
      · exact z
      · have hi : j < Γ.length + n := by
          have := (List.getElem?_eq_some_iff.mp he).1
          simpa using this
        rw [List.getElem?_append_right (by omega), List.getElem?_replicate, if_pos (by omega)] at he
        cases he; cases m
    have z1 := f h1 m1
    have z2 := f h2 m2
    rw [List.getElem?_append_left z1] at h1
    rw [List.getElem?_append_left z2] at h2
    rw [List.getElem?_append_left (by rw [G.len]; exact z1)] at h3
    rw [List.getElem?_append_left (by rw [G.len]; exact z2)] at h4
    exact G.dj i j a e e' h1 h2 m1 m2 h3 h4
/-- behind the def: the arguments again -/
theorem Good.back (G : Good c F H σ Γ) {σ' : L2.St} (G' : Good c F' H' σ' Γ') (x : Ex F F') (a : argOk Γ) (l : lentOk Γ Γ') : Good c F' H' σ (outG Γ Γ') where
  ff := G'.ff
  fh := G'.fh
  hh := G'.hh
  li := G'.li
  nw := G'.nw
  len := by rw [outG_len]; exact G.len
  en := fun i e he => by
    rcases outG_get a l he with ⟨d, rfl, h1⟩ | ⟨ds, ds', rfl, h1, h2⟩
    · obtain ⟨v, e1, r⟩ := G.sh h1
      exact ⟨some v, e1, v, rfl, r.mono x⟩
    · obtain ⟨p, xs, e1, _, _, _, e2⟩ := G.lent h1
      obtain ⟨q, ys, k1, k2, k3, k4, k5⟩ := G'.lent h2
      rw [e2] at k5
      cases k5
      exact ⟨some (.ref p), e1, p, ys, rfl, k2, k3, k4, e2⟩
  dj := fun i j p e e' h1 h2 m1 m2 h3 h4 => by
    rcases outG_get a l h1 with ⟨d, rfl, _⟩ | ⟨ds, ds', rfl, k1, _⟩
    · cases m1
    · rcases outG_get a l h2 with ⟨d, rfl, _⟩ | ⟨es, es', rfl, k2, _⟩
      · cases m2
      · exact G.dj i j p _ _ k1 k2 rfl rfl h3 h4
end
section
variable {P : Program} {w : World} {K : PySem.W.Frag} {mg : Str → Option Value} {base : Heap} {x qual : Str} {params : Arguments} {body : List Stmt} {scope : Scope} {f : Addr} {fd : FuncData} {N ps : List Str} {k : Nat} {C : Cn}
/-- THE RULE for a def over data: its reading t and, for each Γ and R that the contract allows, the run of t -/
theorem fn_ok (F : FunD K x qual params body scope [] [] f fd) (S : FnScope N ps scope) (hlen : ∀ Γ R, C Γ R → Γ.length = ps.length)
    (hb : ∀ (cdv : Value) (A : Around) (outer : List Env) (s : Shared) (H : Hp) (E : XK), Room k (A.deeper (envOfC qual scope s.heap.objs.size f cdv)) →
      ∃ t, PSs (cxOf CX0 P w K mg base N qual scope f cdv A outer s H E).nox body t ∧
        ∀ Γ R, C Γ R → argOk Γ → SW t (Γ ++ List.replicate (N.length - ps.length) .un) ⟨fun Γ' => R .non (outG Γ Γ') ∧ lentOk Γ Γ', fun d Γ' => R d (outG Γ Γ') ∧ lentOk Γ Γ', fun _ => False, fun _ => False⟩) :
    FnOk P w K mg base CX0 (k + 1) f fd ps (spE C) := by
  have ln : ∀ vs H Q E, spE C vs H Q E → vs.length = ps.length := fun vs H Q E ⟨c, F, Γ, R, G, a, hC, q⟩ => by
    have e := G.len
    rw [List.length_map] at e
    rw [e, hlen _ _ hC]
  refine F.ok S ln fun cdv A outer s H vs Q E hr h => ?_
  obtain ⟨t, h1, h2⟩ := hb cdv A outer s H E hr
  refine ⟨t, PSs.nox h1, ?_⟩
  have lv := ln vs H Q E h
  obtain ⟨c, F0, Γ, R, G, a, hC, q⟩ := h
  show t _ (vs.map some ++ List.replicate (N.length - vs.length) none) H
  rw [lv]
  refine h2 Γ R hC a c F0 H _ (G.start _) _ (fun Γ' F' H' σ' p G' x => ?_) (fun v d Γ' F' H' σ' p G' x r => ?_) (fun _ _ _ _ z => z.elim) (fun _ _ _ _ z => z.elim)
  · exact q .non .non _ F' H' p.1 (G.back G' x a p.2) x rfl
  · exact q v d _ F' H' p.1 (G.back G' x a p.2) x r
end
end DL
set_option Elab.async false
set_option linter.all false
set_option maxRecDepth 100000
set_option maxHeartbeats 4000000
/-! DL6: operations in the forms that unify. -/
namespace DL
open PySem PySem.Spec PyProof.Rows L2
def CPowW (i j : Int) : Prop := 0 ≤ j ∧ (Builtin.Int.intBits i : Int) * j ≤ 2 ^ 27
theorem op_powW {X : Cx} : OpR X (binaryOp .Pow) (rI CPowW fun i j => .int (i ^ j.toNat)) := opI fun _ _ _ _ _ _ _ hc q => pow_int hc.1 hc.2 q
section
variable {K : PySem.W.Frag} {Γ Γ' : List En} {te ta tb : TE} {tt tu : TT} {t u w : TS} {d x y z : D} {ds es : List D} {R : D → List En → Prop} {P : Po} {g : TG}
theorem rd_I0i {g : Int → Int → Int} {i j : Int} : RD (rI0 fun i j => .int (g i j)) (.int i) (.int j) (.int (g i j)) := rd_I0 fun _ => rfl
theorem rd_I0b {g : Int → Int → Bool} {i j : Int} : RD (rI0 fun i j => .bl (g i j)) (.int i) (.int j) (.bl (g i j)) := rd_I0 fun _ => rfl
theorem rd_Ii {C : Int → Int → Prop} {g : Int → Int → Int} {i j : Int} (h : C i j) : RD (rI C fun i j => .int (g i j)) (.int i) (.int j) (.int (g i j)) := rd_I h fun _ => rfl
theorem rd_eqI {i j : Int} : RD rEq (.int i) (.int j) (.bl (decide (i = j))) := rd_eq rfl rfl rfl (by by_cases h : i = j <;> simp [h])
theorem rd_neI {i j : Int} : RD rNe (.int i) (.int j) (.bl (!decide (i = j))) := rd_ne rfl rfl rfl (by by_cases h : i = j <;> simp [h])
theorem rd_eqS {i j : Str} : RD rEq (.str i) (.str j) (.bl (decide (i = j))) := rd_eq rfl rfl rfl (by by_cases h : i = j <;> simp [h])
theorem rd_neS {i j : Str} : RD rNe (.str i) (.str j) (.bl (!decide (i = j))) := rd_ne rfl rfl rfl (by by_cases h : i = j <;> simp [h])
/-- an if that leaves -/
theorem sw_guard {b : Bool} (h : EtP tt Γ b) (h1 : b = true → SW t Γ ⟨fun _ => False, P.rt, P.bk, P.ct⟩) (h2 : b = false → SW u Γ P) : SW (tSeq (tIfS tt t tNext) u) Γ P := by
  refine sw_seq (fun G' => b = false ∧ G' = Γ) (sw_if h (fun e => (h1 e).imp (fun _ z => z.elim) (fun _ _ z => z) (fun _ z => z) (fun _ z => z)) fun e => sw_next ⟨e, rfl⟩) ?_
  rintro _ ⟨e, rfl⟩
  exact h2 e
theorem sw_guardW {Rb : Bool → List En → Prop} (h : EtW tt Γ Rb) (h1 : ∀ Γ', Rb true Γ' → SW t Γ' ⟨fun _ => False, P.rt, P.bk, P.ct⟩) (h2 : ∀ Γ', Rb false Γ' → SW u Γ' P) : SW (tSeq (tIfS tt t tNext) u) Γ P := by
  refine sw_seq (fun G' => Rb false G') (sw_ifW h (fun G' e => (h1 G' e).imp (fun _ z => z.elim) (fun _ _ z => z) (fun _ z => z) (fun _ z => z)) fun G' e => sw_next e) ?_
  intro G' e
  exact h2 G' e
theorem q_asg {i : Nat} (h : EvP te Γ d) (k : SW u (Γ.set i (.sh d)) P) : SW (tSeq (tAsg te (gName i)) u) Γ P := sw_seq1 (sw_asg h rfl) k
theorem q_asgF {i : Nat} (h : EvF te Γ ds) (k : SW u (Γ.set i (.own ds)) P) : SW (tSeq (tAsg te (gName i)) u) Γ P := sw_seq1 (sw_asgF h rfl) k
theorem q_asgW {i : Nat} (h : EvW te Γ R) (k : ∀ d Γ', R d Γ' → SW u (Γ'.set i (.sh d)) P) : SW (tSeq (tAsg te (gName i)) u) Γ P :=
  sw_seq (fun G' => ∃ d Γ', R d Γ' ∧ G' = Γ'.set i (.sh d)) (sw_asgW h fun d Γ' r => ⟨d, Γ', r, rfl⟩) fun G' ⟨d, Γ', r, e⟩ => e ▸ k d Γ' r
theorem q_setM {i : Nat} {n : Int} {j : Nat} {tn : TE} (hv : EvP te Γ d) (h : Mt Γ i ds) (hi : EvP tn Γ (.int n)) (hj : ixN ds.length n = some j) (k : SW u (pt Γ i (ds.set j d)) P) : SW (tSeq (tAsg te (gSub (tVar i) tn rSetL)) u) Γ P := sw_seq1 (sw_setM hv h hi hj rfl) k
theorem q_app {i : Nat} (h : Mt Γ i ds) (hv : EvP te Γ d) (hl : ds.length < sizeLine) (k : SW u (pt Γ i (ds ++ [d])) P) : SW (tSeq (tDrop (tBM K "list" rAppend (tVar i) (tCons te tNil))) u) Γ P := sw_seq1 (sw_app h hv hl rfl) k
theorem q_drop (h : EvP te Γ d) (k : SW u Γ P) : SW (tSeq (tDrop te) u) Γ P := sw_seq1 (sw_drop h rfl) k
/-! ### built-in calls on ints -/
theorem rc_of {r : List V → Hp → VK → Prop} {ds : List D} {w : V} (h : ∀ F H vs, Reps F ds vs → ∀ Q : VK, Q w H → r vs H Q) (hz : ∀ F, Rep F z w) : RC r ds z := fun F H vs e rs Q k => h F H vs rs Q (k w F H (.refl e) (hz F))
end
end DL
set_option Elab.async false
set_option linter.all false
set_option maxRecDepth 100000
set_option maxHeartbeats 4000000
/-! DL7: expressions with effects; more operations. -/
namespace DL
open PySem PySem.Spec PyProof.Rows L2
section
variable {K : PySem.W.Frag} {Γ Γ' : List En} {te ta tb tc : TE} {tt tu : TT} {t u w : TS} {d x y z : D} {ds es : List D} {R R' : D → List En → Prop} {P : Po} {g : TG}
theorem EvW.imp (h : EvW te Γ R') (k : ∀ d Γ', R' d Γ' → R d Γ') : EvW te Γ R := fun c F H σ G Q q => h c F H σ G Q fun v d Γ' F' H' hr => q v d Γ' F' H' (k d Γ' hr)
theorem ew_op {r : R2} (ha : EvP ta Γ x) (hb : EvW tb Γ R') (hr : ∀ y Γ', R' y Γ' → ∃ z, RD r x y z ∧ R z Γ') : EvW (tOp r ta tb) Γ R := fun c F H σ G Q k =>
  ha c F H σ G _ fun v F1 H1 S1 r1 => hb c F1 H1 σ (G.step S1) _ fun u y Γ' F2 H2 hy G2 x2 f2 r2 => by
    obtain ⟨z, hz, hR⟩ := hr y Γ' hy
    exact hz F2 H2 v u G2.fh (r1.mono x2) r2 Q fun w F3 H3 S3 r3 => k w z Γ' F3 H3 hR (G2.step S3) (S1.f.trans (x2.trans S3.f)) (((Fr.stp S1).trans f2).trans (Fr.stp S3)) r3
theorem ew_opL {r : R2} (ha : EvW ta Γ R') (hb : ∀ x Γ', R' x Γ' → ∃ y z, EvP tb Γ' y ∧ RD r x y z ∧ R z Γ') : EvW (tOp r ta tb) Γ R := fun c F H σ G Q k =>
  ha c F H σ G _ fun v x Γ' F1 H1 hx G1 x1 f1 r1 => by
    obtain ⟨y, z, hy, hz, hR⟩ := hb x Γ' hx
    exact hy c F1 H1 σ G1 _ fun u F2 H2 S2 r2 => hz F2 H2 v u S2.fh (r1.mono S2.f) r2 Q fun w F3 H3 S3 r3 =>
      k w z Γ' F3 H3 hR ((G1.step S2).step S3) ((x1.trans S2.f).trans S3.f) ((f1.trans (Fr.stp S2)).trans (Fr.stp S3)) r3
/-- (a, b), b with effects -/
theorem ew_tup2 (ha : EvP ta Γ x) (hb : EvW tb Γ R') (hr : ∀ y Γ', R' y Γ' → R (.tup [x, y]) Γ') : EvW (tTup (tCons ta (tCons tb tNil))) Γ R := fun c F H σ G Q k =>
  ha c F H σ G _ fun v F1 H1 S1 r1 => hb c F1 H1 σ (G.step S1) _ fun u y Γ' F2 H2 hy G2 x2 f2 r2 => ⟨(by show 2 ≤ sizeLine; decide), fun p hp => by
    have S3 := Stp.new G2.fh (.tup [v, u]) hp
    exact k (.ref p) _ Γ' _ _ (hr y Γ' hy) (G2.step S3) (S1.f.trans (x2.trans S3.f)) (((Fr.stp S1).trans f2).trans (Fr.stp S3)) ⟨p, [v, u], rfl, upd_same, ⟨v, [u], rfl, (r1.mono x2).mono S3.f, u, [], rfl, r2.mono S3.f, rfl⟩⟩⟩
/-- a pure call whose one argument has effects -/
theorem ew_callA1 {C : Cn} (ha : EvW ta Γ R') (hc : ∀ x Γ', R' x Γ' → ∃ R'', C [.sh x] R'' ∧ ∀ e G, R'' e G → R e Γ') : EvW (tCall (spE C) [] E0 (tCons ta tNil)) Γ R := fun c F H σ G Q k =>
  ha c F H σ G _ fun v x Γ' F1 H1 hx G1 x1 f1 r1 => by
    obtain ⟨R'', hC, hR⟩ := hc x Γ' hx
    show spE C ([v] ++ []) H1 Q E0
    rw [List.append_nil]
    refine ⟨_, F1, [.sh x], R'', good_args (es := [x]) G1.fh (.one r1), argOk_sh [x], hC, fun w e G' F' H' hr Gz x' r => ?_⟩
    have S2 : Stp F1 H1 F' H' := ⟨x', fun a o q => Gz.hh a o q (fun ⟨_, z⟩ => by cases z), Gz.fh, Gz.nw⟩
    exact k w e Γ' F' H' (hR e G' hr) (G1.step S2) (x1.trans S2.f) (f1.trans (Fr.stp S2)) r
theorem etw_test {Rb : Bool → List En → Prop} (h : EvW te Γ R) (hr : ∀ e Γ', R e Γ' → ∃ b, e = .bl b ∧ Rb b Γ') : EtW (tTest te) Γ Rb := fun c F H σ G Q k => h c F H σ G _ fun v e Γ' F' H' he G' x _ r => by
  obtain ⟨b, rfl, hb⟩ := hr e Γ' he
  exact ⟨b, r, k b Γ' F' H' hb G' x⟩
theorem etw_B {Rb : Bool → List En → Prop} (h : EvW te Γ R) (hr : ∀ e Γ', R e Γ' → ∃ b, e = .bl b ∧ Rb b Γ') : EtW (tB te) Γ Rb := fun c F H σ G Q k => h c F H σ G _ fun v e Γ' F' H' he G' x _ r => by
  obtain ⟨b, rfl, hb⟩ := hr e Γ' he
  exact ⟨b, r, k b Γ' F' H' hb G' x⟩
theorem etw_not {Rb Rb' : Bool → List En → Prop} (h : EtW tt Γ Rb) (hr : ∀ b Γ', Rb b Γ' → Rb' (!b) Γ') : EtW (tNot tt) Γ Rb' := fun c F H σ G Q k => h c F H σ G _ fun b Γ' F' H' hb G' x => k _ Γ' F' H' (hr b Γ' hb) G' x
/-- x.pop(e) of a mutable list, e with effects -/
theorem ew_popAt {i : Nat} (hm : Mt Γ i ds) (he : EvW te Γ R') (hr : ∀ e Γ', R' e Γ' → ∃ (n : Nat) (d : D), e = .int n ∧ ds[n]? = some d ∧ n < 1000000 ∧ Mt Γ' i ds ∧ R d (pt Γ' i (ds.eraseIdx n))) :
    EvW (tBM K "list" rPopAt (tVar i) (tCons te tNil)) Γ R := fun c F H σ G Q k => by
  obtain ⟨p, xs, e0, h1, h2, h3, h4, h5, h6⟩ := G.mt hm
  refine ⟨_, h1, .inl ⟨rfl, _, SqL.of h2⟩, he c F H σ G _ fun v e Γ' F1 H1 hx G1 x1 f1 r1 => ?_⟩
  obtain ⟨n, d, rfl, hd, hn, m1, hR⟩ := hr e Γ' hx
  obtain ⟨p', ys, e1, k1, k2, k3, k4, k5, k6⟩ := G1.mt m1
  rw [h1] at k1; cases k1
  have hv : v = .int n := r1
  subst hv
  obtain ⟨y, hy, ry⟩ := k3.get hd
  have hlen : n < ys.length := (List.getElem?_eq_some_iff.mp hy).1
  refine ⟨p, ys, (n : Int), n, y, rfl, rfl, k2, by omega, by omega, ?_, hy, k y d _ F1 _ hR (G1.pt m1 h1 (k3.eraseIdx n)) x1 (fun a o ea na => ?_) ry⟩
  · unfold seqIndex?
    simp
    omega
  · have nap : a ≠ p := fun z => by
      subst z
      rcases hm with hm | hm
      · exact na i _ hm rfl h1
      · exact na i _ hm rfl h1
    obtain ⟨t1, t2, t3⟩ := f1 a o ea na
    refine ⟨by rw [upd_ne nap]; exact t1, t2, fun j e' hj m q => ?_⟩
    unfold pt at hj
    by_cases z : i = j
    · subst z; rw [h1] at q; cases q; exact nap rfl
    · rw [List.getElem?_set_ne z] at hj; exact t3 j e' hj m q
/-- a, b, c = [..], e, f with f having effects -/
theorem sw_par3F {i j l : Nat} (ha : EvF ta Γ ds) (hb : EvP tb Γ x) (hc : EvW tc Γ R) (hn : ∀ z Γ', R z Γ' → P.nx (((Γ'.set i (.own ds)).set j (.sh x)).set l (.sh z))) :
    SW (tPar3 i j l (tCons ta (tCons tb (tCons tc tNil)))) Γ P := fun c F H σ G D a b e f =>
  ha c F H σ G _ fun p xs F1 H1 S1 n1 f1 e1 r1 => hb c F1 H1 σ (G.step S1) _ fun u F2 H2 S2 r2 => hc c F2 H2 σ ((G.step S1).step S2) _ fun v z Γ' F3 H3 hz G3 x3 fr3 r3 => by
    have ns : NoSlot σ Γ p := G.noSlot n1
    have e2 : H2 p = some (.lst xs) := S2.h _ _ e1
    have f2 : F2 p = none := ((Fr.stp S2) p _ e1 ns).2.1 f1
    obtain ⟨e3, f3, n3⟩ := fr3 p _ e2 ns
    refine ⟨_, _, _, rfl, a _ F3 H3 _ (hn z Γ' hz) (((G3.setOwn n3 (f3 f2) e3 ((r1.mono S2.f).mono x3) (G.fresh n1)).setSh (r2.mono x3)).setSh r3) ((S1.f.trans S2.f).trans x3)⟩
/-- a, b = e, f -/
theorem sw_par {i j : Nat} (ha : EvP ta Γ x) (hb : EvP tb Γ y) (hn : P.nx ((Γ.set i (.sh x)).set j (.sh y))) : SW (tPar i j (tCons ta (tCons tb tNil))) Γ P := fun c F H σ G D a b e f =>
  ha c F H σ G _ fun v F1 H1 S1 r1 => hb c F1 H1 σ (G.step S1) _ fun u F2 H2 S2 r2 => ⟨_, _, rfl, a _ F2 H2 _ hn ((((G.step S1).step S2).setSh (r1.mono S2.f)).setSh r2) (S1.f.trans S2.f)⟩
/-- x.extend(e) -/
theorem sw_ext {i : Nat} (h : Mt Γ i ds) (hv : EvP te Γ (.lst es)) (hl : ds.length + es.length ≤ sizeLine) (hn : P.nx (pt Γ i (ds ++ es))) : SW (tDrop (tBM K "list" rExtend (tVar i) (tCons te tNil))) Γ P := fun c F H σ G D a b e f => by
  obtain ⟨p, xs, e', h1, h2, h3, h4, h5, h6⟩ := G.mt h
  refine ⟨_, h1, .inl ⟨rfl, _, SqL.of h2⟩, hv c F H σ G _ fun v F1 H1 S1 r1 => ?_⟩
  have G1 := G.step S1
  obtain ⟨q, ys, rfl, hq, rq⟩ := r1
  exact ⟨p, q, xs, ys, rfl, rfl, S1.h _ _ h2, S1.fh _ _ hq, by rw [h3.length, rq.length]; exact hl, a _ F1 _ σ hn (G1.pt h h1 ((h3.mono S1.f).append rq)) S1.f⟩
/-- sep.join(xs) -/
abbrev rJoin (K : PySem.W.Frag) : V → List V → Hp → VK → Prop := fun x xs H Q => ∃ a p, ∃ ys : List Str, x = .str a ∧ xs = [.ref p] ∧ (SqL K H p (ys.map V.str) ∨ SqT K H p (ys.map V.str)) ∧ (ys.map (·.length)).sum + ys.length * a.length ≤ 16777216 ∧ Q (.str (Txt.join a ys)) H
theorem ep_join {a : Str} {ys : List Str} (ha : EvP ta Γ (.str a)) (he : EvP te Γ (.lst (ys.map D.str))) (hl : (ys.map (·.length)).sum + ys.length * a.length ≤ 16777216) : EvP (tM1 (rJoin K) ta te) Γ (.str (Txt.join a ys)) := fun c F H σ G Q k =>
  ha c F H σ G _ fun v F1 H1 S1 r1 => ⟨⟨a, r1⟩, he c F1 H1 σ (G.step S1) _ fun u F2 H2 S2 r2 => by
    obtain ⟨p, xs, rfl, hp, rs⟩ := r2
    have ex := rs.strs_eq
    subst ex
    exact ⟨a, p, ys, r1, rfl, .inl (.inl (.inl (S2.fh _ _ hp))), hl, k _ F2 H2 (S1.trans S2) rfl⟩⟩
/-- tuple(xs), list(t) -/
abbrev rTuple (K : PySem.W.Frag) : List V → Hp → VK → Prop := fun xs H Q => ∃ p ys, xs = [.ref p] ∧ ((SqL K H p ys ∧ ∀ l, H l = none → Q (.ref l) (upd H l (.tup ys))) ∨ (SqT K H p ys ∧ Q (.ref p) H))
theorem rc_tuple : RC (rTuple K) [.lst ds] (.tup ds) := fun F H vs e r Q k => by
  obtain ⟨v, _, rfl, ⟨a, xs, rfl, hs, r1⟩, rfl⟩ := r
  refine ⟨a, xs, rfl, .inl ⟨.inl (.inl (e _ _ hs)), fun l hl => ?_⟩⟩
  have S := Stp.new e (.tup xs) hl
  exact k _ _ _ S ⟨l, xs, rfl, upd_same, r1.mono S.f⟩
/-- tuple(x), x a mutable list -/
theorem ep_tupleM {i : Nat} (h : Mt Γ i ds) : EvP (tCB (rTuple K) (tCons (tVar i) tNil)) Γ (.tup ds) := fun c F H σ G Q k => by
  obtain ⟨p, xs, e', h1, h2, h3, h4, h5, h6⟩ := G.mt h
  refine ⟨_, h1, p, xs, rfl, .inl ⟨.inl (.inl h2), fun l hl => ?_⟩⟩
  have S := Stp.new G.fh (.tup xs) hl
  exact k _ _ _ S ⟨l, xs, rfl, upd_same, h3.mono S.f⟩
abbrev rList (K : PySem.W.Frag) : List V → Hp → VK → Prop := fun xs H Q => ∃ p ys, xs = [.ref p] ∧ (SqL K H p ys ∨ SqT K H p ys) ∧ ∀ l, H l = none → Q (.ref l) (upd H l (.lst ys))
theorem rcf_listT : RCF (rList K) [.tup ds] ds := fun F H vs e r Q k => by
  obtain ⟨v, _, rfl, ⟨a, xs, rfl, hs, r1⟩, rfl⟩ := r
  refine ⟨a, xs, rfl, .inr (.inl (.inl (e _ _ hs))), fun l hl => ?_⟩
  have S := Stp.loose e (.lst xs) hl
  refine k l xs _ _ S hl ?_ upd_same r1
  cases q : F l with
  | none => rfl
  | some u => rw [e _ _ q] at hl; cases hl
theorem rcf_listL : RCF (rList K) [.lst ds] ds := fun F H vs e r Q k => by
  obtain ⟨v, _, rfl, ⟨a, xs, rfl, hs, r1⟩, rfl⟩ := r
  refine ⟨a, xs, rfl, .inl (.inl (.inl (e _ _ hs))), fun l hl => ?_⟩
  have S := Stp.loose e (.lst xs) hl
  refine k l xs _ _ S hl ?_ upd_same r1
  cases q : F l with
  | none => rfl
  | some u => rw [e _ _ q] at hl; cases hl
abbrev rLenStr : List V → Hp → VK → Prop := fun xs H Q => ∃ z, xs = [.str z] ∧ z.length ≤ sizeLine ∧ Q (.int z.length) H
theorem rc_lenStr {z : Str} (h : z.length ≤ sizeLine) : RC rLenStr [.str z] (.int z.length) := fun F H vs e r Q k => by
  obtain ⟨v, _, rfl, rv, rfl⟩ := r
  have rv' : v = .str z := rv
  subst rv'
  exact ⟨z, rfl, h, k _ F H (.refl e) rfl⟩
/-- x in (texts) -/
theorem inV_str (x : Str) : ∀ ys : List Str, inV (.str x) (ys.map V.str) = decide (x ∈ ys)
  | [] => by simp [inV]
  | y :: ys => by
    have q := inV_str x ys
    unfold inV at q ⊢
    rw [List.map_cons, List.any_cons, q]
    show ((y == x) || decide (x ∈ ys)) = decide (x ∈ y :: ys)
    by_cases e : x = y
    · subst e; simp
    · have e' : (y == x) = false := by simpa using fun z => e z.symm
      simp [e, e']
theorem flat_strs : ∀ ys : List Str, (ys.map V.str).all flatV = true
  | [] => rfl
  | _ :: ys => flat_strs ys
theorem rd_inS {neg : Bool} {a : Str} {ys : List Str} : RD (rIn K neg) (.str a) (.tup (ys.map D.str)) (.bl (if neg then !decide (a ∈ ys) else decide (a ∈ ys))) := fun F H vx vy e rx ry Q k => by
  obtain ⟨p, xs, rfl, hp, rs⟩ := ry
  have ex := rs.strs_eq
  subst ex
  have rx' : vx = .str a := rx
  subst rx'
  exact ⟨p, _, rfl, .inr (.inl (.inl (e _ _ hp))), rfl, flat_strs ys, by rw [inV_str]; exact k _ F H (.refl e) rfl⟩
/-- xs[::-1] -/
theorem ef_rev (h : EvP te Γ (.lst ds)) : EvF (tRevL K te) Γ ds.reverse := fun c F H σ G Q k => h c F H σ G _ fun v F1 H1 S1 r1 => by
  obtain ⟨a, xs, rfl, hs, r⟩ := r1
  refine ⟨a, xs, rfl, .inl (.inl (S1.fh _ _ hs)), fun p hp => ?_⟩
  refine k p xs.reverse F1 _ (S1.trans (.loose S1.fh _ hp)) ?_ ?_ upd_same r.reverse
  · cases q : H p with
    | none => rfl
    | some o => rw [S1.h _ _ q] at hp; cases hp
  · cases q : F1 p with
    | none => rfl
    | some o => rw [S1.fh _ _ q] at hp; cases hp
/-! == of data -/
mutual
def pyD : D → Option PyData
  | .non => some .none
  | .bl b => some (.bool b)
  | .int i => some (.int i)
  | .str x => some (.str x)
  | .lst ds => (pyDs ds).map .list
  | .tup ds => (pyDs ds).map .tuple
  | _ => none
def pyDs : List D → Option (List PyData)
  | [] => some []
  | d :: ds => match pyD d, pyDs ds with
    | some p, some ps => some (p :: ps)
    | _, _ => none
end
mutual
theorem dp_of {F H : Hp} (e : Ex F H) : ∀ {d : D} {p : PyData} {v : V}, pyD d = some p → Rep F d v → Dp K H v p
  | .non, _, _, h, r => by cases h; cases r; exact .non
  | .bl b, _, _, h, r => by cases h; cases r; exact .bl b
  | .int i, _, _, h, r => by cases h; cases r; exact .int i
  | .str x, _, _, h, r => by cases h; cases r; exact .str x
  | .lst ds, p, _, h, ⟨a, xs, h1, h2, h3⟩ => by
    simp only [pyD, Option.map_eq_some_iff] at h
    obtain ⟨ps, q, rfl⟩ := h
    cases h1
    exact .lst (.inl (.inl (e _ _ h2))) (dps_of e q h3)
  | .tup ds, p, _, h, ⟨a, xs, h1, h2, h3⟩ => by
    simp only [pyD, Option.map_eq_some_iff] at h
    obtain ⟨ps, q, rfl⟩ := h
    cases h1
    exact .tup (.inl (.inl (e _ _ h2))) (dps_of e q h3)
  | .ref _, _, _, h, _ => by simp [pyD] at h
  | .ty _, _, _, h, _ => by simp [pyD] at h
  | .obj _ _, _, _, h, _ => by simp [pyD] at h
  | .scr _ _ _, _, _, h, _ => by simp [pyD] at h
  | .dct _, _, _, h, _ => by simp [pyD] at h
  | .dki _, _, _, h, _ => by simp [pyD] at h
  | .opq _, _, _, h, _ => by simp [pyD] at h
theorem dps_of {F H : Hp} (e : Ex F H) : ∀ {ds : List D} {ps : List PyData} {xs : List V}, pyDs ds = some ps → Reps F ds xs → DpAll K H xs ps
  | [], _, _, h, r => by cases h; cases r; exact .nil
  | d :: ds, ps, _, h, ⟨v, r, h1, h2, h3⟩ => by
    cases h1
    simp only [pyDs] at h
    cases q : pyD d with
    | none => rw [q] at h; cases h
    | some p =>
      cases q2 : pyDs ds with
      | none => rw [q, q2] at h; cases h
      | some ps' =>
        rw [q, q2] at h
        cases h
        exact .cons (dp_of e q h2) (dps_of e q2 h3)
end
theorem rd_eqD {p q : PyData} (hp : pyD x = some p) (hq : pyD y = some q) (s1 : SeqAt.shaped p = true) (s2 : SeqAt.shaped q = true) : RD (rEqD K) x y (.bl (PyData.eqv p q)) := fun F H vx vy e rx ry Q k =>
  ⟨p, q, dp_of e hp rx, dp_of e hq ry, s1, s2, k _ F H (.refl e) rfl⟩
theorem rd_neD {p q : PyData} (hp : pyD x = some p) (hq : pyD y = some q) (s1 : SeqAt.shaped p = true) (s2 : SeqAt.shaped q = true) : RD (rNeD K) x y (.bl (!PyData.eqv p q)) := fun F H vx vy e rx ry Q k =>
  ⟨p, q, dp_of e hp rx, dp_of e hq ry, s1, s2, k _ F H (.refl e) rfl⟩
/-- the name x stands for a def that keeps sp -/
structure Cal (P : Program) (w : World) (K : PySem.W.Frag) (mg : Str → Option Value) (base : Heap) (k : Nat) (x : Str) (sp : Sp) : Prop where
  ex : ∃ (f : Addr) (fd : FuncData) (ps : List Str), FnOk P w K mg base CX0 k f fd ps sp ∧ mg x = some (.ref f) ∧ PySem.W.keepIn K (.ref f) = true ∧ Binds K fd ps []
theorem pe_c {X : Cx} {k j : Nat} {x : Str} {sp : Sp} {p pos : Pos} {e : Expr} {es : List Expr} {t : TA} (c : Cal X.prog X.w X.K X.mg X.base k x sp) (hr : Room j X.A) (hk : k ≤ j) (hg : Gl X x) (ha : PA X (e :: es) t)
    (hdb : (x == ("__debug__" : Str)) = false := by decide) (he : starEach (e :: es) X.env = (false, eval e X.env) :: starEach es X.env := by rfl) (hpl : (backTo pos (starEach es X.env)).any (·.1) = false := by rfl) :
    PE X (.Call (.Name x p) (e :: es) [] pos) (tCall sp [] E0 t) := by
  obtain ⟨f, fd, ps, F, hm, kp, b⟩ := c.ex
  exact pe_call F (hr.mono hk) hg hm kp b .nil pass0 ha hdb he hpl
end
theorem pe_gc {X : Cx} {x : Str} {v : V} {pos : Pos} (hg : Gl X x) (h : ∃ u, X.mg x = some u ∧ RelV v u) (hd : (x == ("__debug__" : Str)) = false := by decide) : PE X (.Name x pos) (tC v) := by
  obtain ⟨u, h1, h2⟩ := h
  exact pe_glob hg h1 h2 hd
theorem pe_fldK {X : Cx} {K : PySem.W.Frag} {e : Expr} {f : Str} {ta : TE} {pos : Pos} (he : PE X e ta) (hb : attributeBase e f X.env (eval e X.env) = eval e X.env) (hK : X.K = K := by rfl) : PE X (.Attribute e f pos) (tFld K ta f) := hK ▸ pe_fld he hb
/-- list.count of a text in a list of texts -/
def isS (k : Str) (v : Value) : Bool := match v with
  | .str x _ => x == k
  | _ => false
def rCntS (K : PySem.W.Frag) : V → List V → Hp → VK → Prop := fun x xs H Q => ∃ (p : Addr) (ns : List Str) (k : Str), x = .ref p ∧ xs = [.str k] ∧ SqL K H p (ns.map V.str) ∧ Q (.int (ns.count k : Nat)) H
theorem isS_count (k : Str) : ∀ {ns : List Str} {its : List Value}, Vals (ns.map V.str) its → its.countP (isS k) = ns.count k
  | [], _, h => by cases h; rfl
  | n :: ns, _, h => by
    cases h with
    | cons h1 h2 =>
      obtain ⟨t, rfl⟩ := h1
      rw [List.countP_cons, List.count_cons, isS_count k h2]
      rfl
theorem isS_eq (k : Str) : ∀ {ns : List Str} {its : List Value} {y : Value}, Vals (ns.map V.str) its → y ∈ its → ∃ x t, y = .str x t
  | [], _, _, h, hy => by cases h; cases hy
  | n :: ns, _, y, h, hy => by
    cases h with
    | cons h1 h2 =>
      rcases List.mem_cons.mp hy with e | e
      · subst e; obtain ⟨t, rfl⟩ := h1; exact ⟨n, t, rfl⟩
      · exact isS_eq k h2 e
theorem mt_countS {X : Cx} : MtR X "list.count" (rCntS X.K) := by
  intro pins s σ H x xs v us Q I rx rxs h
  obtain ⟨p, ns, k, rfl, rfl, hs, q⟩ := h
  cases rx
  obtain ⟨u, rfl, ru⟩ := rxs.one
  obtain ⟨t, rfl⟩ := ru
  obtain ⟨its, rv, ⟨⟨cls, dd, data, sl⟩, n, ho, hc, hdn, hd⟩, hlen⟩ := I.list hs
  simp only at hc hd
  subst hc hd
  refine call_meets PySem.F.slot_list_count ⟨_, ho, rfl⟩ PySem.F.entry_list_count (PySem.F.args_list_count_2 _ _)
    (SeqAt.list_countAt p its.toArray n dd sl (.str k t) (isS k)) ⟨ho, fun y hy => ?_, ?_⟩
  · obtain ⟨x, t', rfl⟩ := isS_eq k rv (by simpa using hy)
    have q1 := eqAt_V (A := X.A.in1) (s := s) (y := .str x) (x := .str k) (u := .str x t') (v := .str k t) ⟨t', rfl⟩ ⟨t, rfl⟩ rfl rfl
    exact q1
  · have ec : its.toArray.toList.countP (isS k) = ns.count k := isS_count k rv
    refine ⟨.int (ns.count k : Nat), H, I.tok _, ⟨s.toks, ?_⟩, q⟩
    show Value.int ((its.toArray.toList.countP (isS k) : Nat) : Int) s.toks = Value.int ((ns.count k : Nat) : Int) s.toks
    rw [ec]
end DL
set_option Elab.async false
set_option linter.all false
set_option maxRecDepth 100000
set_option maxHeartbeats 4000000
/-! T1: the law's trees, as plain data. -/
namespace Lw
open PySem PySem.Spec PyProof.Rows L2 DL
inductive Tr where
  | v
  | o (l : Bool) (t : Tr)
  | r (fs : List (Str × Tr))
def oS (l : Bool) : Str := if l then "l" else "m"
def sO (l : Bool) : Str := if l then "[" else "?"
mutual
def trD : Tr → D
  | .v => .tup [.str "v"]
  | .o b t => .tup [.str (sO b), trD t]
  | .r fs => .tup [.str "{", .lst (trDs fs)]
def trDs : List (Str × Tr) → List D
  | [] => []
  | (n, t) :: r => .tup [.str n, trD t] :: trDs r
end
mutual
def lv : Tr → Nat
  | .v => 1
  | .o _ t => lv t
  | .r fs => lvs fs
def lvs : List (Str × Tr) → Nat
  | [] => 0
  | (_, t) :: r => lv t + lvs r
end
mutual
def dp : Tr → Nat
  | .v => 0
  | .o _ t => dp t + 1
  | .r fs => dps fs + 1
def dps : List (Str × Tr) → Nat
  | [] => 0
  | (_, t) :: r => max (dp t) (dps r)
end
mutual
def op : Tr → Nat
  | .v => 0
  | .o _ t => op t + 1
  | .r fs => ops fs
def ops : List (Str × Tr) → Nat
  | [] => 0
  | (_, t) :: r => max (op t) (ops r)
end
def NM : List Str := ["a", "v", "xy", "b"]
mutual
def ok : Tr → Prop
  | .v => True
  | .o _ t => ok t
  | .r fs => fs ≠ [] ∧ (fs.map (·.1)).Nodup ∧ (∀ x ∈ fs.map (·.1), x ∈ NM) ∧ oks fs
def oks : List (Str × Tr) → Prop
  | [] => True
  | (_, t) :: r => ok t ∧ oks r
end
theorem trDs_append : ∀ (xs ys : List (Str × Tr)), trDs (xs ++ ys) = trDs xs ++ trDs ys
  | [], _ => rfl
  | (n, t) :: r, ys => by simp [trDs, trDs_append r ys]
theorem lvs_append : ∀ (xs ys : List (Str × Tr)), lvs (xs ++ ys) = lvs xs + lvs ys
  | [], _ => by simp [lvs]
  | (n, t) :: r, ys => by simp [lvs, lvs_append r ys]; omega
theorem dps_append : ∀ (xs ys : List (Str × Tr)), dps (xs ++ ys) = max (dps xs) (dps ys)
  | [], _ => by simp [dps]
  | (n, t) :: r, ys => by simp [dps, dps_append r ys, Nat.max_assoc]
theorem ops_append : ∀ (xs ys : List (Str × Tr)), ops (xs ++ ys) = max (ops xs) (ops ys)
  | [], _ => by simp [ops]
  | (n, t) :: r, ys => by simp [ops, ops_append r ys, Nat.max_assoc]
theorem oks_append : ∀ (xs ys : List (Str × Tr)), oks (xs ++ ys) ↔ oks xs ∧ oks ys
  | [], _ => by simp [oks]
  | (n, t) :: r, ys => by simp [oks, oks_append r ys, and_assoc]
theorem trDs_len : ∀ (xs : List (Str × Tr)), (trDs xs).length = xs.length
  | [] => rfl
  | (n, t) :: r => by simp [trDs, trDs_len r]
theorem trDs_map (xs : List (Str × Tr)) : trDs xs = xs.map fun p => .tup [.str p.1, trD p.2] := by
  induction xs with
  | nil => rfl
  | cons p r ih => obtain ⟨n, t⟩ := p; simp [trDs, ih]
theorem map_erase {α β : Type} (f : α → β) : ∀ (l : List α) (k : Nat), (l.map f).eraseIdx k = (l.eraseIdx k).map f
  | [], _ => rfl
  | _ :: _, 0 => rfl
  | a :: l, k + 1 => congrArg (f a :: ·) (map_erase f l k)
theorem perm_erase {α : Type} : ∀ (l : List α) (k : Nat) (h : k < l.length), (l[k] :: l.eraseIdx k).Perm l
  | [], _, h => absurd h (Nat.not_lt_zero _)
  | a :: l, 0, _ => .refl _
  | a :: l, k + 1, h => (List.Perm.swap a _ _).trans ((perm_erase l k (Nat.lt_of_succ_lt_succ h)).cons a)
/-- how many draws a tree takes at most -/
def S : Nat → Nat
  | 0 => 1
  | d + 1 => 10 + 4 * S d
theorem S_mono : ∀ {d e : Nat}, d ≤ e → S d ≤ S e
  | 0, 0, _ => Nat.le_refl _
  | 0, e + 1, _ => by simp [S]; omega
  | d + 1, e + 1, h => by have := S_mono (d := d) (e := e) (by omega); simp [S]; omega
/-! the spring -/
structure Sp (a b c : Int) (n : Nat) : Prop where
  a0 : 0 ≤ a
  b0 : 0 ≤ b
  b1 : b < 2 ^ 200
  c0 : 0 ≤ c
  c1 : c ≤ n
theorem Sp.mono {a b c : Int} {n m : Nat} (h : Sp a b c n) (k : n ≤ m) : Sp a b c m := ⟨h.a0, h.b0, h.b1, h.c0, by have := h.c1; omega⟩
def spr (a b c : Int) : List D := [.int a, .int b, .int c]
theorem cpow3 {x : Int} (h0 : 0 ≤ x) (h1 : x < 2 ^ 300) : CPowW x 3 := by
  refine ⟨by decide, ?_⟩
  have h := intBits_le (a := x) (k := 300) (by omega)
  omega
def C_count (N : Nat) : Cn := fun Γ R => ∃ t : Tr, Γ = [.sh (trD t)] ∧ ok t ∧ dp t < N ∧ lv t ≤ 1000 ∧ R = fun d _ => d = .int (lv t)
/-! texts and nodes of trees -/
mutual
def tx : Tr → List Nat
  | .v => [118]
  | .o true t => 91 :: (tx t ++ [93])
  | .o false t => 63 :: tx t
  | .r fs => 123 :: (TL.joinL [32] (txs fs) ++ [125])
def txs : List (Str × Tr) → List (List Nat)
  | [] => []
  | (n, t) :: r => (n.cps.toList ++ 58 :: tx t) :: txs r
end
mutual
theorem lv_pos : ∀ t : Tr, ok t → 1 ≤ lv t
  | .v, _ => Nat.le_refl _
  | .o _ t, h => lv_pos t h
  | .r fs, ⟨h1, _, _, h2⟩ => by
    cases fs with
    | nil => exact absurd rfl h1
    | cons p r =>
      obtain ⟨n, t⟩ := p
      have := lv_pos t h2.1
      show 1 ≤ lv t + lvs r
      omega
theorem lvs_pos : ∀ fs : List (Str × Tr), oks fs → fs.length ≤ lvs fs
  | [], _ => Nat.le_refl _
  | (n, t) :: r, h => by
    have h1 := lv_pos t h.1
    have h2 := lvs_pos r h.2
    show r.length + 1 ≤ lv t + lvs r
    omega
end
theorem NM_len : ∀ x ∈ NM, x.length ≤ 2 := by decide +kernel
theorem joinL_len (a : List Nat) : ∀ ys : List (List Nat), (TL.joinL a ys).length ≤ (ys.map (·.length)).sum + ys.length * a.length
  | [] => by simp [TL.joinL]
  | [y] => by simp [TL.joinL]
  | y :: z :: r => by
    have h := joinL_len a (z :: r)
    have e : (y :: z :: r).length * a.length = (z :: r).length * a.length + a.length := Nat.succ_mul _ _
    show (y ++ (a ++ TL.joinL a (z :: r))).length ≤ (y.length + ((z :: r).map (·.length)).sum) + _
    rw [e, List.length_append, List.length_append]
    omega
def C_shown (N : Nat) : Cn := fun Γ R => ∃ t : Tr, Γ = [.sh (trD t)] ∧ ok t ∧ dp t < N ∧ lv t * (dp t + 1) ≤ 100000 ∧ R = fun d _ => d = .str (SX.S (tx t))
end Lw
set_option Elab.async false
set_option linter.all false
set_option maxRecDepth 100000
set_option maxHeartbeats 4000000
/-! R1: what the reader makes of a tree's text, as plain data. -/
namespace Lw
open PySem PySem.Spec PyProof.Rows L2 DL
mutual
def sz : Tr → Nat
  | .v => 1
  | .o _ t => sz t + 1
  | .r fs => szs fs + 1
def szs : List (Str × Tr) → Nat
  | [] => 0
  | (_, t) :: r => sz t + szs r
end
mutual
def kd : Tr → List Str
  | .v => ["value"]
  | .o true t => "list" :: kd t
  | .o false t => "maybe" :: kd t
  | .r fs => "record" :: kds fs
def kds : List (Str × Tr) → List Str
  | [] => []
  | (_, t) :: r => kd t ++ kds r
end
mutual
def pa : Tr → Nat → Int → List Int
  | .v, _, p => [p]
  | .o _ t, n, p => p :: pa t (n + 1) n
  | .r fs, n, p => p :: pas fs (n + 1) n
def pas : List (Str × Tr) → Nat → Int → List Int
  | [], _, _ => []
  | (_, t) :: r, k, p => pa t k p ++ pas r (k + sz t) p
end
mutual
def nm : Tr → Option Str → List (Option Str)
  | .v, x => [x]
  | .o _ t, x => x :: nm t none
  | .r fs, x => x :: nms fs
def nms : List (Str × Tr) → List (Option Str)
  | [] => []
  | (s, t) :: r => nm t (some s) ++ nms r
end
/-- the numbers of the fields' nodes -/
def cn : List (Str × Tr) → Nat → List Nat
  | [], _ => []
  | (_, t) :: r, k => k :: cn r (k + sz t)
mutual
def ch : Tr → Nat → List (List Nat)
  | .v, _ => [[]]
  | .o _ t, n => [n + 1] :: ch t (n + 1)
  | .r fs, n => cn fs (n + 1) :: chs fs (n + 1)
def chs : List (Str × Tr) → Nat → List (List Nat)
  | [], _ => []
  | (_, t) :: r, k => ch t k ++ chs r (k + sz t)
end
/-- where the fields of a record end, the blank behind the last one counted -/
def flen : List (Str × Tr) → Nat
  | [] => 0
  | (s, t) :: r => s.cps.toList.length + 1 + (tx t).length + 1 + flen r

mutual
def bg : Tr → Nat → List Nat
  | .v, a => [a]
  | .o _ t, a => a :: bg t (a + 1)
  | .r fs, a => a :: bgs fs (a + 1)
def bgs : List (Str × Tr) → Nat → List Nat
  | [], _ => []
  | (s, t) :: r, a => bg t (a + (s.cps.toList.length + 1)) ++ bgs r (a + (s.cps.toList.length + 1 + (tx t).length + 1))
end
mutual
def en : Tr → Nat → List Nat
  | .v, a => [a + 1]
  | .o true t, a => (a + 1 + (tx t).length + 1) :: en t (a + 1)
  | .o false t, a => (a + 1 + (tx t).length) :: en t (a + 1)
  | .r fs, a => (a + 1 + ((TL.joinL [32] (txs fs)).length + 1)) :: ens fs (a + 1)
def ens : List (Str × Tr) → Nat → List Nat
  | [], _ => []
  | (s, t) :: r, a => en t (a + (s.cps.toList.length + 1)) ++ ens r (a + (s.cps.toList.length + 1 + (tx t).length + 1))
end
mutual
theorem bg_len : ∀ (t : Tr) (a : Nat), (bg t a).length = sz t
  | .v, _ => rfl
  | .o _ t, a => by simp [bg, sz, bg_len t]
  | .r fs, a => by simp [bg, sz, bgs_len fs]
theorem bgs_len : ∀ (fs : List (Str × Tr)) (a : Nat), (bgs fs a).length = szs fs
  | [], _ => rfl
  | (_, t) :: r, a => by simp [bgs, szs, bg_len t, bgs_len r]
end
mutual
theorem en_len : ∀ (t : Tr) (a : Nat), (en t a).length = sz t
  | .v, _ => rfl
  | .o true t, a => by simp [en, sz, en_len t]
  | .o false t, a => by simp [en, sz, en_len t]
  | .r fs, a => by simp [en, sz, ens_len fs]
theorem ens_len : ∀ (fs : List (Str × Tr)) (a : Nat), (ens fs a).length = szs fs
  | [], _ => rfl
  | (_, t) :: r, a => by simp [ens, szs, en_len t, ens_len r]
end
mutual
theorem kd_len : ∀ t : Tr, (kd t).length = sz t
  | .v => rfl
  | .o true t => by simp [kd, sz, kd_len t]
  | .o false t => by simp [kd, sz, kd_len t]
  | .r fs => by simp [kd, sz, kds_len fs]
theorem kds_len : ∀ fs : List (Str × Tr), (kds fs).length = szs fs
  | [] => rfl
  | (_, t) :: r => by simp [kds, szs, kd_len t, kds_len r]
end
mutual
theorem ch_len : ∀ (t : Tr) (n : Nat), (ch t n).length = sz t
  | .v, _ => rfl
  | .o _ t, n => by simp [ch, sz, ch_len t]
  | .r fs, n => by simp [ch, sz, chs_len fs]
theorem chs_len : ∀ (fs : List (Str × Tr)) (n : Nat), (chs fs n).length = szs fs
  | [], _ => rfl
  | (_, t) :: r, n => by simp [chs, szs, ch_len t, chs_len r]
end
/-- how many values a list of kinds has -/
def vals (ks : List Str) : Nat := ks.count ("value" : Str)
mutual
theorem kd_vals : ∀ t : Tr, vals (kd t) = lv t
  | .v => rfl
  | .o true t => by
    show (("list" : Str) :: kd t).count ("value" : Str) = lv t
    rw [List.count_cons_of_ne (by decide +kernel)]
    exact kd_vals t
  | .o false t => by
    show (("maybe" : Str) :: kd t).count ("value" : Str) = lv t
    rw [List.count_cons_of_ne (by decide +kernel)]
    exact kd_vals t
  | .r fs => by
    show (("record" : Str) :: kds fs).count ("value" : Str) = lvs fs
    rw [List.count_cons_of_ne (by decide +kernel)]
    exact kds_vals fs
theorem kds_vals : ∀ fs : List (Str × Tr), vals (kds fs) = lvs fs
  | [] => rfl
  | (n, t) :: r => by
    show (kd t ++ kds r).count ("value" : Str) = lv t + lvs r
    rw [List.count_append]
    have h1 := kd_vals t
    have h2 := kds_vals r
    unfold vals at h1 h2
    omega
end
/-- the reader's state -/
structure RS where
  cs : List Nat
  at_ : Nat
  kinds : List Str
  parents : List Int
  names : List (Option Str)
  children : List (List Nat)
  begins : List Nat
  ends : List Nat
def addCh (c : List (List Nat)) (p : Int) (n : Nat) : List (List Nat) := if 0 ≤ p then c.modify p.toNat (· ++ [n]) else c
/-- behind a node -/
def RS.node (r : RS) (t : Tr) (p : Int) (x : Option Str) : RS :=
  { r with at_ := r.at_ + (tx t).length, kinds := r.kinds ++ kd t, parents := r.parents ++ pa t r.kinds.length p, names := r.names ++ nm t x, children := addCh r.children p r.kinds.length ++ ch t r.kinds.length, begins := r.begins ++ bg t r.at_, ends := r.ends ++ en t r.at_ }
/-- behind the first fields of the record at node p, which begin at k nodes -/
def RS.flds (r : RS) (fs : List (Str × Tr)) (p : Nat) (len : Nat) : RS :=
  { r with at_ := r.at_ + len, kinds := r.kinds ++ kds fs, parents := r.parents ++ pas fs r.kinds.length p, names := r.names ++ nms fs, children := r.children.modify p (· ++ cn fs r.kinds.length) ++ chs fs r.kinds.length, begins := r.begins ++ bgs fs r.at_, ends := r.ends ++ ens fs r.at_ }
theorem modify_append_left {α : Type} (f : α → α) : ∀ (a b : List α) (i : Nat), i < a.length → (a ++ b).modify i f = a.modify i f ++ b
  | [], _, _, h => absurd h (Nat.not_lt_zero _)
  | x :: a, b, 0, _ => rfl
  | x :: a, b, i + 1, h => by
    have q := modify_append_left f a b i (Nat.lt_of_succ_lt_succ h)
    simpa using q
theorem modify_last {α : Type} (f : α → α) : ∀ (a : List α) (x : α) (b : List α), (a ++ x :: b).modify a.length f = a ++ f x :: b
  | [], _, _ => rfl
  | y :: a, x, b => by
    have q := modify_last f a x b
    simpa using q
theorem modify_modify {α : Type} (f g : α → α) : ∀ (a : List α) (i : Nat), (a.modify i f).modify i g = a.modify i (g ∘ f)
  | [], i => by simp
  | x :: a, 0 => rfl
  | x :: a, i + 1 => by
    have q := modify_modify f g a i
    simpa using q
theorem addCh_len (c : List (List Nat)) (p : Int) (n : Nat) : (addCh c p n).length = c.length := by
  unfold addCh
  split <;> simp
end Lw
set_option Elab.async false
set_option linter.all false
set_option maxRecDepth 100000
set_option autoImplicit false
set_option maxHeartbeats 4000000
/-! R2: a reader in the heap; steps without the data layer. -/
namespace Lw
open PySem PySem.Spec PyProof.Rows L2 DL
/-- a reader's addresses: its class, itself, its dict, its lists -/
structure RC where
  C : Addr
  p : Addr
  dx : Addr
  kA : Addr
  pA : Addr
  nA : Addr
  cA : Addr
  bA : Addr
  eA : Addr
def nV : Option Str → V
  | none => .non
  | some s => .str s
def RC.fs (c : RC) (r : RS) : List (Str × V) := [("signs", .str (SX.S r.cs)), ("at", .int (r.at_ : Nat)), ("kinds", .ref c.kA), ("parents", .ref c.pA), ("names", .ref c.nA), ("children", .ref c.cA), ("begins", .ref c.bA), ("ends", .ref c.eA)]
def RC.foot (c : RC) (ca : List Addr) : List Addr := c.p :: c.kA :: c.pA :: c.nA :: c.cA :: c.bA :: c.eA :: ca
def nI (n : Nat) : V := .int n
structure RdC (c : RC) (H0 H : Hp) (r : RS) (ca : List Addr) : Prop where
  ins : H c.p = some (.ins c.C c.dx (c.fs r))
  kk : H c.kA = some (.lst (r.kinds.map V.str))
  pp : H c.pA = some (.lst (r.parents.map V.int))
  nn : H c.nA = some (.lst (r.names.map nV))
  cc : H c.cA = some (.lst (ca.map V.ref))
  bb : H c.bA = some (.lst (r.begins.map nI))
  ee : H c.eA = some (.lst (r.ends.map nI))
  cl : ca.length = r.children.length
  ch : ∀ (i : Nat) (a : Addr) (l : List Nat), ca[i]? = some a → r.children[i]? = some l → H a = some (.lst (l.map nI))
  nd : (c.foot ca).Nodup
  nw : ∀ a ∈ c.foot ca, H0 a = none
  keep : ∀ a o, H0 a = some o → H a = some o
def RdAt (c : RC) (H0 H : Hp) (r : RS) : Prop := ∃ ca, RdC c H0 H r ca
section
variable {c : RC} {H0 H : Hp} {r : RS} {ca : List Addr}
theorem nodup_dif {l : List Addr} (h : l.Nodup) {i j : Nat} {a b : Addr} (hi : l[i]? = some a) (hj : l[j]? = some b) (n : i ≠ j) : a ≠ b := by
  obtain ⟨i1, e1⟩ := List.getElem?_eq_some_iff.mp hi
  obtain ⟨j1, e2⟩ := List.getElem?_eq_some_iff.mp hj
  have hp := List.pairwise_iff_getElem.mp h
  intro z
  subst z
  rcases Nat.lt_trichotomy i j with y | y | y
  · exact hp i j i1 j1 y (e1.trans e2.symm)
  · exact n y
  · exact hp j i j1 i1 y (e2.trans e1.symm)
theorem RdC.dif (h : RdC c H0 H r ca) {i j : Nat} {a b : Addr} (hi : (c.foot ca)[i]? = some a) (hj : (c.foot ca)[j]? = some b) (n : i ≠ j) : a ≠ b := nodup_dif h.nd hi hj n
/-- a store at the i-th address leaves what lies at the j-th -/
theorem RdC.up (h : RdC c H0 H r ca) {i j : Nat} {a b : Addr} {o u : HO} (hi : (c.foot ca)[i]? = some a) (hj : (c.foot ca)[j]? = some b) (n : i ≠ j) (e : H b = some u) : upd H a o b = some u := by
  rw [upd_ne (h.dif hj hi n.symm)]; exact e
theorem RdC.keepU (h : RdC c H0 H r ca) {a : Addr} {o : HO} (m : a ∈ c.foot ca) : ∀ b u, H0 b = some u → upd H a o b = some u := fun b u e => by
  have n : b ≠ a := fun z => by subst z; rw [h.nw _ m] at e; cases e
  rw [upd_ne n]; exact h.keep b u e
theorem RdC.setAt (h : RdC c H0 H r ca) (n : Nat) : RdC c H0 (upd H c.p (.ins c.C c.dx (c.fs { r with at_ := n }))) { r with at_ := n } ca :=
  { ins := upd_same, kk := h.up (i := 0) (j := 1) rfl rfl (by decide) h.kk, pp := h.up (i := 0) (j := 2) rfl rfl (by decide) h.pp, nn := h.up (i := 0) (j := 3) rfl rfl (by decide) h.nn, cc := h.up (i := 0) (j := 4) rfl rfl (by decide) h.cc, bb := h.up (i := 0) (j := 5) rfl rfl (by decide) h.bb, ee := h.up (i := 0) (j := 6) rfl rfl (by decide) h.ee,
    cl := h.cl, ch := fun i a l e1 e2 => h.up (i := 0) (j := i + 7) rfl e1 (by omega) (h.ch i a l e1 e2), nd := h.nd, nw := h.nw, keep := h.keepU (by simp [RC.foot]) }
theorem RdC.putK (h : RdC c H0 H r ca) (ks : List Str) : RdC c H0 (upd H c.kA (.lst (ks.map V.str))) { r with kinds := ks } ca :=
  { ins := h.up (i := 1) (j := 0) rfl rfl (by decide) h.ins, kk := upd_same, pp := h.up (i := 1) (j := 2) rfl rfl (by decide) h.pp, nn := h.up (i := 1) (j := 3) rfl rfl (by decide) h.nn, cc := h.up (i := 1) (j := 4) rfl rfl (by decide) h.cc, bb := h.up (i := 1) (j := 5) rfl rfl (by decide) h.bb, ee := h.up (i := 1) (j := 6) rfl rfl (by decide) h.ee,
    cl := h.cl, ch := fun i a l e1 e2 => h.up (i := 1) (j := i + 7) rfl e1 (by omega) (h.ch i a l e1 e2), nd := h.nd, nw := h.nw, keep := h.keepU (by simp [RC.foot]) }
theorem RdC.putP (h : RdC c H0 H r ca) (ks : List Int) : RdC c H0 (upd H c.pA (.lst (ks.map V.int))) { r with parents := ks } ca :=
  { ins := h.up (i := 2) (j := 0) rfl rfl (by decide) h.ins, kk := h.up (i := 2) (j := 1) rfl rfl (by decide) h.kk, pp := upd_same, nn := h.up (i := 2) (j := 3) rfl rfl (by decide) h.nn, cc := h.up (i := 2) (j := 4) rfl rfl (by decide) h.cc, bb := h.up (i := 2) (j := 5) rfl rfl (by decide) h.bb, ee := h.up (i := 2) (j := 6) rfl rfl (by decide) h.ee,
    cl := h.cl, ch := fun i a l e1 e2 => h.up (i := 2) (j := i + 7) rfl e1 (by omega) (h.ch i a l e1 e2), nd := h.nd, nw := h.nw, keep := h.keepU (by simp [RC.foot]) }
theorem RdC.putN (h : RdC c H0 H r ca) (ks : List (Option Str)) : RdC c H0 (upd H c.nA (.lst (ks.map nV))) { r with names := ks } ca :=
  { ins := h.up (i := 3) (j := 0) rfl rfl (by decide) h.ins, kk := h.up (i := 3) (j := 1) rfl rfl (by decide) h.kk, pp := h.up (i := 3) (j := 2) rfl rfl (by decide) h.pp, nn := upd_same, cc := h.up (i := 3) (j := 4) rfl rfl (by decide) h.cc, bb := h.up (i := 3) (j := 5) rfl rfl (by decide) h.bb, ee := h.up (i := 3) (j := 6) rfl rfl (by decide) h.ee,
    cl := h.cl, ch := fun i a l e1 e2 => h.up (i := 3) (j := i + 7) rfl e1 (by omega) (h.ch i a l e1 e2), nd := h.nd, nw := h.nw, keep := h.keepU (by simp [RC.foot]) }
theorem RdC.putB (h : RdC c H0 H r ca) (ks : List Nat) : RdC c H0 (upd H c.bA (.lst (ks.map nI))) { r with begins := ks } ca :=
  { ins := h.up (i := 5) (j := 0) rfl rfl (by decide) h.ins, kk := h.up (i := 5) (j := 1) rfl rfl (by decide) h.kk, pp := h.up (i := 5) (j := 2) rfl rfl (by decide) h.pp, nn := h.up (i := 5) (j := 3) rfl rfl (by decide) h.nn, cc := h.up (i := 5) (j := 4) rfl rfl (by decide) h.cc, bb := upd_same, ee := h.up (i := 5) (j := 6) rfl rfl (by decide) h.ee,
    cl := h.cl, ch := fun i a l e1 e2 => h.up (i := 5) (j := i + 7) rfl e1 (by omega) (h.ch i a l e1 e2), nd := h.nd, nw := h.nw, keep := h.keepU (by simp [RC.foot]) }
theorem RdC.putE (h : RdC c H0 H r ca) (ks : List Nat) : RdC c H0 (upd H c.eA (.lst (ks.map nI))) { r with ends := ks } ca :=
  { ins := h.up (i := 6) (j := 0) rfl rfl (by decide) h.ins, kk := h.up (i := 6) (j := 1) rfl rfl (by decide) h.kk, pp := h.up (i := 6) (j := 2) rfl rfl (by decide) h.pp, nn := h.up (i := 6) (j := 3) rfl rfl (by decide) h.nn, cc := h.up (i := 6) (j := 4) rfl rfl (by decide) h.cc, bb := h.up (i := 6) (j := 5) rfl rfl (by decide) h.bb, ee := upd_same,
    cl := h.cl, ch := fun i a l e1 e2 => h.up (i := 6) (j := i + 7) rfl e1 (by omega) (h.ch i a l e1 e2), nd := h.nd, nw := h.nw, keep := h.keepU (by simp [RC.foot]) }
/-- all addresses hold something -/
theorem RdC.has (h : RdC c H0 H r ca) : ∀ a ∈ c.foot ca, ∃ o, H a = some o := fun a m => by
  simp only [RC.foot, List.mem_cons] at m
  rcases m with rfl | rfl | rfl | rfl | rfl | rfl | rfl | m
  · exact ⟨_, h.ins⟩
  · exact ⟨_, h.kk⟩
  · exact ⟨_, h.pp⟩
  · exact ⟨_, h.nn⟩
  · exact ⟨_, h.cc⟩
  · exact ⟨_, h.bb⟩
  · exact ⟨_, h.ee⟩
  · obtain ⟨i, hi, e⟩ := List.mem_iff_getElem.mp m
    have hi' : i < r.children.length := by rw [← h.cl]; exact hi
    exact ⟨_, h.ch i a _ (by rw [List.getElem?_eq_getElem hi, e]) (List.getElem?_eq_getElem hi')⟩
theorem RdC.neN (h : RdC c H0 H r ca) {q : Addr} (hq : H q = none) {a : Addr} (m : a ∈ c.foot ca) : a ≠ q := fun z => by
  obtain ⟨o, e⟩ := h.has a m
  subst z; rw [hq] at e; cases e
/-- a new empty list of children -/
theorem RdC.newC (h : RdC c H0 H r ca) {q : Addr} (hq : H q = none) : RdC c H0 (upd (upd H q (.lst [])) c.cA (.lst ((ca ++ [q]).map V.ref))) { r with children := r.children ++ [[]] } (ca ++ [q]) := by
  have nq : ∀ {a : Addr} {o : HO}, H a = some o → a ≠ q := fun {a o} e z => by subst z; rw [hq] at e; cases e
  have q0 : H0 q = none := by
    cases e : H0 q with
    | none => rfl
    | some o => rw [h.keep _ _ e] at hq; cases hq
  have go : ∀ {j : Nat} {b : Addr} {u : HO}, (c.foot ca)[j]? = some b → 4 ≠ j → H b = some u → upd (upd H q (.lst [])) c.cA (.lst ((ca ++ [q]).map V.ref)) b = some u := fun {j b u} hj n e => by
    rw [upd_ne (h.dif hj (show (c.foot ca)[4]? = some c.cA from rfl) n.symm), upd_ne (nq e)]; exact e
  have ef : c.foot (ca ++ [q]) = c.foot ca ++ [q] := rfl
  refine { ins := go (j := 0) rfl (by decide) h.ins, kk := go (j := 1) rfl (by decide) h.kk, pp := go (j := 2) rfl (by decide) h.pp, nn := go (j := 3) rfl (by decide) h.nn, cc := upd_same, bb := go (j := 5) rfl (by decide) h.bb, ee := go (j := 6) rfl (by decide) h.ee, cl := by simp [h.cl], ch := fun i a l e1 e2 => ?_, nd := ?_, nw := ?_, keep := ?_ }
  · by_cases z : i < ca.length
    · rw [List.getElem?_append_left z] at e1
      rw [List.getElem?_append_left (by rw [← h.cl]; exact z)] at e2
      exact go (j := i + 7) e1 (by omega) (h.ch i a l e1 e2)
    · have hi : i = ca.length := by
        have := (List.getElem?_eq_some_iff.mp e1).1
        simp at this
        omega
      subst hi
      rw [List.getElem?_append_right (Nat.le_refl _), Nat.sub_self] at e1
      simp only [h.cl] at e2
      rw [List.getElem?_append_right (Nat.le_refl _), Nat.sub_self] at e2
      cases e1
      cases e2
      rw [upd_ne (nq h.cc).symm, upd_same]
      rfl
  · rw [ef, List.nodup_append]
    refine ⟨h.nd, by simp, fun a ma b mb => ?_⟩
    rw [List.mem_singleton] at mb
    subst mb
    exact h.neN hq ma
  · intro a ma
    rw [ef, List.mem_append] at ma
    rcases ma with ma | ma
    · exact h.nw a ma
    · rw [List.mem_singleton] at ma; subst ma; exact q0
  · intro a o e
    have z1 : a ≠ c.cA := fun z => by subst z; rw [h.nw _ (by simp [RC.foot])] at e; cases e
    have z2 : a ≠ q := nq (h.keep _ _ e)
    rw [upd_ne z1, upd_ne z2]
    exact h.keep _ _ e
/-- a child more of node i -/
theorem RdC.addC (h : RdC c H0 H r ca) {i : Nat} {a : Addr} {l : List Nat} (hi : ca[i]? = some a) (hl : r.children[i]? = some l) (n : Nat) : RdC c H0 (upd H a (.lst ((l ++ [n]).map nI))) { r with children := r.children.modify i (· ++ [n]) } ca := by
  have m := List.mem_of_getElem? hi
  have hi7 : (c.foot ca)[i + 7]? = some a := hi
  have go : ∀ {j : Nat} {b : Addr} {u : HO}, (c.foot ca)[j]? = some b → i + 7 ≠ j → H b = some u → upd H a (.lst ((l ++ [n]).map nI)) b = some u := fun hj n e => h.up hi7 hj n e
  refine { ins := go (j := 0) rfl (by omega) h.ins, kk := go (j := 1) rfl (by omega) h.kk, pp := go (j := 2) rfl (by omega) h.pp, nn := go (j := 3) rfl (by omega) h.nn, cc := go (j := 4) rfl (by omega) h.cc, bb := go (j := 5) rfl (by omega) h.bb, ee := go (j := 6) rfl (by omega) h.ee, cl := by simp [h.cl], ch := fun j b l' e1 e2 => ?_, nd := h.nd, nw := h.nw, keep := h.keepU (by simp [RC.foot, m]) }
  rw [List.getElem?_modify] at e2
  by_cases z : i = j
  · subst z
    rw [hi] at e1; cases e1
    rw [hl] at e2
    simp only [if_true, Option.map_eq_map, Option.map_some, Option.some.injEq] at e2
    subst e2
    exact upd_same
  · have e2' : r.children[j]? = some l' := by simpa [z] using e2
    exact go (j := j + 7) e1 (by omega) (h.ch j b l' e1 e2')
/-- another object that the reader does not touch -/
theorem RdC.other (h : RdC c H0 H r ca) {q : Addr} {o : HO} (hq : q ∉ c.foot ca) (e : H q = some o) : RdC c (upd H0 q o) H r ca := { h with
  nw := fun a m => by
    have n : a ≠ q := fun z => hq (z ▸ m)
    rw [upd_ne n]; exact h.nw a m
  keep := fun a u e' => by
    by_cases z : a = q
    · subst z; rw [upd_same] at e'; rw [e, e']
    · rw [upd_ne z] at e'; exact h.keep a u e' }
theorem RdC.newO (h : RdC c H0 H r ca) {q : Addr} {o : HO} (hq : H q = none) : RdC c (upd H0 q o) (upd H q o) r ca := by
  have go : ∀ {j : Nat} {b : Addr} {u : HO}, (c.foot ca)[j]? = some b → H b = some u → upd H q o b = some u := fun hj e => by
    rw [upd_ne (h.neN hq (List.mem_of_getElem? hj))]; exact e
  exact { ins := go (j := 0) rfl h.ins, kk := go (j := 1) rfl h.kk, pp := go (j := 2) rfl h.pp, nn := go (j := 3) rfl h.nn, cc := go (j := 4) rfl h.cc, bb := go (j := 5) rfl h.bb, ee := go (j := 6) rfl h.ee, cl := h.cl, ch := fun i a l e1 e2 => go (j := i + 7) e1 (h.ch i a l e1 e2), nd := h.nd
          nw := fun a ma => by rw [upd_ne (h.neN hq ma)]; exact h.nw a ma
          keep := fun a u e => by
            by_cases z : a = q
            · subst z; rw [upd_same] at e ⊢; exact e
            · rw [upd_ne z] at e ⊢; exact h.keep a u e }
/-- the other object is changed -/
theorem RdC.chO (h : RdC c H0 H r ca) {q : Addr} {o u : HO} (e : H0 q = some u) : RdC c (upd H0 q o) (upd H q o) r ca := by
  have nq : ∀ a ∈ c.foot ca, a ≠ q := fun a m z => by subst z; rw [h.nw _ m] at e; cases e
  have go : ∀ {j : Nat} {b : Addr} {u : HO}, (c.foot ca)[j]? = some b → H b = some u → upd H q o b = some u := fun hj e => by
    rw [upd_ne (nq _ (List.mem_of_getElem? hj))]; exact e
  exact { ins := go (j := 0) rfl h.ins, kk := go (j := 1) rfl h.kk, pp := go (j := 2) rfl h.pp, nn := go (j := 3) rfl h.nn, cc := go (j := 4) rfl h.cc, bb := go (j := 5) rfl h.bb, ee := go (j := 6) rfl h.ee, cl := h.cl, ch := fun i a l e1 e2 => go (j := i + 7) e1 (h.ch i a l e1 e2), nd := h.nd
          nw := fun a ma => by rw [upd_ne (nq a ma)]; exact h.nw a ma
          keep := fun a u' e' => by
            by_cases z : a = q
            · subst z; rw [upd_same] at e' ⊢; exact e'
            · rw [upd_ne z] at e' ⊢; exact h.keep a u' e' }
theorem RdC.less (h : RdC c H0 H r ca) {H1 : Hp} (e : ∀ a o, H1 a = some o → H0 a = some o) : RdC c H1 H r ca := { h with
  nw := fun a m => by
    cases q : H1 a with
    | none => rfl
    | some o => have := e _ _ q; rw [h.nw a m] at this; cases this
  keep := fun a o q => h.keep a o (e a o q) }
end
/-! ### steps -/
section
variable {σ : L2.St} {H : Hp} {i : Nat} {v x y z : V} {ta tb te tv : TE} {b : Bool} {K : PySem.W.Frag} {a C dx p : Addr} {fs : List (Str × V)} {f : Str} {t u : TT} {xs : List V} {D : Ends}
def VA (t : TA) (σ : L2.St) (H : Hp) (vs : List V) : Prop := ∀ Q, Q vs H → t σ H Q
theorem va_nil : VA tNil σ H [] := fun _ q => q
theorem va_cons {tr : TA} {vs : List V} (h : Val te σ H v) (hr : VA tr σ H vs) : VA (tCons te tr) σ H (v :: vs) := fun Q q => h _ (hr _ q)
theorem val_lenL (h : Val te σ H (.ref p)) (e : H p = some (.lst xs)) : Val (tCB (rLenS K) (tCons te tNil)) σ H (.int xs.length) := fun Q q => h _ ⟨p, xs, rfl, .inl (.inl (.inl e)), q⟩
theorem val_lenS {z : Str} (h : Val te σ H (.str z)) (hl : z.length ≤ sizeLine) : Val (tCB rLenStr (tCons te tNil)) σ H (.int z.length) := fun Q q => h _ ⟨z, rfl, hl, q⟩
theorem ans_lt {n m : Int} (ha : Val ta σ H (.int n)) (hb : Val tb σ H (.int m)) (hd : decide (n < m) = b) : Ans (tTest (tOp (rI0 fun i j => .bl (decide (i < j))) ta tb)) σ H b := ans_cmp ha hb fun Q q => ⟨n, m, rfl, rfl, (show Q (.bl (decide (n < m))) _ by rw [hd]; exact q)⟩
theorem st_app {te : TE} (ha : Val ta σ H (.ref p)) (hp : H p = some (.lst xs)) (hv : Val te σ H v) (hl : xs.length < sizeLine) (q : D.nx σ (upd H p (.lst (xs ++ [v])))) : tDrop (tBM K "list" rAppend ta (tCons te tNil)) D σ H :=
  ha _ ⟨.inl ⟨rfl, _, SqL.of hp⟩, hv _ ⟨p, xs, v, rfl, rfl, hp, hl, q⟩⟩
def sgn (r : RS) : V := .str (SX.S (r.cs[r.at_]?).toList)
theorem vh_meth {m : Str} {sp : L2.Sp} {tr : TA} {vs : List V} {PV : V → Hp → Prop} (hs : Val ta σ H (.ref p)) (ho : H p = some (.ins C dx fs)) (hm : fs.lookup m = none) (ha : VA tr σ H vs)
    (hsp : ∀ Q : VK, (∀ v H', PV v H' → Q v H') → sp (.ref p :: vs) H Q E0) : ValH (tMeth C m sp [] E0 ta tr) σ H PV := fun Q q =>
  hs _ ⟨p, dx, fs, rfl, ho, hm, ha _ (by rw [List.append_nil]; exact hsp Q q)⟩
end
end Lw
set_option Elab.async false
set_option linter.all false
set_option maxRecDepth 100000
set_option autoImplicit false
set_option maxHeartbeats 4000000
namespace Lw
open PySem PySem.Spec PyProof.Rows L2 DL
theorem szs_append : ∀ a b : List (Str × Tr), szs (a ++ b) = szs a + szs b
  | [], _ => by simp [szs]
  | (_, t) :: a, b => by simp [szs, szs_append a b]; omega
theorem kds_append : ∀ a b : List (Str × Tr), kds (a ++ b) = kds a ++ kds b
  | [], _ => rfl
  | (_, t) :: a, b => by simp [kds, kds_append a b]
theorem pas_append : ∀ (a b : List (Str × Tr)) (k : Nat) (p : Int), pas (a ++ b) k p = pas a k p ++ pas b (k + szs a) p
  | [], _, _, _ => by simp [pas, szs]
  | (_, t) :: a, b, k, p => by simp [pas, szs, pas_append a b, Nat.add_assoc]
theorem nms_append : ∀ a b : List (Str × Tr), nms (a ++ b) = nms a ++ nms b
  | [], _ => rfl
  | (_, t) :: a, b => by simp [nms, nms_append a b]
theorem cn_append : ∀ (a b : List (Str × Tr)) (k : Nat), cn (a ++ b) k = cn a k ++ cn b (k + szs a)
  | [], _, _ => by simp [cn, szs]
  | (_, t) :: a, b, k => by simp [cn, szs, cn_append a b, Nat.add_assoc]
theorem chs_append : ∀ (a b : List (Str × Tr)) (k : Nat), chs (a ++ b) k = chs a k ++ chs b (k + szs a)
  | [], _, _ => by simp [chs, szs]
  | (_, t) :: a, b, k => by simp [chs, szs, chs_append a b, Nat.add_assoc]
theorem flen_append : ∀ a b : List (Str × Tr), flen (a ++ b) = flen a + flen b
  | [], _ => by simp [flen]
  | (s, t) :: a, b => by simp [flen, flen_append a b]; omega
theorem bgs_append : ∀ (a b : List (Str × Tr)) (k : Nat), bgs (a ++ b) k = bgs a k ++ bgs b (k + flen a)
  | [], _, _ => by simp [bgs, flen]
  | (s, t) :: a, b, k => by
    simp only [List.cons_append, bgs, flen, bgs_append a b, List.append_assoc]
    rw [show k + (s.cps.toList.length + 1 + (tx t).length + 1) + flen a = k + (s.cps.toList.length + 1 + (tx t).length + 1 + flen a) by omega]
theorem ens_append : ∀ (a b : List (Str × Tr)) (k : Nat), ens (a ++ b) k = ens a k ++ ens b (k + flen a)
  | [], _, _ => by simp [ens, flen]
  | (s, t) :: a, b, k => by
    simp only [List.cons_append, ens, flen, ens_append a b, List.append_assoc]
    rw [show k + (s.cps.toList.length + 1 + (tx t).length + 1) + flen a = k + (s.cps.toList.length + 1 + (tx t).length + 1 + flen a) by omega]
theorem lvs_snoc : ∀ (a : List (Str × Tr)) (b : List (Str × Tr)), lvs (a ++ b) = lvs a + lvs b := lvs_append
theorem sz_pos : ∀ t : Tr, 1 ≤ sz t
  | .v => Nat.le_refl _
  | .o _ t => by simp [sz]
  | .r fs => by simp [sz]
mutual
theorem pa_len : ∀ (t : Tr) (n : Nat) (p : Int), (pa t n p).length = sz t
  | .v, _, _ => rfl
  | .o _ t, n, p => by simp [pa, sz, pa_len t]
  | .r fs, n, p => by simp [pa, sz, pas_len fs]
theorem pas_len : ∀ (fs : List (Str × Tr)) (k : Nat) (p : Int), (pas fs k p).length = szs fs
  | [], _, _ => rfl
  | (_, t) :: r, k, p => by simp [pas, szs, pa_len t, pas_len r]
end
mutual
theorem nm_len : ∀ (t : Tr) (x : Option Str), (nm t x).length = sz t
  | .v, _ => rfl
  | .o _ t, x => by simp [nm, sz, nm_len t]
  | .r fs, x => by simp [nm, sz, nms_len fs]
theorem nms_len : ∀ (fs : List (Str × Tr)), (nms fs).length = szs fs
  | [] => rfl
  | (_, t) :: r => by simp [nms, szs, nm_len t, nms_len r]
end
theorem cn_len : ∀ (fs : List (Str × Tr)) (k : Nat), (cn fs k).length ≤ szs fs
  | [], _ => Nat.le_refl _
  | (_, t) :: r, k => by
    have := cn_len r (k + sz t)
    have := sz_pos t
    simp [cn, szs]; omega
mutual
theorem ch_le : ∀ (t : Tr) (n : Nat), ∀ l ∈ ch t n, l.length ≤ sz t
  | .v, _, l, h => by simp [ch] at h; subst h; exact Nat.zero_le _
  | .o _ t, n, l, h => by
    simp only [ch, List.mem_cons] at h
    rcases h with rfl | h
    · simp [sz]
    · have := ch_le t _ l h; simp [sz]; omega
  | .r fs, n, l, h => by
    simp only [ch, List.mem_cons] at h
    rcases h with rfl | h
    · have := cn_len fs (n + 1); simp [sz]; omega
    · have := chs_le fs _ l h; simp [sz]; omega
theorem chs_le : ∀ (fs : List (Str × Tr)) (k : Nat), ∀ l ∈ chs fs k, l.length ≤ szs fs
  | [], _, l, h => by simp [chs] at h
  | (_, t) :: r, k, l, h => by
    simp only [chs, List.mem_append] at h
    rcases h with h | h
    · have := ch_le t _ l h; simp [szs]; omega
    · have := chs_le r _ l h; simp [szs]; omega
end
structure RS.wf (r : RS) : Prop where
  p : r.parents.length = r.kinds.length
  n : r.names.length = r.kinds.length
  c : r.children.length = r.kinds.length
  l : ∀ l ∈ r.children, l.length ≤ r.kinds.length
  b : r.begins.length = r.kinds.length
  e : r.ends.length = r.kinds.length
theorem mem_modify {α : Type} (f : α → α) : ∀ (a : List α) (i : Nat) (x : α), x ∈ a.modify i f → x ∈ a ∨ ∃ y ∈ a, x = f y
  | [], _, _, h => by simp at h
  | y :: a, 0, x, h => by
    simp at h
    rcases h with rfl | h
    · exact .inr ⟨y, by simp, rfl⟩
    · exact .inl (by simp [h])
  | y :: a, i + 1, x, h => by
    simp at h
    rcases h with rfl | h
    · exact .inl (by simp)
    · rcases mem_modify f a i x h with h | ⟨z, h1, h2⟩
      · exact .inl (by simp [h])
      · exact .inr ⟨z, by simp [h1], h2⟩
theorem mem_addCh {c : List (List Nat)} {p : Int} {n : Nat} {x : List Nat} (h : x ∈ addCh c p n) : x ∈ c ∨ ∃ y ∈ c, x = y ++ [n] := by
  unfold addCh at h
  split at h
  · exact mem_modify _ _ _ _ h
  · exact .inl h
def RS.add (r : RS) (k : Str) (p : Int) (x : Option Str) : RS := { r with kinds := r.kinds ++ [k], parents := r.parents ++ [p], names := r.names ++ [x], children := addCh r.children p r.kinds.length ++ [[]], begins := r.begins ++ [r.at_], ends := r.ends ++ [r.at_] }
theorem RS.wf.add {r : RS} (h : r.wf) (k : Str) (p : Int) (x : Option Str) (i : Nat) : ({ r.add k p x with at_ := i } : RS).wf where
  p := by simp [RS.add, h.p]
  n := by simp [RS.add, h.n]
  c := by simp [RS.add, addCh_len, h.c]
  l := fun l m => by
    simp only [RS.add, List.mem_append, List.mem_singleton] at m
    show l.length ≤ (r.kinds ++ [k]).length
    simp only [List.length_append, List.length_singleton]
    rcases m with m | rfl
    · rcases mem_addCh m with m | ⟨y, m', rfl⟩
      · have := h.l l m; omega
      · have := h.l y m'; simp; omega
    · exact Nat.zero_le _
  b := by simp [RS.add, h.b]
  e := by simp [RS.add, h.e]
theorem RS.wf.flds {r : RS} (h : r.wf) (fs : List (Str × Tr)) (p : Nat) (len : Nat) : (r.flds fs p len).wf where
  p := by simp [RS.flds, h.p, pas_len, kds_len]
  n := by simp [RS.flds, h.n, nms_len, kds_len]
  c := by simp [RS.flds, h.c, chs_len, kds_len]
  l := fun l m => by
    simp only [RS.flds, List.mem_append] at m
    show l.length ≤ (r.kinds ++ kds fs).length
    rw [List.length_append, kds_len]
    rcases m with m | m
    · rcases mem_modify _ _ _ _ m with m | ⟨y, m', rfl⟩
      · have := h.l l m; omega
      · have := h.l y m'
        have := cn_len fs r.kinds.length
        simp; omega
    · have := chs_le fs _ l m; omega
  b := by simp [RS.flds, h.b, bgs_len, kds_len]
  e := by simp [RS.flds, h.e, ens_len, kds_len]
theorem RS.wf.at {r : RS} (h : r.wf) (i : Nat) : ({ r with at_ := i } : RS).wf := ⟨h.p, h.n, h.c, h.l, h.b, h.e⟩
/-- a field more -/
theorem flds_node {r : RS} (h : r.wf) {p : Nat} (hp : p < r.kinds.length) (dn : List (Str × Tr)) (s : Str) (t : Tr) (L m : Nat) (hL : L = flen dn) (hm : m = s.cps.toList.length + 1) :
    ({ r.flds dn p L with at_ := r.at_ + L + m } : RS).node t p (some s) = r.flds (dn ++ [(s, t)]) p (L + m + (tx t).length) := by
  subst hL hm
  have hc : p < r.children.length := by rw [h.c]; exact hp
  unfold RS.node RS.flds
  simp only [RS.mk.injEq]
  refine ⟨trivial, by omega, ?_, ?_, ?_, ?_, ?_, ?_⟩
  · rw [kds_append]; simp [kds]
  · rw [pas_append, List.length_append, kds_len]; simp [pas]
  · rw [nms_append]; simp [nms]
  · rw [chs_append, cn_append, List.length_append, kds_len]
    unfold addCh
    rw [if_pos (by omega), Int.toNat_natCast, modify_append_left _ _ _ _ (by rw [List.length_modify]; exact hc), modify_modify]
    simp [chs, cn, Function.comp_def]
  · rw [bgs_append]; simp [bgs]
  · rw [ens_append]; simp [ens]
theorem flds_nil {r : RS} (p : Nat) : r.flds [] p 0 = r := by
  unfold RS.flds
  simp only [kds, pas, nms, chs, cn, bgs, ens, List.append_nil, Nat.add_zero]
  have e : r.children.modify p (fun x => x) = r.children := by
    apply List.ext_getElem?
    intro i
    rw [List.getElem?_modify]
    cases r.children[i]? <;> simp
  rw [e]
/-- an open node -/
theorem node_o {r : RS} (h : r.wf) (k : Str) (p : Int) (x : Option Str) (t : Tr) :
    ({ r.add k p x with at_ := r.at_ + 1 } : RS).node t r.kinds.length none = { cs := r.cs, at_ := r.at_ + 1 + (tx t).length, kinds := r.kinds ++ k :: kd t, parents := r.parents ++ p :: pa t (r.kinds.length + 1) r.kinds.length, names := r.names ++ x :: nm t none, children := addCh r.children p r.kinds.length ++ [r.kinds.length + 1] :: ch t (r.kinds.length + 1), begins := r.begins ++ r.at_ :: bg t (r.at_ + 1), ends := r.ends ++ r.at_ :: en t (r.at_ + 1) } := by
  have e : r.kinds.length = (addCh r.children p r.kinds.length).length := by rw [addCh_len, h.c]
  unfold RS.node RS.add
  simp only [RS.mk.injEq, List.length_append, List.length_singleton]
  refine ⟨trivial, trivial, by simp, by simp, by simp, ?_, by simp, by simp⟩
  have e2 : addCh (addCh r.children p r.kinds.length ++ [[]]) r.kinds.length (r.kinds.length + 1) = addCh r.children p r.kinds.length ++ [[r.kinds.length + 1]] := by
    have q := modify_last (fun x => x ++ [r.kinds.length + 1]) (addCh r.children p r.kinds.length) [] []
    rw [← e] at q
    have e3 : addCh (addCh r.children p r.kinds.length ++ [[]]) r.kinds.length (r.kinds.length + 1) = (addCh r.children p r.kinds.length ++ [[]]).modify r.kinds.length (· ++ [r.kinds.length + 1]) := by
      conv => lhs; unfold addCh
      rw [if_pos (by omega), Int.toNat_natCast]
      rfl
    rw [e3]
    exact q
  rw [e2]; simp
/-- a record -/
theorem node_r {r : RS} (h : r.wf) (k : Str) (p : Int) (x : Option Str) (fs : List (Str × Tr)) (len : Nat) :
    ({ r.add k p x with at_ := r.at_ + 1 } : RS).flds fs r.kinds.length len = { cs := r.cs, at_ := r.at_ + 1 + len, kinds := r.kinds ++ k :: kds fs, parents := r.parents ++ p :: pas fs (r.kinds.length + 1) r.kinds.length, names := r.names ++ x :: nms fs, children := addCh r.children p r.kinds.length ++ cn fs (r.kinds.length + 1) :: chs fs (r.kinds.length + 1), begins := r.begins ++ r.at_ :: bgs fs (r.at_ + 1), ends := r.ends ++ r.at_ :: ens fs (r.at_ + 1) } := by
  have e : r.kinds.length = (addCh r.children p r.kinds.length).length := by rw [addCh_len, h.c]
  unfold RS.flds RS.add
  simp only [RS.mk.injEq, List.length_append, List.length_singleton]
  refine ⟨trivial, trivial, by simp, by simp, by simp, ?_, by simp, by simp⟩
  have q := modify_last (fun x => x ++ cn fs (r.kinds.length + 1)) (addCh r.children p r.kinds.length) [] []
  rw [← e] at q
  rw [q]; simp
/-! the text -/
def tl (fs : List (Str × Tr)) (rest : List Nat) : List Nat := TL.joinL [32] (txs fs) ++ 125 :: rest
theorem tl_one (s : Str) (t : Tr) (rest : List Nat) : tl [(s, t)] rest = s.cps.toList ++ 58 :: (tx t ++ 125 :: rest) := by
  simp [tl, txs, TL.joinL]
theorem tl_two (s : Str) (t : Tr) (f : Str × Tr) (fs : List (Str × Tr)) (rest : List Nat) : tl ((s, t) :: f :: fs) rest = s.cps.toList ++ 58 :: (tx t ++ 32 :: tl (f :: fs) rest) := by
  obtain ⟨s2, t2⟩ := f
  simp [tl, txs, TL.joinL]
theorem jl_one (s : Str) (t : Tr) : (TL.joinL [32] (txs [(s, t)])).length = s.cps.toList.length + 1 + (tx t).length := by
  simp [txs, TL.joinL]; omega
theorem jl_two (s : Str) (t : Tr) (f : Str × Tr) (fs : List (Str × Tr)) : (TL.joinL [32] (txs ((s, t) :: f :: fs))).length = s.cps.toList.length + 1 + (tx t).length + 1 + (TL.joinL [32] (txs (f :: fs))).length := by
  obtain ⟨s2, t2⟩ := f
  simp [txs, TL.joinL]; omega
/-- the last end is told -/
def RS.endAt (r : RS) (n x : Nat) : RS := { r with ends := r.ends.set n x }
theorem set_mid {α : Type} : ∀ (a : List α) (x y : α) (b : List α) (n : Nat), n = a.length → (a ++ x :: b).set n y = a ++ y :: b
  | [], _, _, _, n, h => by subst h; rfl
  | z :: a, x, y, b, n, h => by
    subst h
    have q := set_mid a x y b a.length rfl
    simpa using q
theorem jl_flen : ∀ (fs : List (Str × Tr)), fs ≠ [] → (TL.joinL [32] (txs fs)).length + 1 = flen fs
  | [], h => absurd rfl h
  | [(s, t)], _ => by rw [jl_one]; simp [flen]
  | (s, t) :: f :: r, _ => by
    rw [jl_two]
    have q := jl_flen (f :: r) (by simp)
    have e : flen ((s, t) :: f :: r) = s.cps.toList.length + 1 + (tx t).length + 1 + flen (f :: r) := rfl
    rw [e]
    omega
end Lw
set_option Elab.async false
set_option linter.all false
set_option maxRecDepth 100000
set_option autoImplicit false
set_option maxHeartbeats 4000000
/-! X1: an own exception over ValueError whose __init__ begins with super().__init__(e): its promise by its other statements. -/
namespace XS
open PySem PySem.Spec PyProof.Rows L2
/-- the frame of such an __init__ -/
abbrev envS (qual : Str) (scope : Scope) (L f : Addr) (cdv : Value) (cc : Addr) : Env := PySem.W.envX qual scope L f cdv [("__class__", cc)]
def cxS (CX : CXT) (P : Program) (w : World) (K : PySem.W.Frag) (mg : Str → Option Value) (base : Heap) (N : List Str) (qual : Str) (scope : Scope) (f : Addr) (cdv : Value) (cc : Addr) (A : Around) (outer : List Env) (s : Shared) (H : Hp) (E : XK) : Cx where
  prog := P
  w := w
  K := K
  mg := mg
  base := base
  A := A.deeper (envS qual scope s.heap.objs.size f cdv cc)
  N := N
  s_0 := s
  H_0 := H
  env := envS qual scope s.heap.objs.size f cdv cc
  outer := outer
  stack := envS qual scope s.heap.objs.size f cdv cc :: outer
  ex := []
  fn := fun _ => false
  calm := true
  pn := []
  xe := fun _ _ => False
/-- a look at its scope -/
structure ScS (N ps : List Str) (scope : Scope) : Prop where
  kind : scope.kind = .function
  co : scope.isCoroutine = false
  gen : scope.isGenerator = false
  nd : N.Nodup
  pre : N.take ps.length = ps
  par : ∀ x ∈ ps, scope.names.lookup x = some .local
  nocell : ∀ y ∈ scope.names, y.2 ≠ .cell
  free : ∀ x, scope.names.lookup x = some .free → x = "__class__"
  cls : scope.names.lookup ("__class__" : Str) = some .free
  sup : scope.names.lookup ("super" : Str) = some .globalImplicit
theorem zip_look : ∀ {ps : List Str} {us : List Value} {i : Nat} {y : Str} {u : Value}, ps.Nodup → ps[i]? = some y → us[i]? = some u → (ps.zip us).lookup y = some u
  | [], _, _, _, _, _, h, _ => by simp at h
  | _ :: _, [], _, _, _, _, _, h => by simp at h
  | p :: ps, v :: us, 0, y, u, _, h1, h2 => by
    simp at h1 h2
    subst h1 h2
    simp [List.lookup]
  | p :: ps, v :: us, i + 1, y, u, nd, h1, h2 => by
    simp at h1 h2
    obtain ⟨n1, n2⟩ := List.nodup_cons.mp nd
    have ne : (y == p) = false := by simpa using fun z : y = p => n1 (z ▸ List.mem_of_getElem? h1)
    show ((p, v) :: ps.zip us).lookup y = some u
    rw [List.lookup, ne]
    exact zip_look n2 h1 h2
theorem inv_startS {CX : CXT} {P : Program} {w : World} {K : PySem.W.Frag} {mg : Str → Option Value} {base : Heap} {N ps : List Str} {qual : Str} {scope : Scope} {f cc C : Addr} {cd : Value} {A : Around} {outer : List Env} {s : Shared} {H : Hp} {E : XK} {us : List Value} {vs : List V} {h1 : Heap} {tk : Nat} {oc : Value} {od : Option Addr} {osl : Array (Option Value)}
    (S : ScS N ps scope) (hd : A.handled = none) (e0 : Env0 P w K mg base A outer s H) (hl : vs.length = ps.length) (r : Vals vs us) (hcc : K.lookup cc = some ⟨oc, od, .cell (some (.ref C)), osl⟩)
    (hn : h1.Ns s.heap.objs.size (fun x => (ps.zip us).reverse.lookup x)) (hk : ∀ b o, s.heap.get? b = some o → h1.get? b = some o) :
    Inv (cxS CX P w K mg base N qual scope f cd cc A outer s H E) [] (L2.start N vs) H { s with heap := h1, toks := tk } := by
  have hpl : ps.length ≤ N.length := by have := congrArg List.length S.pre; rw [List.length_take] at this; omega
  have noA : ∀ b : Addr, b ∉ (cxS CX P w K mg base N qual scope f cd cc A outer s H E).ex := fun b z => absurd (show b ∈ ([] : List Addr) from z) (by simp)
  have bc := e0.mod.kin _ _ hcc
  have cel : ∀ {x : Str} {c : Addr}, ([("__class__", cc)] : List (Str × Addr)).lookup x = some c → x = "__class__" ∧ c = cc := fun {x c} h => by
    simp only [List.lookup] at h
    split at h
    · rename_i q
      cases h
      exact ⟨by simpa using q, rfl⟩
    · cases h
  refine ⟨⟨e0.mod, S.kind, rfl, rfl, Nat.le_refl _, fun y z c h1 h2 => (cel h1).1.trans (cel h2).1.symm, fun y hy => ?_, (fun y c q _ => nomatch q), fun _ => hd, Around.frames_deeper e0.frames, .inr ⟨rfl, rfl⟩, fun b z => absurd z (noA b), e0.bs, e0.bsz, fun b _ _ => noA b, fun b z => absurd z (noA b), e0.funs, e0.frf⟩,
    rfl, e0.bare, Un.kept hk, ⟨_, hn, fun i y v h1 h2 h3 => ?_⟩, fun y c h => ?_, e0.hok.fresh (Nat.le_refl _), fun y c h => ?_, fun p hp => absurd (show p ∈ ([] : List (Addr × Obj)) from hp) (by simp), e0.hok.kept hk, ?_⟩
  · have hy : scope.names.lookup y = some .cell ∨ scope.names.lookup y = some .free := hy
    rcases hy with hy | hy
    · exact absurd rfl (S.nocell _ (PySem.mem_of_lookup hy))
    · rw [S.free y hy]
      exact ⟨cc, by show List.lookup ("__class__" : Str) [(("__class__" : Str), cc)] = some cc; simp [List.lookup]⟩
  · have hi : i < vs.length := by
      unfold L2.start at h2
      by_cases hi : i < vs.length
      · exact hi
      · rw [List.getElem?_append_right (by simpa using hi)] at h2
        rw [List.getElem?_replicate] at h2
        split at h2 <;> cases h2
    have ha : vs[i]? = some v := by
      unfold L2.start at h2
      rw [List.getElem?_append_left (by simpa using hi), List.getElem?_map] at h2
      cases e : vs[i]? with
      | none => rw [e] at h2; cases h2
      | some a => rw [e] at h2; cases h2; rfl
    obtain ⟨u, hu, rv⟩ := r.get ha
    have hp : ps[i]? = some y := by
      rw [← S.pre, List.getElem?_take_of_lt (by omega)]; exact h1
    have ndP : ps.Nodup := by rw [← S.pre]; exact S.nd.sublist (List.take_sublist _ _)
    refine ⟨u, rv, .inl ⟨S.par y (List.mem_of_getElem? hp), ?_⟩⟩
    have nz : ((ps.zip us).map (·.1)).Nodup := by rw [List.map_fst_zip (by rw [← r.length, hl]; exact Nat.le_refl _)]; exact ndP
    show (ps.zip us).reverse.lookup y = some u
    rw [lookup_reverse_of_nodup _ nz]
    exact zip_look ndP hp hu
  · obtain ⟨_, e⟩ := cel h
    subst e
    exact ⟨_, _, hk _ _ (e0.bs _ _ bc).1, rfl⟩
  · rw [(cel h).2]
    exact (e0.bs _ _ bc).2
  · unfold L2.start
    show _ = N.length
    rw [List.length_append, List.length_map, List.length_replicate]
    omega
end XS
namespace XS
open PySem PySem.Spec PyProof.Rows L2
section
variable {prog : Program} {w : World} {A : Around} {E : Value → Shared → Prop} {h : Heap} {g : Array GenState} {d : Drawn} {t : Nat} {os : OsState}
variable {nm q : Str} {C N : Addr} {bs bm : List Value} {hdct : Bool} {sn : List Str} {sub : List Value} {ab : Bool} {col : Option Bool} {dd : Option Addr} {k0 k1 k2 k3 k5 : Option Value}
theorem call_bwV {u e t0 : Addr} {rest : List Value} {Q : Value → Shared → Prop}
    (hC : h.get? C = some (excClassObj nm q C N bs bm hdct sn sub ab col dd k0 k1 k2 k3 k5 "ValueError.__new__")) (he : h.get? e = some ({ cls := .ref C, dict := none, data := .fields #[.ref t0, .none, .none, .none, .bool false, .none] } : Obj)) (hu : h.get? u = some (PySem.W.kxs_mw "ValueError.__init__" e)) (hrest : rest.length ≤ sizeLine)
    (hq : ∀ h' t1, (∀ b o, b ≠ e → h.get? b = some o → h'.get? b = some o) → h'.get? e = some ({ cls := .ref C, dict := none, data := .fields #[.ref t1, .none, .none, .none, .bool false, .none] } : Obj) → Q .none ⟨h', g, d, t, os⟩) :
    wpAny (model prog w) A (call (.ref u) rest) Q E ⟨h, g, d, t, os⟩ := by
  refine wpAny_call (codeAny_of_tree ?_)
  show wpAny _ A.in1 (callAny (.ref u) ⟨rest, []⟩) _ _ _
  simp only [callAny]
  refine wpAny_bind (wpAny_load hu ?_)
  simp only [PySem.W.kxs_mw, show (Value.type "method-wrapper" == Value.type "method" || Value.type "method-wrapper" == Value.type "builtin_function_or_method" || Value.type "method-wrapper" == Value.type "method-wrapper") = true by decide, if_true]
  refine PySem.W.KFB.if_so (by decide) ?_
  refine wpAny_bind (PySem.ESX.check_bound F.excBase_ValueError hC he rfl ?_)
  refine wpAny_bind (wpAny_pure (wpAny_pure ?_))
  refine ⟨Code.quiet_builtin _ (by decide +kernel), codeAny_builtin F.excBase_ValueError.initEntry ?_⟩
  rw [Around.under_plainId F.excBase_ValueError.init.plain _]
  wp_walk
  refine hq _ h.objs.size (fun b o hb ho => ?_) ?_
  · rw [Heap.get?_update_other _ _ (Ne.symm hb)]
    exact Heap.get?_push_of_some _ ho
  · rw [Heap.get?_update_self _ (Heap.get?_push_of_some _ he) rfl]
    rfl
end
/-- what the written part says of the class at C whose __init__ is the def at f -/
structure SuC (P : Program) (K : PySem.W.Frag) (mg : Str → Option Value) (C f cc cda : Addr) (N ps : List Str) (nm0 qual : Str) (params : Arguments) (body : List Stmt) (scope : Scope) : Prop where
  ox : OexC K C
  lk : ∃ oc od dV kV doc pm an ct osl, K.lookup f = some ⟨oc, od, .func (PySem.W.fnX nm0 qual params body scope [("__class__", cc)] dV kV doc pm an (.ref cda) ct), osl⟩
  hcd : PySem.W.codeIn K (.ref cda) qual = true
  code : ∃ ccl cdd vs ccs file tf, K.lookup cda = some ⟨ccl, cdd, .fields vs, ccs⟩ ∧ vs[2]? = some (.str file tf) ∧ ((P.main.file : Str) == file) = true
  cel : ∃ oc od osl, K.lookup cc = some ⟨oc, od, .cell (some (.ref C)), osl⟩
  sc : ScS N ps scope
  p0 : ∃ ar : Arg, (params.posonlyargs ++ params.args).head? = some ar ∧ N[0]? = some ar.arg
  hp0 : ∃ x, N[0]? = some x ∧ scope.names.lookup x = some .local
  top : (P.main.scope.names.lookup ("super" : Str)).isSome = false
  ms : mg "super" = none
  self : PySem.W.mroIn K C (.ref C) = some true
  sup : PySem.W.ks_superIn K C C "__init__" = some (some (.builtin "ValueError.__init__"))
  stat : PySem.W.nsIn K cStatics "thirdparty.any" = some none
  sub : PySem.W.subIn K (.ref C) (.type "ValueError") = some true
/-- super().__init__(e) -/
def tSup (te : TE) : TS := fun D σ H => te σ H fun _ H1 => ∃ a C : Addr, σ[0]? = some (some (.ref a)) ∧ H a = some (exo a C none) ∧ H1 a = some (exo a C none) ∧ D.nx σ H1
theorem callWith_mw {M : Model} {A : Around} {E : Value → Shared → Prop} {s : Shared} {i : String} {u x : Addr} {pos : Pos} {env : Env} {e : Expr} {Q : Value → Shared → Prop}
    (h : wpAny M A (spliced (backTo pos (starEach [e] env))) (fun vs s₁ => PySem.W.KxsAt i u x s₁.heap ∧ wpAny M A (call (.ref u) vs) Q E s₁) E s)
    (he : starEach [e] env = (false, eval e env) :: starEach [] env := by rfl) (hplain : (backTo pos (starEach [] env)).any (·.1) = false := by rfl) :
    wpAny M A (callWith pos (.ref u) [] (backTo pos (starEach [e] env)) []) Q E s := by
  rw [he] at h ⊢
  refine PySem.W.kxs_callWith (i := i) (x := x) (by show (false || (backTo pos (starEach [] env)).any (·.1)) = false; rw [hplain]; rfl) ?_
  exact Calls.evalArgs_plain h
section
variable {CX : CXT} {P : Program} {w : World} {K : PySem.W.Frag} {mg : Str → Option Value} {base : Heap} {N ps : List Str} {nm0 qual : Str} {params : Arguments} {body : List Stmt} {scope : Scope} {f cc cda C : Addr} {A : Around} {outer : List Env} {s : Shared} {H : Hp} {E : XK}
theorem step_su (T : SuC P K mg C f cc cda N ps nm0 qual params body scope) {σ : L2.St} {s1 : Shared} {H1 : Hp} {a : Addr} (I : Inv (cxS CX P w K mg base N qual scope f (.ref cda) cc A outer s H E) [] σ H1 s1) (h0 : σ[0]? = some (some (.ref a))) (ea : H1 a = some (exo a C none))
    {p0 p1 p2 p3 p4 : Pos} {e : Expr} {rest : List Stmt} {te : TE} {Qf : Flow → Shared → Prop} {Ef : Value → Shared → Prop} (he : PE (cxS CX P w K mg base N qual scope f (.ref cda) cc A outer s H E) e te)
    (hev : starEach [e] (envS qual scope s.heap.objs.size f (.ref cda) cc) = (false, eval e (envS qual scope s.heap.objs.size f (.ref cda) cc)) :: starEach [] (envS qual scope s.heap.objs.size f (.ref cda) cc) := by rfl)
    {pl : Sem Bool} (hc : eval (.Call (.Attribute (.Call (.Name "super" p0) [] [] p1) "__init__" p2) [e] [] p3) (envS qual scope s.heap.objs.size f (.ref cda) cc) = (do
      let ov ← attributeBase (.Call (.Name "super" p0) [] [] p1) "__init__" (envS qual scope s.heap.objs.size f (.ref cda) cc) (eval (.Call (.Name "super" p0) [] [] p1) (envS qual scope s.heap.objs.size f (.ref cda) cc))
      standAt p2.atName
      let (g, first) ← holding [ov] (getMethod ov "__init__" pl)
      callWith p3 g first (backTo p3 (starEach [e] (envS qual scope s.heap.objs.size f (.ref cda) cc))) []) := by rfl)
    (hi : interactive (envS qual scope s.heap.objs.size f (.ref cda) cc) = false := by rfl) (hsw : swapsWith (.Call (.Attribute (.Call (.Name "super" p0) [] [] p1) "__init__" p2) [e] [] p3) none p4.line (envS qual scope s.heap.objs.size f (.ref cda) cc) = pure false := by rfl)
    (hq : te σ H1 fun y H2 => [y].length = 1 ∧ H2 a = some (exo a C none) ∧ ∀ pins s2, Inv (cxS CX P w K mg base N qual scope f (.ref cda) cc A outer s H E) pins σ H2 s2 → wpAny (model P w) (A.deeper (envS qual scope s.heap.objs.size f (.ref cda) cc)) (execs rest (envS qual scope s.heap.objs.size f (.ref cda) cc)) Qf Ef s2) :
    PySem.wpAt (model P w) (A.deeper (envS qual scope s.heap.objs.size f (.ref cda) cc)) (.func body (envS qual scope s.heap.objs.size f (.ref cda) cc)) (execs (.Expr (.Call (.Attribute (.Call (.Name "super" p0) [] [] p1) "__init__" p2) [e] [] p3) p4 :: rest) (envS qual scope s.heap.objs.size f (.ref cda) cc)) Qf Ef s1 := by
  obtain ⟨oc, od, dV, kV, doc, pm, an, ct, osl, lk⟩ := T.lk
  obtain ⟨ccl, cdd, vs, ccs, file, tf, hcode, hvs, hfile⟩ := T.code
  obtain ⟨occ, odc, oslc, hcel⟩ := T.cel
  obtain ⟨ar, har, hN0⟩ := T.p0
  obtain ⟨x0, hx0, hl0⟩ := T.hp0
  rw [hN0] at hx0
  cases hx0
  have X : K.In s1.heap := I.kIn
  refine PySem.ks_wpAt_execs_cons (PySem.ks_wpAt_Expr_any (PySem.ks_wpAt_MethodCall ?_ hc) hi hsw)
  refine PySem.ks_wpAt_super_base (env := envS qual scope s.heap.objs.size f (.ref cda) cc) T.sc.sup T.sc.cls (by decide) rfl (X _ _ lk) rfl har rfl (X _ _ hcode) rfl hvs hfile T.top ?_
  obtain ⟨mb, b1, b2⟩ := I.mod.blt
  refine PySem.W.ks_loadName_global T.sc.kind T.sc.sup (Calls.loadGlobal_builtin (I.mod.glob.keeps I.bk) T.ms (b1.keeps I.bk) ((b2 _ (by decide +kernel)).trans (by kernel_rfl : bootBuiltins "super" = some (.type "super"))) ⟨rfl, ?_⟩)
  refine wpAny_loadName_free T.sc.kind T.sc.cls (by simp [List.lookup]) ⟨_, X _ _ hcel, rfl⟩ ?_
  obtain ⟨m, hNs, hloc⟩ := I.loc
  obtain ⟨u0, ru, hlk⟩ := hloc 0 ar.arg (.ref a) hN0 h0 (.inl hl0)
  obtain rfl : u0 = Value.ref a := ru
  have hma : m ar.arg = some (.ref a) := by
    rcases hlk with ⟨_, z⟩ | ⟨z, _⟩
    · exact z
    · have hk : (envS qual scope s.heap.objs.size f (.ref cda) cc).kindOf ar.arg = some .local := hl0
      rcases z with z | z
      · have z' : (envS qual scope s.heap.objs.size f (.ref cda) cc).kindOf ar.arg = some .cell := z
        rw [hk] at z'; cases z'
      · have z' : (envS qual scope s.heap.objs.size f (.ref cda) cc).kindOf ar.arg = some .free := z
        rw [hk] at z'; cases z'
  refine wpAny_loadName_local T.sc.kind hl0 hNs hma ?_
  obtain ⟨nmC, qC, NC, bsC, bmC, snC, subC, abC, colC, ddC, k0, k1, k2, k3, k5, hC, hbm⟩ := T.ox.cls
  have hCg := X _ _ hC
  refine PySem.ks_wpAny_isType_cls hCg rfl ⟨rfl, ?_⟩
  obtain ⟨t1, ho⟩ := exo_at I.hok ea
  obtain ⟨hp, g, d, tk, os⟩ := s1
  have hnc : ∀ c : ClassData, (Data.fields #[.ref t1, .none, .none, .none, .bool false, .none] : Data) ≠ .cls c := fun c z => by cases z
  refine PySem.ks_wpAny_call_super hCg rfl ho rfl hnc (PySem.W.looks_mroIn X T.self) fun h1 e1 k1 => ?_
  have I1 : L2.Inv (cxS CX P w K mg base N qual scope f (.ref cda) cc A outer s H E) [] σ H1 ⟨h1, g, d, tk, os⟩ := I.kept (t' := tk) k1
  have X1 := I1.kIn
  have IA : PySem.W.InstAt h1 a ({ cls := .ref C, dict := none, data := .fields #[.ref t1, .none, .none, .none, .bool false, .none] } : Obj) C none := ⟨k1 _ _ ho, rfl, rfl, trivial⟩
  have hin : PySem.W.Looks (model P w) h1 (isInstance (.ref a) (.type "ValueError")) true := IA.type.andThen (PySem.W.looks_subIn X1 T.sub)
  have hcl : ∃ cd, PySem.W.clsIn K C = some cd := by unfold PySem.W.clsIn; rw [hC]; exact ⟨_, rfl⟩
  obtain ⟨cd, hcd⟩ := hcl
  have hm : PySem.W.alongIn K "__init__" ((cd.mro.dropWhile (· != .ref C)).drop 1) = some (some (.builtin "ValueError.__init__")) := by
    have z := T.sup
    unfold PySem.W.ks_superIn at z
    rw [hcd] at z
    exact z
  refine PySem.W.kxs_getMethod PySem.W.kxs_ValueError e1 (PySem.W.looks_opaque X1 T.stat) (l₀ := cd.mro) (fun A Q E s k q => wpAny_bind ((PySem.W.looks_clsIn X1 hcd) A _ E s k (wpAny_pure q))) rfl X1 hm hin (PySem.W.ks_ne X1 IA hcd) (by decide) ?_
  have k2 : ∀ b o, h1.get? b = some o → (h1.push (PySem.W.kxs_mw "ValueError.__init__" a)).get? b = some o := fun b o z => Heap.get?_push_of_some _ z
  have hu : (h1.push (PySem.W.kxs_mw "ValueError.__init__" a)).get? h1.objs.size = some (PySem.W.kxs_mw "ValueError.__init__" a) := Heap.get?_push_size _ rfl
  have I2 : L2.Inv (cxS CX P w K mg base N qual scope f (.ref cda) cc A outer s H E) [(h1.objs.size, PySem.W.kxs_mw "ValueError.__init__" a)] σ H1 ⟨h1.push (PySem.W.kxs_mw "ValueError.__init__" a), g, d, tk + 1, os⟩ := by
    refine (I1.kept (t' := tk + 1) k2).pins_of fun p hp => ?_
    rw [List.mem_singleton] at hp
    subst hp
    refine ⟨hu, I1.hok.fresh (Nat.le_refl _), Nat.ne_of_gt I1.lt, I1.nofs (Nat.le_refl _), fun v z => ?_⟩
    cases z
  have ha : PA (cxS CX P w K mg base N qual scope f (.ref cda) cc A outer s H E) [e] (tCons te tNil) := pa_cons he pa_nil hev
  refine callWith_mw (i := "ValueError.__init__") (x := a) (wpAny_mono (ha.run p3 _ _ σ H1 (fun vs H2 => vs.length = 1 ∧ H2 a = some (exo a C none) ∧ ∀ pins s2, L2.Inv (cxS CX P w K mg base N qual scope f (.ref cda) cc A outer s H E) pins σ H2 s2 → wpAny (model P w) (A.deeper (envS qual scope s.heap.objs.size f (.ref cda) cc)) (execs rest (envS qual scope s.heap.objs.size f (.ref cda) cc)) Qf Ef s2) I2 hq) (fun us s2 hh => ?_) fun _ _ z => z.elim) hev rfl
  obtain ⟨vs, H2, J, rv, hl1, ea2, kq⟩ := hh
  obtain ⟨hu2, _⟩ := J.pin _ (List.mem_append_right _ (List.mem_singleton.mpr rfl))
  refine ⟨hu2, ?_⟩
  obtain ⟨t2, ho2⟩ := exo_at J.hok ea2
  obtain ⟨hp2, g2, d2, tk2, os2⟩ := s2
  have hC2 := J.kIn _ _ hC
  have hl : us.length ≤ sizeLine := by rw [← Paired.length rv, hl1]; exact (by decide : 1 ≤ sizeLine)
  refine call_bwV hC2 ho2 hu2 hl fun h' t3 k hx => ?_
  have J2 := J.write (t' := tk2) (x := a) (e := a) (o := exo a C none) (by rw [ea2]; exact True.intro) (.inl rfl) k ⟨_, hx⟩ (exo_ok hx)
  have eu : upd H2 a (exo a C none) = H2 := by
    funext b
    by_cases hb : b = a
    · rw [hb, upd_same, ea2]
    · rw [upd_ne hb]
  rw [eu] at J2
  exact PySem.wpAt_of_wpAny (kq _ _ J2)
/-- THE RULE for such an __init__ -/
theorem su_ok (T : SuC P K mg C f cc cda N ps nm0 qual params body scope) {k : Nat} {sp : Sp} {oc : Value} {od : Option Addr} {dV kV doc pm ct : Value} {an : Option Addr} {osl : Array (Option Value)} (lk : K.lookup f = some ⟨oc, od, .func (PySem.W.fnX nm0 qual params body scope [("__class__", cc)] dV kV doc pm an (.ref cda) ct), osl⟩)
    (len : ∀ vs H Q E, sp vs H Q E → vs.length = ps.length)
    {p0 p1 p2 p3 p4 : Pos} {e : Expr} {rest : List Stmt} (hb : body = .Expr (.Call (.Attribute (.Call (.Name "super" p0) [] [] p1) "__init__" p2) [e] [] p3) p4 :: rest)
    (hbody : ∀ (A : Around) (outer : List Env) (s : Shared) (H : Hp) (vs : List V) (Q : VK) (E : XK), Room k (A.deeper (envS qual scope s.heap.objs.size f (.ref cda) cc)) → sp vs H Q E →
      ∃ (te : TE) (t : TS) (a : Addr), PE (cxS CX P w K mg base N qual scope f (.ref cda) cc A outer s H E) e te ∧ PSs (cxS CX P w K mg base N qual scope f (.ref cda) cc A outer s H E) rest t ∧ vs[0]? = some (.ref a) ∧ H a = some (exo a C none) ∧
        ∀ Qp : VK, (∀ y H2, H2 a = some (exo a C none) → t { nx := fun _ H' => Q .non H', rt := Q } (L2.start N vs) H2 → Qp y H2) → te (L2.start N vs) H Qp)
    {pl : ∀ (L : Addr), Sem Bool} (hc : ∀ L, eval (.Call (.Attribute (.Call (.Name "super" p0) [] [] p1) "__init__" p2) [e] [] p3) (envS qual scope L f (.ref cda) cc) = (do
      let ov ← attributeBase (.Call (.Name "super" p0) [] [] p1) "__init__" (envS qual scope L f (.ref cda) cc) (eval (.Call (.Name "super" p0) [] [] p1) (envS qual scope L f (.ref cda) cc))
      standAt p2.atName
      let (g, first) ← holding [ov] (getMethod ov "__init__" (pl L))
      callWith p3 g first (backTo p3 (starEach [e] (envS qual scope L f (.ref cda) cc))) []) := by intro L; rfl)
    (hi : ∀ L, interactive (envS qual scope L f (.ref cda) cc) = false := by intro L; rfl) (hsw : ∀ L, swapsWith (.Call (.Attribute (.Call (.Name "super" p0) [] [] p1) "__init__" p2) [e] [] p3) none p4.line (envS qual scope L f (.ref cda) cc) = pure false := by intro L; rfl)
    (hev : ∀ L, starEach [e] (envS qual scope L f (.ref cda) cc) = (false, eval e (envS qual scope L f (.ref cda) cc)) :: starEach [] (envS qual scope L f (.ref cda) cc) := by intro L; rfl) :
    FnOk P w K mg base CX (k + 1) f (PySem.W.fnX nm0 qual params body scope [("__class__", cc)] dV kV doc pm an (.ref cda) ct) ps sp := by
  refine ⟨len, fun A outer s H args us vs Q E hr e0 hbd r hsp => ?_⟩
  have hl := len _ _ _ _ hsp
  have KX : K.In s.heap := e0.mod.kin.keeps fun b o e => (e0.bs b o e).1
  have lim : s.heap.NoLimit := e0.mod.nolimit.keeps fun b o e => (e0.bs b o e).1
  obtain ⟨occ, odc, oslc, hcel⟩ := T.cel
  have hloc : ∀ y ∈ ps.zip us, scope.names.lookup y.1 = some .local := fun ⟨n, v⟩ hy => T.sc.par n (List.of_mem_zip hy).1
  refine PySem.ks_codeAny_call_defAt hr.depth (KX _ _ lk) rfl lim (PySem.W.codeRec_of KX T.hcd) rfl hbd T.sc.nocell hloc (fun h1 hns hk => ?_) T.sc.co T.sc.gen T.sc.kind
  obtain ⟨te, t, a, he, ht, hv0, ea, hq⟩ := hbody A outer s H vs Q E (hr.deeper _) hsp
  have I : L2.Inv (cxS CX P w K mg base N qual scope f (.ref cda) cc A outer s H E) [] (L2.start N vs) H { s with heap := h1, toks := s.toks + (ps.zip us).length } := inv_startS T.sc hr.hd e0 hl r hcel hns hk
  subst hb
  have h0 : (L2.start N vs)[0]? = some (some (.ref a)) := by
    unfold L2.start
    have : 0 < vs.length := (List.getElem?_eq_some_iff.mp hv0).1
    rw [List.getElem?_append_left (by simpa using this), List.getElem?_map, hv0]
    rfl
  refine step_su T I h0 ea he (hev _) (hc _) (hi _) (hsw _) (hq _ fun y H2 e2 ht2 => ⟨rfl, e2, fun pins s2 J => ?_⟩)
  refine wpAny_mono (ht.run pins s2 (L2.start N vs) H2 _ J ht2) (fun fl s' hs => ?_) fun e s' hs => hs.elim
  have fin : ∀ {σ' : L2.St} {H' : Hp} {v : V} {u : Value}, L2.Inv (cxS CX P w K mg base N qual scope f (.ref cda) cc A outer s H E) pins σ' H' s' → RelV v u → Q v H' → CE outer P w H s Q u s' :=
    fun {σ' H' v u} J rv q => ⟨v, H', J.os, J.bare, J.base, J.hok, rv, q⟩
  cases fl with
  | ret u =>
    obtain ⟨v, σ', H', J, rv, q⟩ := hs
    exact fin J rv q
  | next =>
    obtain ⟨σ', H', J, q⟩ := hs
    exact fin (v := V.non) (u := Value.none) J rfl q
  | brk =>
    obtain ⟨_, _, _, q⟩ := hs
    exact False.elim q
  | cont =>
    obtain ⟨_, _, _, q⟩ := hs
    exact False.elim q
end
end XS
set_option Elab.async false
set_option linter.all false
set_option maxRecDepth 100000
set_option autoImplicit false
set_option maxHeartbeats 4000000
/-! X2: own exceptions with an __init__ of their own, made as values, by position and by keywords. -/
namespace XS
open PySem PySem.Spec PyProof.Rows L2 PySem.HandSPX
section
variable {M : Model} {A : Around} {E : Value → Shared → Prop} {h : Heap} {g : Array GenState} {d : Drawn} {t : Nat} {os : OsState}
variable {nm q : Str} {C N : Addr} {bs bm bmB : List Value} {hdct : Bool} {sn : List Str} {sub : List Value} {ab : Bool} {col : Option Bool} {dd : Option Addr} {k0 k1 k2 k3 k5 : Option Value} {B newId initId : String}
theorem check_new_ownK (F : ExcBaseFacts B newId initId bmB) (hT : ∀ X : String, bm.contains (.type X) = bmB.contains (.type X)) {rest : List Value} {kw : List (Str × Value)} {Q : Unit → Shared → Prop}
    (hC : h.get? C = some (excClassObj nm q C N bs bm hdct sn sub ab col dd k0 k1 k2 k3 k5 newId)) (hq : Q () ⟨h, g, d, t, os⟩) : wpAny M A (checkBuiltinCall newId ⟨.ref C :: rest, kw⟩) Q E ⟨h, g, d, t, os⟩ := by
  have hcont : (Value.ref C :: bm).contains (.type B) = true := by rw [List.contains_cons, hT, F.hasB, Bool.or_true]
  have hstar := F.noStar
  simp only [checkBuiltinCall, F.newKind, F.newSplit, F.newRow]
  repeat (first | refine wpAny_loadPart_at hC ?_ | (refine wpAny_isSubtype_exc hC ?_; rw [hcont]) | refine wpAny_staticBase_exc hC ?_ | refine wpAny_madeBy_exc hC ?_ | simp only [bne_self_eq_false, Bool.false_eq_true, if_false] | wp_step)
  exact hq
end
section
variable {prog : Program} {w : World} {A : Around} {E : Value → Shared → Prop} {R : Result → Shared → Prop} {h : Heap} {g : Array GenState} {d : Drawn} {t : Nat} {os : OsState}
variable {nm q : Str} {C N : Addr} {bs bm bmB : List Value} {hdct : Bool} {sn : List Str} {sub : List Value} {ab : Bool} {col : Option Bool} {dd : Option Addr} {k0 k1 k2 k3 k5 : Option Value} {B newId initId : String}
theorem new_ownK (F : ExcBaseFacts B newId initId bmB) (hT : ∀ X : String, bm.contains (.type X) = bmB.contains (.type X)) {rest : List Value} {kw : List (Str × Value)}
    (hC : h.get? C = some (excClassObj nm q C N bs bm hdct sn sub ab col dd k0 k1 k2 k3 k5 newId))
    (hq : R (.ok (.ret (.ref (h.objs.size + 1)))) ⟨(h.push { cls := .type "tuple", data := .seq rest.toArray }).push
      { cls := .ref C, data := .fields #[.ref h.objs.size, .none, .none, .none, .bool false, .none] }, g, d, t, os⟩) (hrest : rest.length ≤ sizeLine) :
    codeAny (model prog w) A (.builtin newId ⟨.ref C :: rest, kw⟩) R ⟨h, g, d, t, os⟩ := by
  have hends := F.ends
  have hcB : (Value.ref C :: bm).contains (.type B) = true := by rw [List.contains_cons, hT, F.hasB, Bool.or_true]
  have hcA : (Value.ref C :: bm).contains (.type "AttributeError") = false := by rw [List.contains_cons, hT, F.noAttr]; rfl
  have hcN : (Value.ref C :: bm).contains (.type "NameError") = false := by rw [List.contains_cons, hT, F.noName]; rfl
  refine codeAny_builtinAt F.entry ?_
  unfold Builtin.«BaseException.__new__»
  refine PySem.wpAt_bind ?_
  show PySem.wpAt _ _ _ (stack >>= _) _ _ _
  refine PySem.wpAt_bind (PySem.wpAt_stack fun p below => PySem.wpAt_of_wpAny ?_)
  wp_walk
  refine PySem.wpAt_of_wpAny ?_
  rw [F.owner]
  repeat (first | with_reducible refine wpAny_madeHere_exc F.canon hC ?_ | with_reducible refine wpAny_loadPart_at hC ?_ | (with_reducible refine wpAny_isSubtype_exc hC ?_; first | rw [hcB] | rw [hcA] | rw [hcN]) | wp_step)
  show R _ _
  rw [Heap.size_push]
  exact hq
theorem type_call_ownK (F : ExcBaseFacts B newId initId bmB) (hT : ∀ X : String, bm.contains (.type X) = bmB.contains (.type X)) {rest : List Value} {kw : List (Str × Value)} {fI : Addr} {Q : Fin → Shared → Prop}
    (hC : h.get? C = some (excClassObj nm q C N bs bm hdct sn sub ab col dd k0 k1 k2 k3 k5 newId))
    (hi : W.Looks (model prog w) h (typeLookup (.ref C) "__init__") (some (.ref fI))) (hb : ∀ self, W.Looks (model prog w) h (bindSpecial (.ref fI) self) (.ref fI, [self])) (hrest : rest.length ≤ sizeLine) (hkw : 0 < kw.length)
    (hq : codeAny (model prog w) A (.call (.ref fI) ⟨.ref (h.objs.size + 1) :: rest, kw⟩)
      (fun r s' => match r with | .ok (.ret v) => v = .none ∧ Q (.done (.ret (.ref (h.objs.size + 1)))) s' | .ok _ => False | .error e => E e s')
      ⟨(h.push (W.kdv_tup rest)).push (excO C h.objs.size), g, d, t, os⟩) :
    wpAny (model prog w) A (Builtin.«type.__call__» ⟨.ref C :: rest, kw⟩) Q E ⟨h, g, d, t, os⟩ := by
  repeat (first | with_reducible refine wpAny_loadPart_at hC ?_ | with_reducible refine wpAny_madeBy_exc hC ?_ | wp_step)
  refine codeAny_call_builtin_code (Code.quiet_builtin _ F.quiet) (check_new_ownK F hT hC ?_)
  refine new_ownK F hT hC ?_ hrest
  show wpAny _ _ _ _ _ _
  have k : ∀ b o, h.get? b = some o → ((h.push (W.kdv_tup rest)).push (excO C h.objs.size)).get? b = some o := fun b o e => Heap.get?_push_of_some _ (Heap.get?_push_of_some _ e)
  have hC₁ := k _ _ hC
  have hget : ((h.push (W.kdv_tup rest)).push (excO C h.objs.size)).get? (h.objs.size + 1) = some (excO C h.objs.size) := by heap_get
  have hcC : (Value.ref C :: bm).contains (.ref C) = true := by simp
  have i1 := hi.keeps k
  have b1 := (hb (.ref (h.objs.size + 1))).keeps k
  unfold isInstance
  repeat (first | with_reducible refine wpAny_loadPart_at hget ?_ | (with_reducible refine wpAny_isSubtype_exc hC₁ ?_; rw [hcC]) | wp_step)
  show wpAny _ _ (typeLookup (.ref C) _) _ _ _
  refine i1.at ?_
  refine wpAny_holding (wpAny_bind (b1.at ?_))
  refine wpAny_bind (wpAny_call (codeAny_mono hq fun r s' z => ?_))
  rcases r with e | (v | _ | _ | _) <;> first | exact z | exact z.elim | skip
  obtain ⟨rfl, z⟩ := z
  first
    | exact wpAny_pure (wpAny_pure z)
    | (wp_walk; exact z)
theorem call_ownK (F : ExcBaseFacts B newId initId bmB) (hT : ∀ X : String, bm.contains (.type X) = bmB.contains (.type X)) {rest : List Value} {kw : List (Str × Value)} {fI : Addr}
    (hC : h.get? C = some (excClassObj nm q C N bs bm hdct sn sub ab col dd k0 k1 k2 k3 k5 newId))
    (hi : W.Looks (model prog w) h (typeLookup (.ref C) "__init__") (some (.ref fI))) (hb : ∀ self, W.Looks (model prog w) h (bindSpecial (.ref fI) self) (.ref fI, [self])) (hrest : rest.length ≤ sizeLine) (hkw : 0 < kw.length)
    (hq : codeAny (model prog w) (A.under (.builtin "type.__call__" ⟨.ref C :: rest, kw⟩)) (.call (.ref fI) ⟨.ref (h.objs.size + 1) :: rest, kw⟩) (W.InitBack (h.objs.size + 1) R)
      ⟨(h.push (W.kdv_tup rest)).push (excO C h.objs.size), g, d, t, os⟩) :
    codeAny (model prog w) A (.call (.ref C) ⟨rest, kw⟩) R ⟨h, g, d, t, os⟩ := by
  have f1 := tc_lookup
  have f2 := tc_bind (.ref C)
  have hTy : (⟨h, g, d, t, os⟩ : Shared).TypeIs (.ref C) "type" := ⟨_, hC, rfl⟩
  refine codeAny_of_tree ?_
  show wpAny _ _ (callAny (.ref C) _) _ _ _
  repeat (any_goals (first | assumption | with_reducible refine wpAny_loadPart_at hC ?_ | wp_step))
  refine ⟨rfl, ?_⟩
  refine codeAny_call_builtin_at (Code.quiet_builtin _ (by decide +kernel)) entry_typeCall (wpAny_check_type_call_sub hC (type_call_ownK F hT hC hi hb hrest hkw ?_))
  refine codeAny_mono hq fun r s' z => ?_
  rcases r with e | (v | _ | _ | _) <;> exact z
end
/-- C(e, ..) as a value, C's own __init__ keeping sp -/
def tExV (C : Addr) (sp : Sp) (ta : TA) : TE := fun σ H Q => ta σ H fun vs H1 => vs.length ≤ 1000 ∧ ∀ a, H1 a = none → sp (.ref a :: vs) (upd H1 a (exo a C none)) (fun v H2 => v = .non ∧ Q (.ref a) H2) (fun _ _ _ => False)
/-- C(k = e, ..) -/
def tExK (C : Addr) (n : Nat) (sp : Sp) (tk : TA) : TE := fun σ H Q => tk σ H fun vs H1 => vs.length = n ∧ ∀ a, H1 a = none → sp (.ref a :: vs) (upd H1 a (exo a C none)) (fun v H2 => v = .non ∧ Q (.ref a) H2) (fun _ _ _ => False)
/-- the class at C, by its name, and its __init__ -/
structure MakX (P : Program) (w : World) (K : PySem.W.Frag) (mg : Str → Option Value) (base : Heap) (k : Nat) (x : Str) (C : Addr) (ps : List Str) (sp : Sp) : Prop where
  ex : ∃ (f : Addr) (fd : FuncData), FnOk P w K mg base CX0 k f fd (("self" : Str) :: ps) sp ∧ mg x = some (.ref C) ∧ OexC K C ∧ PySem.W.findIn K (.ref C) "__init__" = some (some (.ref f)) ∧ PySem.W.typeIn K (.ref f) = some (.type "function") ∧
    (∀ (s : Shared) (us : List Value), us.length = ps.length + 1 → BindsTo s fd ⟨us, []⟩ ((("self" : Str) :: ps).zip us)) ∧
    (∀ (s : Shared) (u : Value) (us : List Value), us.length = ps.length → BindsTo s fd ⟨[u], ps.zip us⟩ ((("self" : Str) :: ps).zip (u :: us)))
section
variable {X : Cx} {k j : Nat} {x : Str} {C : Addr} {ps : List Str} {sp : Sp} {e : Expr} {es : List Expr} {ta tk : TA} {p pos : Pos} {kws : List Keyword}
/-- both ways of making one -/
theorem run_mkX {pins : List (Addr × Obj)} {σ : L2.St} {H1 : Hp} {s1 : Shared} {Q : VK} {vs : List V} {us : List Value} {args : Args} {f : Addr} {fd : FuncData} (T : OexC X.K C) (F : FnOk X.prog X.w X.K X.mg X.base CX0 k f fd (("self" : Str) :: ps) sp)
    (iC : PySem.W.findIn X.K (.ref C) "__init__" = some (some (.ref f))) (tI : PySem.W.typeIn X.K (.ref f) = some (.type "function")) (hr : Room (k + 1) X.A) (I1 : Inv X pins σ H1 s1) (r1 : Vals vs us) (hl : us.length ≤ sizeLine)
    (hargs : (args = ⟨us, []⟩ ∧ ∀ (s : Shared) (us : List Value), us.length = ps.length + 1 → BindsTo s fd ⟨us, []⟩ ((("self" : Str) :: ps).zip us)) ∨ (args = ⟨[], ps.zip us⟩ ∧ 0 < (ps.zip us).length ∧ ∀ (s : Shared) (u : Value) (us : List Value), us.length = ps.length → BindsTo s fd ⟨[u], ps.zip us⟩ ((("self" : Str) :: ps).zip (u :: us))))
    (q1 : ∀ a, H1 a = none → sp (.ref a :: vs) (upd H1 a (exo a C none)) (fun v H2 => v = .non ∧ Q (.ref a) H2) (fun _ _ _ => False)) :
    wpAny (model X.prog X.w) X.A (call (.ref C) args.pos args.kw) (EP X pins σ Q) X.xe s1 := by
  obtain ⟨nm, q, N, bs, bm, sn, sub, ab, col, dd, k0, k1, k2, k3, k5, hC, hbm⟩ := T.cls
  obtain ⟨hp, g, dr, tk, os⟩ := s1
  have hsz : hp.objs.size ≤ hp.objs.size + 1 := Nat.le_succ _
  have hn : H1 (hp.objs.size + 1) = none := I1.hok.fresh hsz
  have hq := q1 (hp.objs.size + 1) hn
  have l1 : vs.length = ps.length := Nat.succ.inj (F.len _ _ _ _ hq)
  have l2 : us.length = ps.length := r1.length.symm.trans l1
  have made : ∀ (rest : List Value), Inv X pins σ (upd H1 (hp.objs.size + 1) (exo (hp.objs.size + 1) C none)) ⟨(hp.push (PySem.W.kdv_tup rest)).push (PySem.HandSPX.excO C hp.objs.size), g, dr, tk, os⟩ := fun rest => by
    have kk : ∀ b o, hp.get? b = some o → ((hp.push (PySem.W.kdv_tup rest)).push (PySem.HandSPX.excO C hp.objs.size)).get? b = some o := fun b o e => Heap.get?_push_of_some _ (Heap.get?_push_of_some _ e)
    have hget : ((hp.push (PySem.W.kdv_tup rest)).push (PySem.HandSPX.excO C hp.objs.size)).get? (hp.objs.size + 1) = some (PySem.HandSPX.excO C hp.objs.size) := by heap_get
    exact I1.laid (t' := tk) (a := hp.objs.size + 1) (o := exo (hp.objs.size + 1) C none) kk hsz (exo_ok hget)
  have r2 : Vals (V.ref (hp.objs.size + 1) :: vs) (Value.ref (hp.objs.size + 1) :: us) := .cons rfl r1
  have fin : ∀ {I2s : Shared} (I2 : Inv X pins σ (upd H1 (hp.objs.size + 1) (exo (hp.objs.size + 1) C none)) I2s) (r : Result) (s' : Shared), CR CX0 X.stack X.prog X.w (upd H1 (hp.objs.size + 1) (exo (hp.objs.size + 1) C none)) I2s (fun v H2 => v = .non ∧ Q (.ref (hp.objs.size + 1)) H2) (fun _ _ _ => False) r s' →
      PySem.W.InitBack (hp.objs.size + 1) (wants (EP X pins σ Q) X.xe) r s' := fun {I2s} I2 r s' hq' => by
    cases r with
    | error er => exact hq'.elim
    | ok fl =>
      cases fl with
      | ret u =>
        obtain ⟨v, H2, J, rv, ev, q2⟩ := I2.after hq'
        subst ev
        exact ⟨rv, ⟨V.ref (hp.objs.size + 1), H2, J, rfl, q2⟩⟩
      | next => exact False.elim hq'
      | brk => exact False.elim hq'
      | cont => exact False.elim hq'
  rcases hargs with ⟨rfl, hb⟩ | ⟨rfl, hk0, hb⟩
  · have I2 := made us
    refine wpAny_call (PySem.HandSPX.call_own PySem.F.excBase_ValueError (fun Y => PySem.HandSPX.refsVE_contains Y bm hbm) (I1.kIn _ _ hC) (PySem.W.looks_findIn I1.kIn iC) (fun self => PySem.W.bind_fn I1.kIn self tI) hl
      (codeAny_mono (F.run _ X.stack _ _ ⟨Value.ref (hp.objs.size + 1) :: us, []⟩ (Value.ref (hp.objs.size + 1) :: us) _ _ (fun _ _ _ => False) (hr.make C us []) (I2.env0.make C us []) (hb _ _ (by rw [List.length_cons, l2])) r2 hq) (fin I2)))
  · have I2 := made []
    refine wpAny_call (call_ownK PySem.F.excBase_ValueError (fun Y => PySem.HandSPX.refsVE_contains Y bm hbm) (I1.kIn _ _ hC) (PySem.W.looks_findIn I1.kIn iC) (fun self => PySem.W.bind_fn I1.kIn self tI) (Nat.zero_le _) hk0
      (codeAny_mono (F.run _ X.stack _ _ ⟨[Value.ref (hp.objs.size + 1)], ps.zip us⟩ (Value.ref (hp.objs.size + 1) :: us) _ _ (fun _ _ _ => False) (hr.make C [] (ps.zip us)) (I2.env0.make C [] (ps.zip us)) (hb _ _ us l2) r2 hq) (fin I2)))
theorem pe_exV (c : MakX X.prog X.w X.K X.mg X.base k x C ps sp) (hr : Room j X.A) (hk : k + 1 ≤ j) (hg : Gl X x) (ha : PA X (e :: es) ta) (hdb : (x == ("__debug__" : Str)) = false := by decide)
    (he : starEach (e :: es) X.env = (false, eval e X.env) :: starEach es X.env := by rfl) (hpl : (backTo pos (starEach es X.env)).any (·.1) = false := by rfl) : PE X (.Call (.Name x p) (e :: es) [] pos) (tExV C sp ta) := by
  obtain ⟨f, fd, F, hm, T, iC, tI, b1, b2⟩ := c.ex
  refine ⟨fun pins s σ H Q I h => ?_⟩
  refine wpAny_Call_Name_kw (ld_glob I hg hm ?_ hdb)
  refine PySem.W.callWith_K (h₀ := X.base) I.ok.mod.kin T.kC (thn (ha.run pos pins s σ H _ I h) fun us s1 ⟨vs, H1, I1, r1, hz, q1⟩ => ⟨I1.kIn, ?_⟩) he hpl
  exact run_mkX T F iC tI (hr.mono hk) I1 r1 (by rw [← Paired.length r1, sizeLine_eq]; omega) (.inl ⟨rfl, b1⟩) q1
theorem pe_exK (c : MakX X.prog X.w X.K X.mg X.base k x C ps sp) (hr : Room j X.A) (hk : k + 1 ≤ j) (hg : Gl X x) (h0 : 0 < ps.length) (hps : ps.length ≤ sizeLine) (hkw : PK X kws tk) (hall : (backToKw pos (keywordEach kws X.env)).all (·.1.isSome) = true := by rfl) (hks : (backToKw pos (keywordEach kws X.env)).filterMap (·.1) = ps := by rfl) (hdb : (x == ("__debug__" : Str)) = false := by decide)
    (hpl : ((backTo pos (starEach [] X.env)).any (·.1) || (backToKw pos (keywordEach kws X.env)).any (·.1.isNone)) = false := by rfl) : PE X (.Call (.Name x p) [] kws pos) (tExK C ps.length sp tk) := by
  obtain ⟨f, fd, F, hm, T, iC, tI, b1, b2⟩ := c.ex
  refine ⟨fun pins s σ H Q I h => ?_⟩
  refine wpAny_Call_Name_kw (ld_glob I hg hm ?_ hdb)
  refine PySem.W.callWith_KW0 (h₀ := X.base) I.ok.mod.kin T.kC hall ?_ hpl
  refine thn (hkw.run pos pins s σ H _ I h) fun ws s2 ⟨zs, H2, I2, rz, l1, q2⟩ => ⟨I2.kIn, ?_⟩
  rw [hks]
  have l2 : ws.length = ps.length := rz.length.symm.trans l1
  exact run_mkX (args := ⟨[], ps.zip ws⟩) T F iC tI (hr.mono hk) I2 rz (by rw [l2]; exact hps) (.inr ⟨rfl, by rw [List.length_zip]; omega, b2⟩) q2
end
end XS
set_option Elab.async false
set_option linter.all false
set_option maxRecDepth 100000
set_option autoImplicit false
set_option maxHeartbeats 4000000
/-! X3: exceptions held as values: isinstance, fields, made; as data. -/
namespace XS
open PySem PySem.Spec PyProof.Rows L2 DL
/-- an exception of the class at C stands at a -/
inductive ExAt (H : Hp) (a C : Addr) : Prop where
  | n (e : H a = some (ExO (.ref C) a))
  | d {dx : Addr} {fs : List (Str × V)} (e : H a = some (exo a C (some dx))) (g : H dx = some (exd dx fs))
section
variable {P : Program} {w : World} {K : PySem.W.Frag} {H : Hp} {h : Heap} {a C : Addr}
theorem lookIn_ns1 {dx : Addr} {mA : Str → Option Value} (hn : h.Ns1 dx mA) : ∃ od, h.get? dx = some od ∧ ∀ f, PySem.W.lookIn f od = some (mA f) := by
  obtain ⟨o, es, n, e, hd, hw, hm⟩ := hn
  exact lookIn_ns ⟨o, es, n, e, hd, hw, hm⟩
theorem ExAt.inst (hok : HOk P w H h) (z : ExAt H a C) : ∃ ox od, PySem.W.InstAt h a ox C od := by
  cases z with
  | n e =>
    obtain ⟨⟨oe, vs, ho, hz, hd, _⟩, _, _⟩ := hok a _ e
    obtain ⟨oc, odd, dt, osl⟩ := oe
    obtain ⟨h1, h2⟩ := hz
    dsimp only at h1 h2 hd
    subst h1 h2 hd
    exact ⟨_, none, ho, rfl, rfl, trivial⟩
  | d e g =>
    obtain ⟨t1, ho⟩ := exo_at hok e
    obtain ⟨mA, hn, _⟩ := exd_at hok g
    obtain ⟨od, hod, _⟩ := lookIn_ns1 hn
    exact ⟨_, some od, ho, rfl, rfl, hod⟩
end
/-- isinstance(e, c), e an exception held as a value -/
def rIsX (K : PySem.W.Frag) : List V → Hp → VK → Prop := fun xs H Q => ∃ (a C : Addr) (c : V) (u : Value) (b : Bool), xs = [.ref a, c] ∧ ClsV c u ∧ ExAt H a C ∧ ExcC K C ∧ PySem.W.kitOne K (.ref C) u = some b ∧ Q (.bl b) H
theorem call_isX {X : Cx} : CallR X (.builtin "isinstance") (rIsX X.K) := by
  intro pins s σ H xs us Q I r h
  obtain ⟨a, C, c, u, b, rfl, k, z, cc, e, q⟩ := h
  obtain ⟨u1, u2, rfl, r1, r2⟩ := vals2 r
  have e2 := k.eq r2
  subst e2
  cases (show u1 = Value.ref a from r1)
  obtain ⟨ox, od, J⟩ := z.inst I.hok
  have hcl : (PySem.W.clsIn X.K C).isSome = true := by
    obtain ⟨cd, e1, _⟩ := PySem.W.any_some cc.hd
    rw [e1]; rfl
  exact PySem.W.kia_one (PySem.W.kitx_exc hcl cc.hg cc.hk cc.hs cc.ha cc.hn cc.ht cc.hm) I.kIn J e (fun z => nomatch z) fun tk => ⟨.bl b, H, I.tok tk, rfl, q⟩
/-- e.f, e an exception held as a value -/
def tXa (K : PySem.W.Frag) (f : Str) (te : TE) : TE := fun σ H Q => te σ H fun x H1 => ∃ (a C dx : Addr) (fs : List (Str × V)) (v : V), x = .ref a ∧ H1 a = some (exo a C (some dx)) ∧ H1 dx = some (exd dx fs) ∧ XfC K C ∧ PySem.W.findIn K (.ref C) f = some none ∧ fs.lookup f = some v ∧ Q v H1
theorem pe_xa {X : Cx} {e : Expr} {te : TE} {pos : Pos} {n : Str} (he : PE X e te) (hb : attributeBase e n X.env (eval e X.env) = eval e X.env := by rfl) : PE X (.Attribute e n pos) (tXa X.K n te) := by
  refine ⟨fun pins s σ H Q I h => ?_⟩
  refine attr_of hb (thn (he.run pins s σ H _ I h) fun u s1 hh => ?_)
  obtain ⟨x, H1, I1, rx, a, C, dx, fs, v, ex, ea, ed, T, hno, l, q⟩ := hh
  subst ex
  obtain rfl : u = Value.ref a := rx
  obtain ⟨t1, ho⟩ := exo_at I1.hok ea
  obtain ⟨mA, hns, hr⟩ := exd_at I1.hok ed
  obtain ⟨od, hod, hl⟩ := lookIn_ns1 hns
  obtain ⟨u, hu, ru⟩ := RelO.some_of (v := v) (o := mA n) (by rw [← l]; exact hr n)
  have J : PySem.W.InstAt s1.heap a _ C (some od) := ⟨ho, rfl, rfl, hod⟩
  exact HandSPX.exc_get I1.kIn J T.ga T.gg T.exC (PySem.W.findObj_own T.hdC hno rfl (by rw [hl, hu])) (handed_of ru) ⟨v, H1, I1.tok _, ru, q⟩
/-! ### as data -/
/-- an exception without fields -/
def exN (C : Addr) : D := .opq fun F v => ∃ a, v = .ref a ∧ F a = some (ExO (.ref C) a)
/-- an exception with fields -/
def exD (C : Addr) (fs : List (Str × V)) : D := .opq fun F v => ∃ a dx, v = .ref a ∧ F a = some (exo a C (some dx)) ∧ F dx = some (exd dx fs)
/-- data that is an exception of the class at C -/
def IsX (C : Addr) (d : D) : Prop := d = exN C ∨ ∃ fs, d = exD C fs
theorem IsX.at {C : Addr} {d : D} {F H : Hp} {v : V} (h : IsX C d) (e : Ex F H) (r : Rep F d v) : ∃ a, v = .ref a ∧ ExAt H a C := by
  rcases h with rfl | ⟨fs, rfl⟩
  · obtain ⟨F0, e0, a, rfl, h1⟩ := r
    exact ⟨a, rfl, .n (e _ _ (e0 _ _ h1))⟩
  · obtain ⟨F0, e0, a, dx, rfl, h1, h2⟩ := r
    exact ⟨a, rfl, .d (e _ _ (e0 _ _ h1)) (e _ _ (e0 _ _ h2))⟩
section
variable {K : PySem.W.Frag} {Γ : List En} {te : TE} {ta : TA} {d x z : D} {C : Addr} {ds args : List D} {fs : List (Str × V)}
theorem rc_isX {b : Bool} {c : D} {cv : V} {u : Value} (h : IsX C x) (hc : ∀ F v, Rep F c v → v = cv) (k : ClsV cv u) (cc : ExcC K C) (hb : PySem.W.kitOne K (.ref C) u = some b) : RC (rIsX K) [x, c] (.bl b) := fun F H vs e r Q q => by
  obtain ⟨v, _, rfl, rv, w, _, rfl, rw', rfl⟩ := r
  obtain ⟨a, rfl, hx⟩ := h.at e rv
  have e1 := hc _ _ rw'
  subst e1
  exact ⟨a, C, w, u, b, rfl, k, hx, cc, hb, q _ F H (.refl e) rfl⟩
/-- e.f -/
theorem ep_xa {f : Str} {v : V} (h : EvP te Γ (exD C fs)) (T : XfC K C) (hno : PySem.W.findIn K (.ref C) f = some none) (hl : fs.lookup f = some v) (hd : ∀ F, Rep F d v) : EvP (tXa K f te) Γ d := fun c F H σ G Q k => h c F H σ G _ fun u F1 H1 S1 r => by
  obtain ⟨F0, e0, a, dx, rfl, h1, h2⟩ := r
  exact ⟨a, C, dx, fs, v, rfl, S1.fh _ _ (e0 _ _ h1), S1.fh _ _ (e0 _ _ h2), T, hno, hl, k v F1 H1 S1 (hd _)⟩
/-- C(e), no __init__ of its own -/
theorem ep_x1 (h : EvP te Γ d) : EvP (fun σ H Q => te σ H fun _ H1 => ∀ a, H1 a = none → Q (.ref a) (upd H1 a (ExO (.ref C) a))) Γ (exN C) := fun c F H σ G Q k => h c F H σ G _ fun v F1 H1 S1 r a ha =>
  k (.ref a) _ _ (S1.trans (Stp.new S1.fh _ ha)) ⟨_, Ex.refl _, a, rfl, upd_same⟩
/-- the promise of an __init__: the exception that is made has the fields fs -/
def spX (C : Addr) (I : List D → List (Str × V) → Prop) : Sp := fun vs H Q _ => ∃ (F H0 : Hp) (s : Addr) (ws : List V) (args : List D) (fs : List (Str × V)), vs = .ref s :: ws ∧ Ex F H0 ∧ H = upd H0 s (exo s C none) ∧ H0 s = none ∧ Reps F args ws ∧ I args fs ∧
  ∀ F' H', Stp F H0 F' H' → Rep F' (exD C fs) (.ref s) → Q .non H'
variable {I : List D → List (Str × V) → Prop}
theorem ep_xV (ha : EaP ta Γ args) (hI : I args fs) (hl : args.length ≤ 1000) : EvP (tExV C (spX C I) ta) Γ (exD C fs) := fun c F H σ G Q k => ha c F H σ G _ fun vs F1 H1 S1 r1 => ⟨by rw [r1.length]; exact hl, fun a hn =>
  ⟨F1, H1, a, vs, args, fs, rfl, S1.fh, rfl, hn, r1, hI, fun F' H' S r => ⟨rfl, k _ F' H' (S1.trans S) r⟩⟩⟩
theorem ep_xK {n : Nat} (ha : EaP ta Γ args) (hI : I args fs) (hn : args.length = n) : EvP (tExK C n (spX C I) ta) Γ (exD C fs) := fun c F H σ G Q k => ha c F H σ G _ fun vs F1 H1 S1 r1 => ⟨by rw [r1.length]; exact hn, fun a hn =>
  ⟨F1, H1, a, vs, args, fs, rfl, S1.fh, rfl, hn, r1, hI, fun F' H' S r => ⟨rfl, k _ F' H' (S1.trans S) r⟩⟩⟩
/-- the exception as it stands at the end of such an __init__ -/
theorem stp_made {F H0 : Hp} {s dx : Addr} (e : Ex F H0) (h0 : H0 s = none) (hd : H0 dx = none) (ne : dx ≠ s) :
    Stp F H0 (upd (upd F dx (exd dx fs)) s (exo s C (some dx))) (upd (upd H0 dx (exd dx fs)) s (exo s C (some dx))) ∧ Rep (upd (upd F dx (exd dx fs)) s (exo s C (some dx))) (exD C fs) (.ref s) := by
  have S1 := Stp.new e (exd dx fs) hd
  have n1 : upd H0 dx (exd dx fs) s = none := by rw [upd_ne (fun z => ne z.symm)]; exact h0
  have S2 := Stp.new S1.fh (exo s C (some dx)) n1
  exact ⟨S1.trans S2, _, Ex.refl _, s, dx, rfl, upd_same, by rw [upd_ne ne, upd_same]⟩
end
end XS
set_option Elab.async false
set_option linter.all false
set_option maxRecDepth 100000
set_option autoImplicit false
set_option maxHeartbeats 4000000
/-! P9: a list lent as the last argument (a slot's, or a new one); comprehensions whose tests and elements change slots' lists. -/
namespace DL
open PySem PySem.Spec PyProof.Rows L2
section
variable {K : PySem.W.Frag} {Γ Γ' : List En} {te ta tb tl : TE} {tt : TT} {x y z : D} {ds es : List D} {R : D → List En → Prop} {R' : D → List En → Prop} {C : Cn} {g : TG} {wi : TI}
theorem argOk_app : ∀ {es : List D} {ds : List D}, argOk (es.map En.sh ++ [.lent ds])
  | [], _ => trivial
  | _ :: es, _ => argOk_app (es := es)
theorem sp_last {vs : List V} {xs : List V} {a : Addr} {F1 H1 : Hp} {Q : VK} (x1 : Ex F1 H1) (r1 : Reps F1 es vs) (f1 : F1 a = none) (e1 : H1 a = some (.lst xs)) (rx : Reps F1 ds xs) (hc : C (es.map .sh ++ [.lent ds]) R') (hl : ∀ e Γ', R' e Γ' → ∃ ds', Γ'[es.length]? = some (.lent ds'))
    (k : ∀ v e Γ' ds' ys F' H', R' e Γ' → Γ'[es.length]? = some (.lent ds') → Stp F1 H1 F' (upd H' a (.lst xs)) → F' a = none → H' a = some (.lst ys) → Reps F' ds' ys → Rep F' e v → Q v H') : spE C (vs ++ [.ref a]) H1 Q E0 := by
  have hlen := r1.length
  have at_ : ∀ {j : Nat} {e : En}, (es.map En.sh ++ [.lent ds])[j]? = some e → (j = es.length ∧ e = .lent ds) ∨ (j < es.length ∧ (es.map En.sh)[j]? = some e) := fun {j e} he => by
    by_cases q : j < es.length
    · rw [List.getElem?_append_left (by rw [List.length_map]; exact q)] at he; exact .inr ⟨q, he⟩
    · rw [List.getElem?_append_right (by rw [List.length_map]; omega), List.length_map] at he
      have h0 : j - es.length = 0 := by
        have := (List.getElem?_eq_some_iff.mp he).1
        simp at this; omega
      rw [h0] at he
      exact .inl ⟨by omega, (Option.some.inj he).symm⟩
  have Gc : Good ⟨F1, H1, fun j => if j = es.length then some a else none⟩ F1 H1 ((vs ++ [V.ref a]).map some) (es.map .sh ++ [.lent ds]) := by
    refine ⟨Ex.refl _, x1, fun _ _ e _ => e, fun b ⟨j, e⟩ => ?_, fun _ e => .inl e, by simp [hlen], fun j e he => ?_, fun p q b e e' k1 k2 m1 m2 k3 k4 => ?_⟩
    · dsimp only at e
      by_cases z : j = es.length
      · rw [if_pos z] at e; cases e; exact ⟨_, e1⟩
      · rw [if_neg z] at e; cases e
    · rcases at_ he with ⟨rfl, rfl⟩ | ⟨hj, he⟩
      · refine ⟨some (.ref a), ?_, a, xs, rfl, f1, e1, rx, if_pos rfl⟩
        rw [List.map_append, List.getElem?_append_right (by rw [List.length_map, hlen]; exact Nat.le_refl _), List.length_map, hlen, Nat.sub_self]
        rfl
      · obtain ⟨d, v, rfl, q1, q2⟩ := reps_slots r1 j e he
        exact ⟨some v, by rw [List.map_append, List.getElem?_append_left (by rw [List.length_map, hlen]; exact hj)]; exact q1, v, rfl, q2⟩
    · have f : ∀ {j : Nat} {e : En}, (es.map En.sh ++ [.lent ds])[j]? = some e → e.mut = true → j = es.length := fun {j e} he m => by
        rcases at_ he with ⟨h, _⟩ | ⟨_, he⟩
        · exact h
        · obtain ⟨d, v, rfl, _, _⟩ := reps_slots r1 j e he
          cases m
      rw [f k1 m1, f k2 m2]
  refine ⟨_, F1, _, R', Gc, argOk_app, hc, fun v e Γ' F' H' hr G' x' r => ?_⟩
  obtain ⟨ds', h1⟩ := hl e Γ' hr
  obtain ⟨b, ys, q1, q2, q3, q4, q5⟩ := G'.lent h1
  have eb : b = a := by
    rw [List.map_append, List.getElem?_append_right (by rw [List.length_map, hlen]; exact Nat.le_refl _), List.length_map, hlen, Nat.sub_self] at q1
    simpa using q1.symm
  subst eb
  refine k v e Γ' ds' ys F' H' hr h1 ⟨x', fun p o q => ?_, fun p o q => ?_, G'.nw⟩ q2 q3 q4 r
  · by_cases z : p = b
    · subst z; rw [e1] at q; cases q; exact upd_same
    · rw [upd_ne z]
      exact G'.hh p o q fun ⟨j, e⟩ => by
        dsimp only at e
        by_cases w : j = es.length
        · rw [if_pos w] at e; cases e; exact z rfl
        · rw [if_neg w] at e; cases e
  · have np : p ≠ b := fun z => by subst z; rw [q2] at q; cases q
    rw [upd_ne np]; exact G'.fh p o q
theorem upd_back {H' : Hp} {b : Addr} {o u : HO} (h : H' b = some u) : upd (upd H' b o) b u = H' := by
  rw [upd_upd]
  funext p
  by_cases z : p = b
  · subst z; rw [upd_same, h]
  · rw [upd_ne z]
/-- f(x, y, l), l the list of slot i -/
theorem ew_callL {i : Nat} (hm : Mt Γ i ds) (ha : EvP ta Γ x) (hb : EvP tb Γ y) (hc : C [.sh x, .sh y, .lent ds] R') (hR : ∀ e Γ', R' e Γ' → ∃ ds', Γ'[2]? = some (.lent ds') ∧ R e (pt Γ i ds')) : EvW (tCall (spE C) [] E0 (tCons ta (tCons tb (tCons (tVar i) tNil)))) Γ R := fun c F H σ G Q k =>
  ha c F H σ G _ fun v F1 H1 S1 r1 => hb c F1 H1 σ (G.step S1) _ fun u F2 H2 S2 r2 => by
    have S12 := S1.trans S2
    have G2 := G.step S12
    obtain ⟨a, xs, e0, h1, h2, h3, h4, h5, h6⟩ := G2.mt hm
    refine ⟨_, h1, ?_⟩
    show spE C ([v, u, .ref a] ++ []) H2 Q E0
    refine sp_last (es := [x, y]) (vs := [v, u]) S2.fh ⟨v, _, rfl, r1.mono S2.f, u, _, rfl, r2, rfl⟩ h4 h2 h3 hc (fun e Γ' hr => (hR e Γ' hr).imp fun _ q => q.1) fun w e Γ' ds' ys F' H' hr hl S3 q2 q3 q4 r => ?_
    obtain ⟨ds2, hl2, hr2⟩ := hR e Γ' hr
    have ed : ds2 = ds' := by
      have hl' : Γ'[2]? = some (.lent ds') := hl
      rw [hl2] at hl'; cases hl'; rfl
    subst ed
    have G3 := (G2.step S3).pt hm h1 q4
    rw [upd_back q3] at G3
    refine k w e _ F' H' hr2 G3 (S12.f.trans S3.f) (fun p o e n => ?_) r
    have np : p ≠ a := fun z => by
      subst z
      rcases hm with hm | hm
      · exact n i _ hm rfl h1
      · exact n i _ hm rfl h1
    obtain ⟨t1, t2, t3⟩ := Fr.stp (S12.trans S3) p o e n
    rw [upd_ne np] at t1
    refine ⟨t1, t2, fun j e' he m q => ?_⟩
    unfold pt at he
    by_cases z : i = j
    · subst z; rw [h1] at q; cases q; exact np rfl
    · rw [List.getElem?_set_ne z] at he; exact n j e' he m q
/-- f(x, y, [..]): a new list, which the call may change -/
theorem ep_callF (ha : EvP ta Γ x) (hb : EvP tb Γ y) (hf : EvF tl Γ ds) (hc : C [.sh x, .sh y, .lent ds] R') (hR : ∀ e Γ', R' e Γ' → e = z ∧ ∃ ds', Γ'[2]? = some (.lent ds')) : EvP (tCall (spE C) [] E0 (tCons ta (tCons tb (tCons tl tNil)))) Γ z := fun c F H σ G Q k =>
  ha c F H σ G _ fun v F1 H1 S1 r1 => hb c F1 H1 σ (G.step S1) _ fun u F2 H2 S2 r2 => hf c F2 H2 σ ((G.step S1).step S2) _ fun a xs F3 H3 S3 n3 f3 e3 rx => by
    have S12 := S1.trans S2
    have S13 := S12.trans S3
    show spE C ([v, u, .ref a] ++ []) H3 Q E0
    refine sp_last (es := [x, y]) (vs := [v, u]) S3.fh ⟨v, _, rfl, (r1.mono S2.f).mono S3.f, u, _, rfl, r2.mono S3.f, rfl⟩ f3 e3 rx hc (fun e Γ' hr => (hR e Γ' hr).2) fun w e Γ' ds' ys F' H' hr hl S4 q2 q3 q4 r => ?_
    have ez := (hR e Γ' hr).1
    subst ez
    have S14 := S13.trans S4
    have hn : H a = none := by
      cases q : H a with
      | none => rfl
      | some o => rw [S12.h _ _ q] at n3; cases n3
    refine k w F' H' ⟨S14.f, fun p o q => ?_, fun p o q => ?_, S14.nw⟩ r
    · have np : p ≠ a := fun z => by subst z; rw [hn] at q; cases q
      have := S14.h p o q
      rwa [upd_ne np] at this
    · have np : p ≠ a := fun z => by subst z; rw [q2] at q; cases q
      have := S14.fh p o q
      rwa [upd_ne np] at this
/-! ### comprehensions with effects -/
def EtF (tt : TT) (Γ : List En) (R : Bool → List En → Prop) : Prop := ∀ c F H σ, Good c F H σ Γ → ∀ Q : Bool → Hp → Prop, (∀ b Γ' F' H', R b Γ' → Good c F' H' σ Γ' → Ex F F' → Fr σ Γ Γ' F H F' H' → Q b H') → tt σ H Q
theorem etf_test {Rb : Bool → List En → Prop} (h : EvW te Γ R) (hr : ∀ e Γ', R e Γ' → ∃ b, e = .bl b ∧ Rb b Γ') : EtF (tTest te) Γ Rb := fun c F H σ G Q k => h c F H σ G _ fun v e Γ' F' H' he G' x fr r => by
  obtain ⟨b, rfl, hb⟩ := hr e Γ' he
  exact ⟨b, r, k b Γ' F' H' hb G' x fr⟩
theorem etf_yes {Rb : Bool → List En → Prop} (h : Rb true Γ) : EtF tYes Γ Rb := fun c F H σ G Q k => k true Γ F H h G (Ex.refl _) (Fr.stp (.refl G.fh))
/-- a new list, slots' lists changed meanwhile -/
def EvFW (te : TE) (Γ : List En) (R : List D → List En → Prop) : Prop := ∀ c F H σ, Good c F H σ Γ → ∀ Q : VK, (∀ a xs ds Γ' F' H', R ds Γ' → Good c F' H' σ Γ' → Ex F F' → NoSlot σ Γ' a → c.H0 a = none → F' a = none → H' a = some (.lst xs) → Reps F' ds xs → Q (.ref a) H') → te σ H Q
theorem sw_asgFW {i : Nat} {Rl : List D → List En → Prop} {P : Po} (h : EvFW te Γ Rl) (hn : ∀ ds Γ', Rl ds Γ' → P.nx (Γ'.set i (.own ds))) : SW (tAsg te (gName i)) Γ P := fun c F H σ G D a b e f => h c F H σ G _ fun p xs ds Γ' F' H' hr G' x n h0 nf eq r =>
  a _ F' H' _ (hn ds Γ' hr) (G'.setOwn n nf eq r h0) x
theorem wipG_len (Γ : List En) : ∀ vs : List Nat, (wipG Γ vs).length = Γ.length
  | [] => rfl
  | v :: vs => by unfold wipG; rw [List.length_set]; exact wipG_len Γ vs
theorem wipG_at (Γ : List En) : ∀ (vs : List Nat) (j : Nat), (wipG Γ vs)[j]? = if j ∈ vs then Γ[j]?.map (fun _ => En.un) else Γ[j]?
  | [], j => by simp [wipG]
  | v :: vs, j => by
    unfold wipG
    by_cases z : v = j
    · subst z
      rw [List.getElem?_set, wipG_at Γ vs v]
      rw [if_pos rfl, wipG_len]
      simp only [List.mem_cons, true_or, if_true]
      by_cases q : v < Γ.length
      · rw [if_pos q, List.getElem?_eq_getElem q]; rfl
      · rw [if_neg q, List.getElem?_eq_none (by omega)]; rfl
    · rw [List.getElem?_set_ne z, wipG_at Γ vs j]
      have e : (j ∈ v :: vs) ↔ j ∈ vs := by simp [Ne.symm z]
      simp [e]
theorem wipG_mut {vs : List Nat} {j : Nat} {e : En} (h : (wipG Γ vs)[j]? = some e) (m : e.mut = true) : j ∉ vs ∧ Γ[j]? = some e := by
  rw [wipG_at] at h
  by_cases z : j ∈ vs
  · rw [if_pos z] at h
    cases q : Γ[j]? with
    | none => rw [q] at h; cases h
    | some u => rw [q] at h; cases h; cases m
  · rw [if_neg z] at h; exact ⟨z, h⟩
/-- the slots vs are forgotten, whatever they hold then -/
theorem Good.unw {c : Ct} {F H : Hp} {σ τ : L2.St} {vs : List Nat} (G : Good c F H σ Γ) (h : ∀ j, j ∉ vs → σ[j]? = τ[j]?) (hl : σ.length = τ.length) : Good c F H τ (wipG Γ vs) where
  ff := G.ff
  fh := G.fh
  hh := G.hh
  li := G.li
  nw := G.nw
  len := by rw [wipG_len, ← hl]; exact G.len
  en := fun i e he => by
    have he0 := he
    rw [wipG_at] at he
    by_cases z : i ∈ vs
    · rw [if_pos z] at he
      cases q : Γ[i]? with
      | none => rw [q] at he; cases he
      | some u =>
        rw [q] at he
        cases he
        have hi : i < τ.length := by rw [← hl, G.len]; exact (List.getElem?_eq_some_iff.mp q).1
        exact ⟨τ[i], List.getElem?_eq_getElem hi, trivial⟩
    · rw [if_neg z] at he
      obtain ⟨o, h1, h2⟩ := G.en i e he
      exact ⟨o, by rw [← h i z]; exact h1, h2⟩
  dj := fun i j a e e' h1 h2 m1 m2 h3 h4 => by
    obtain ⟨z1, k1⟩ := wipG_mut h1 m1
    obtain ⟨z2, k2⟩ := wipG_mut h2 m2
    rw [← h i z1] at h3
    rw [← h j z2] at h4
    exact G.dj i j a e e' k1 k2 m1 m2 h3 h4
theorem noSlot_unw {σ τ : L2.St} {vs : List Nat} {a : Addr} (n : NoSlot σ Γ a) (h : ∀ j, j ∉ vs → σ[j]? = τ[j]?) : NoSlot τ (wipG Γ vs) a := fun j e he m q => by
  obtain ⟨z, k⟩ := wipG_mut he m
  exact n j e k m (by rw [h j z]; exact q)
/-- a loose list that no slot holds is written -/
theorem Good.wrL {c : Ct} {F H : Hp} {σ : L2.St} {a : Addr} {o : HO} (G : Good c F H σ Γ) (n : NoSlot σ Γ a) (f : F a = none) (h0 : c.H0 a = none) : Good c F (upd H a o) σ Γ where
  ff := G.ff
  fh := fun b u q => by
    have nb : b ≠ a := fun z => by subst z; rw [f] at q; cases q
    rw [upd_ne nb]; exact G.fh _ _ q
  hh := fun b u q l => by
    have nb : b ≠ a := fun z => by subst z; rw [h0] at q; cases q
    rw [upd_ne nb]; exact G.hh _ _ q l
  li := fun b l => by
    by_cases z : b = a
    · subst z; exact ⟨_, upd_same⟩
    · rw [upd_ne z]; exact G.li b l
  nw := G.nw
  len := G.len
  en := fun i en he => by
    obtain ⟨v, h1, h2⟩ := G.en i en he
    refine ⟨v, h1, ?_⟩
    cases en with
    | un => trivial
    | sh d => exact h2
    | own ds =>
      obtain ⟨b, xs, e1, e2, e3, e4⟩ := h2
      have nb : b ≠ a := fun z => by subst z; exact n i _ he rfl (by rw [h1, e1])
      exact ⟨b, xs, e1, e2, by rw [upd_ne nb]; exact e3, e4⟩
    | lent ds =>
      obtain ⟨b, xs, e1, e2, e3, e4⟩ := h2
      have nb : b ≠ a := fun z => by subst z; exact n i _ he rfl (by rw [h1, e1])
      exact ⟨b, xs, e1, e2, by rw [upd_ne nb]; exact e3, e4⟩
  dj := G.dj
/-- only the slots vs get other entries, none of them a list of its own -/
def SetV (vs : List Nat) (Γ Γ' : List En) : Prop := ∀ (j : Nat) (e : En), Γ'[j]? = some e → e.mut = true → j ∉ vs ∧ Γ[j]? = some e
theorem mut_set {i j : Nat} {d : D} {e : En} (h : (Γ.set i (.sh d))[j]? = some e) (m : e.mut = true) : j ≠ i ∧ Γ[j]? = some e := by
  by_cases z : i = j
  · subst z
    rw [List.getElem?_set] at h
    rw [if_pos rfl] at h
    split at h
    · cases h; cases m
    · cases h
  · rw [List.getElem?_set_ne z] at h; exact ⟨fun w => z w.symm, h⟩
theorem sv1 {i : Nat} {d : D} : SetV [i] Γ (Γ.set i (.sh d)) := fun j e h m => by
  obtain ⟨h1, h2⟩ := mut_set h m
  exact ⟨by simpa using h1, h2⟩
theorem sv2 {i l : Nat} {d d' : D} : SetV [i, l] Γ ((Γ.set i (.sh d)).set l (.sh d')) := fun j e h m => by
  obtain ⟨h1, h2⟩ := mut_set h m
  obtain ⟨h3, h4⟩ := mut_set h2 m
  exact ⟨by simp only [List.mem_cons, List.not_mem_nil, or_false, not_or]; exact ⟨h3, h1⟩, h4⟩
theorem efw_lc {α : Type} {vs : List Nat} (xs : List α) (f : α → D) (I : Nat → List D → List En → Prop) (h : WiP wi Γ (xs.map f)) (hl : ∀ i acc Γi, I i acc Γi → acc.length < sizeLine) (h0 : I 0 [] (wipG Γ vs))
    (hs : ∀ i x acc Γi, xs[i]? = some x → I i acc Γi → ∃ Γ', GtV g (f x) vs Γi Γ' ∧ SetV vs Γi Γ' ∧ EtF tt Γ' fun b Γ2 => if b = true then EvW te Γ2 fun e Γ3 => I (i + 1) (acc ++ [e]) (wipG Γ3 vs) else I (i + 1) acc (wipG Γ2 vs)) :
    EvFW (tLc wi g tt te vs) Γ fun ds Γ' => ∃ Γn, I xs.length ds Γn ∧ Γ' = wipG Γn vs := fun c F H σ G Q k => h c F H σ G _ fun J F1 H1 Gd Y S w hG hY => by
  intro Dl nD
  have nF1 : F1 Dl = none := by
    cases q : F1 Dl with
    | none => rfl
    | some u => rw [S.fh _ _ q] at nD; cases nD
  rw [List.length_map] at w
  have G1 := (G.step S).wip vs
  have d0 : c.H0 Dl = none := G1.fresh nD
  have back : ∀ {σ2 : L2.St}, (∀ j, j ∉ vs → σ2[j]? = (wipe σ vs)[j]?) → ∀ j, j ∉ vs → σ2[j]? = σ[j]? := fun {σ2} q j hj => by rw [q j hj, wipe_at, if_neg hj]
  have S0 : Stp F1 H1 F1 (upd H1 Dl (.lst [])) := .loose S.fh _ nD
  refine lc_it w (fun i H2 => ∃ F2 acc ds Γi, I i ds Γi ∧ Good c F2 H2 (wipe σ vs) Γi ∧ Ex F1 F2 ∧ Fr (wipe σ vs) (wipG Γ vs) Γi F1 H1 F2 H2 ∧ F2 Dl = none ∧ H2 Dl = some (.lst acc) ∧ NoSlot (wipe σ vs) Γi Dl ∧ Reps F2 ds acc)
    ⟨F1, [], [], _, h0, G1.step S0, Ex.refl _, Fr.stp S0, nF1, upd_same, G1.noSlot nD, rfl⟩ (fun i H2 _ ⟨F2, _, _, _, _, G2, x2, _⟩ => hG _ (x2.trans G2.fh)) ?_ ?_
  · rintro i v H2 H3 hi ⟨F2, acc, ds, Γi, hI, G2, x2, fr2, f2, e2, n2, r2⟩ y
    obtain ⟨F3, d, hd, S3, r3⟩ := hY i H2 v H3 F2 (by rw [List.length_map]; exact hi) x2 G2.fh y
    have hx : xs[i]? = some xs[i] := List.getElem?_eq_getElem hi
    have ed : d = f xs[i] := by
      rw [List.getElem?_map, hx] at hd
      exact (Option.some.inj hd).symm
    subst ed
    obtain ⟨Γ', hg, sv, ht⟩ := hs i _ ds Γi hx hI
    have fr3 := fr2.trans (Fr.stp (Γ := Γi) (σ := wipe σ vs) S3)
    obtain ⟨e3, f3', n3⟩ := Fr.stp (Γ := Γi) (σ := wipe σ vs) S3 Dl _ e2 n2
    have f3 := f3' f2
    refine hg c F3 H3 _ v (G2.step S3) r3 _ fun σ2 G3 q1 q2 => ⟨?_, ?_⟩
    · refine wipe_eq (back q1) ?_
      rw [q2, wipe_length]
    have toS : ∀ {a : Addr}, NoSlot (wipe σ vs) Γi a → NoSlot σ2 Γ' a := fun {a} n j e he m q => by
      obtain ⟨z1, z2⟩ := sv j e he m
      exact n j e z2 m (by rw [← q1 j z1]; exact q)
    refine ht c F3 H3 σ2 G3 _ fun b Γ2 F4 H4 hb G4 x4 fr4 => ?_
    obtain ⟨e4, f4', n4⟩ := fr4 Dl _ e3 (toS n3)
    have f4 := f4' f3
    cases b with
    | false =>
      rw [if_neg Bool.false_ne_true] at hb ⊢
      refine ⟨F4, acc, ds, _, hb, G4.unw q1 (q2.trans rfl), (x2.trans S3.f).trans x4, fun a o q n => ?_, f4, e4, noSlot_unw n4 q1, (r2.mono S3.f).mono x4⟩
      obtain ⟨a1, a2, a3⟩ := fr3 a o q n
      obtain ⟨b1, b2, b3⟩ := fr4 a o a1 (toS a3)
      exact ⟨b1, fun z => b2 (a2 z), noSlot_unw b3 q1⟩
    | true =>
      rw [if_pos rfl] at hb ⊢
      refine hb c F4 H4 σ2 G4 _ fun u e Γ3 F5 H5 hI5 G5 x5 fr5 r5 => ?_
      obtain ⟨e5, f5', n5⟩ := fr5 Dl _ e4 n4
      have f5 := f5' f4
      have rr := ((((r2.mono S3.f).mono x4).mono x5).append (.one r5))
      refine ⟨acc, e5, ?_, F5, acc ++ [u], ds ++ [e], _, hI5, (G5.wrL n5 f5 d0).unw q1 (q2.trans rfl), ((x2.trans S3.f).trans x4).trans x5, fun a o q n => ?_, f5, upd_same, noSlot_unw n5 q1, rr⟩
      · rw [r2.length]; exact hl i ds Γi hI
      · obtain ⟨a1, a2, a3⟩ := fr3 a o q n
        obtain ⟨b1, b2, b3⟩ := fr4 a o a1 (toS a3)
        obtain ⟨c1, c2, c3⟩ := fr5 a o b1 b3
        have na : a ≠ Dl := fun z => by subst z; rw [nD] at q; cases q
        exact ⟨by rw [upd_ne na]; exact c1, fun z => c2 (b2 (a2 z)), noSlot_unw c3 q1⟩
  · rintro H2 ⟨F2, acc, ds, Γn, hI, G2, x2, fr2, f2, e2, n2, r2⟩
    have q1 : ∀ j, j ∉ vs → (wipe σ vs)[j]? = σ[j]? := fun j hj => by rw [wipe_at, if_neg hj]
    exact k Dl acc ds _ F2 H2 ⟨Γn, hI, rfl⟩ (G2.unw q1 (wipe_length _ _)) (S.f.trans x2) (noSlot_unw n2 q1) d0 f2 e2 r2
end
end DL
set_option Elab.async false
set_option linter.all false
set_option maxRecDepth 100000
set_option autoImplicit false
set_option maxHeartbeats 4000000
/-! E1: == and != of objects whose class has its own ==. -/
namespace DL
open PySem PySem.Spec PyProof.Rows L2
/-- o == y -/
def rEqO (K : PySem.W.Frag) (C : Addr) (sp : Sp) (E : XK) (neg : Bool) : R2 := fun x y H Q => ∃ a dx fs t, x = .ref a ∧ H a = some (.ins C dx fs) ∧ TyX K H y t ∧ PySem.W.notFirst K C t = true ∧ sp [.ref a, y] H (fun v H' => ∃ b, v = .bl b ∧ Q (.bl (if neg then !b else b)) H') E
section
variable {X : Cx} {CX : CXT} {C f : Addr} {fd : FuncData} {ps : List Str} {sp : Sp} {k : Nat} {E : XK}
theorem op_eqO (F : FnOk X.prog X.w X.K X.mg X.base CX k f fd ps sp) (hs : PySem.W.findIn X.K (.ref C) "__eq__" = some (some (.ref f))) (hf : PySem.W.isFn X.K (.ref f) = true) (hb : Binds X.K fd ps []) (hr : Room (k + 1) X.A) (hx : Passes CX X E) :
    OpR X (compareOp .Eq) (rEqO X.K C sp E false) := by
  intro pins s σ H x y v u Q I rx ry h
  obtain ⟨a, dx, fs, t, rfl, ha, ty, nf, h⟩ := h
  cases rx
  obtain ⟨mA, O, _⟩ := ins_get I.hok ha
  obtain ⟨od, J, _⟩ := O.look
  obtain ⟨m, hF⟩ := I.fr
  obtain ⟨P, Z, p, _⟩ := kit_of I ry ty
  refine PySem.W.cmp_ofEq (PySem.W.cmp_K (op := .Eq) hr.units0 hF I.ok.mod.kin J (Z.ty _ _ I.kIn p) nf hs hf ?_)
  have hl := F.len _ _ _ _ h
  have bd := hb s [.ref a, u] I.kIn (by simpa using hl)
  rw [List.append_nil] at bd
  refine wpAny_call (codeAny_mono (F.run X.A X.stack s H ⟨[.ref a, u], []⟩ [.ref a, u] [.ref a, y] _ E (hr.mono (Nat.le_succ _)) I.env0 bd (.cons rfl (.cons ry .nil)) h) ?_)
  rintro (e | fl) s' hq
  · exact hx pins σ H s e s' I hq
  · match fl, hq with
    | .ret w, hq =>
      obtain ⟨z, H', I', rz, b, ez, q⟩ := I.after hq
      subst ez
      cases (show w = Value.bool b from rz)
      exact ⟨.bl b, H', I', rfl, q⟩
    | .next, hq => exact False.elim hq
    | .brk, hq => exact False.elim hq
    | .cont, hq => exact False.elim hq
end
end DL
namespace PySem.NE
open PySem PySem.W PyProof.Rows
section
variable {prog : Program} {w : World} {A : Around} {E : Value → Shared → Prop} {s : Shared} {K : Frag} {x C f : Addr} {ox : Obj} {od : Option Obj} {b tb : Value}
theorem ne_own {Q : Value → Shared → Prop} (hu : A.units + 1 < cLine) (X : K.In s.heap) (J : InstAt s.heap x ox C od) (hb : Looks (model prog w) s.heap (typeOf b) tb) (nf : notFirst K C tb = true) (hn : findIn K (.ref C) "__ne__" = some (some (.builtin "object.__ne__")))
    (hm : mroIn K C (.type "object") = some true) (he : findIn K (.ref C) "__eq__" = some (some (.ref f))) (hf : isFn K (.ref f) = true)
    (h : wpAny (model prog w) A.in1 (call (.ref f) [.ref x, b]) (fun v s' => ∃ z, v = .bool z ∧ Q (.bool (!z)) s') E s) : wpAny (model prog w) A (richCompare .NotEq (.ref x) b) Q E s := by
  have body : wpAny (model prog w) A.in1 (Builtin.«object.__ne__» ⟨[.ref x, b], []⟩) (fun fin s' => ∃ z, fin = .done (.ret (.bool (!z))) ∧ Q (.bool (!z)) s') E s := by
    unfold Builtin.«object.__ne__»
    refine wpAny_bind (m := slotArgs _ _ _) (wpAny_pure ?_)
    refine wpAny_bind (wpAny_cRoomFor hu ?_)
    refine wpAny_bind (m := callSpecialIfBound? (.ref x) (Str.ofString "__eq__") [b]) (ifBound_K X J he hf (wpAny_mono h (fun v s' hv => ?_) fun _ _ e => e))
    obtain ⟨z, rfl, q⟩ := hv
    dsimp only
    refine wpAny_bind (wpAny_truthy_bool ?_)
    exact wpAny_pure ⟨z, rfl, q⟩
  have sub : Looks (model prog w) s.heap (isInstance (.ref x) (.type "object")) true := J.type.andThen (looks_mroIn X hm)
  have one : wpAny (model prog w) A (tryCompare (.ref x) (cmpInfo .NotEq).2.1 b) (fun r s' => ∃ v, r = some v ∧ Q v s') E s := by
    unfold tryCompare
    refine wpAny_bind ?_
    simp only [callSpecialIfBound?, bindSpecialIfBound?]
    refine wpAny_holding (wpAny_bind (wpAny_bind (wpAny_bind (J.type.here ((looks_findIn X hn).here ?_)))))
    simp only [F.cmp_object.ne.bind]
    have fin : ∀ R : Option Value → Shared → Prop, (∀ z s', Q (.bool (!z)) s' → R (some (.bool (!z))) s') → wpAny (model prog w) A (call (.builtin "object.__ne__") ([.ref x] ++ [b]) >>= fun v => pure (some v)) R E s := fun R hR => by
      refine wpAny_bind (wpAny_call (codeAny_call_builtin F.cmp_object.ne.plain F.cmpEntry_ne (@check_slot (model prog w) _ _ s "object.__ne__" "object" "__ne__" (.ref x) [b] [] _ F.cmpKind_ne F.cmpSplit_ne sub (F.cmpArgs_ne _ _) (wpAny_mono body (fun fin s' hv => ?_) fun _ _ e => e))))
      obtain ⟨z, rfl, q⟩ := hv
      exact wpAny_pure (hR z s' q)
    refine wpAny_bind (wpAny_askSetting (wpAny_ite ?_))
    split
    · exact wpAny_bind (wpAny_pure (wpAny_pure (by exact fin _ fun z s' q => wpAny_pure ⟨_, rfl, q⟩)))
    · exact wpAny_tryCatch (wpAny_bind (wpAny_pure (wpAny_pure (by exact fin _ fun z s' q => wpAny_pure ⟨_, rfl, q⟩))))
  unfold richCompare
  simp only [oneThing_ref]
  refine wpAny_holding (wpAny_bind (wpAny_cRoomFor (Nat.lt_of_succ_lt hu) ?_))
  refine wpAny_bind (J.type.here (wpAny_bind (hb.here ?_)))
  have rest : wpAny (model prog w) A (tryCompare (.ref x) (cmpInfo .NotEq).2.1 b) (fun r s' => ∃ v, r = some v ∧ Q v s') E s := one
  split
  · rename_i q
    have e : subIn K tb (.ref C) = some false := by
      rcases Bool.or_eq_true_iff.mp nf with e | e
      · rw [beq_iff_eq.mp e] at q; simp at q
      · exact beq_iff_eq.mp e
    refine wpAny_bind ((looks_subIn X e).here ?_)
    simp only [Bool.false_eq_true, if_false]
    refine wpAny_bind (wpAny_mono rest (fun r s' z => ?_) fun _ _ e => e)
    obtain ⟨v, rfl, hq⟩ := z
    exact wpAny_pure hq
  · refine wpAny_bind (wpAny_pure ?_)
    simp only [Bool.false_eq_true, if_false]
    refine wpAny_bind (wpAny_mono rest (fun r s' z => ?_) fun _ _ e => e)
    obtain ⟨v, rfl, hq⟩ := z
    exact wpAny_pure hq
end
end PySem.NE
namespace DL
open PySem PySem.Spec PyProof.Rows L2
section
variable {X : Cx} {CX : CXT} {C f : Addr} {fd : FuncData} {ps : List Str} {sp : Sp} {k : Nat} {E : XK}
theorem op_neO (F : FnOk X.prog X.w X.K X.mg X.base CX k f fd ps sp) (hs : PySem.W.findIn X.K (.ref C) "__eq__" = some (some (.ref f))) (hn : PySem.W.findIn X.K (.ref C) "__ne__" = some (some (.builtin "object.__ne__"))) (hm : PySem.W.mroIn X.K C (.type "object") = some true)
    (hf : PySem.W.isFn X.K (.ref f) = true) (hb : Binds X.K fd ps []) (hr : Room (k + 1) X.A) (hx : Passes CX X E) : OpR X (compareOp .NotEq) (rEqO X.K C sp E true) := by
  intro pins s σ H x y v u Q I rx ry h
  obtain ⟨a, dx, fs, t, rfl, ha, ty, nf, h⟩ := h
  cases rx
  obtain ⟨mA, O, _⟩ := ins_get I.hok ha
  obtain ⟨od, J, _⟩ := O.look
  obtain ⟨P, Z, p, _⟩ := kit_of I ry ty
  refine PySem.W.cmp_ofNotEq (PySem.NE.ne_own (by have := hr.units; omega) I.kIn J (Z.ty _ _ I.kIn p) nf hn hm hs hf ?_)
  have hl := F.len _ _ _ _ h
  have bd := hb s [.ref a, u] I.kIn (by simpa using hl)
  rw [List.append_nil] at bd
  refine wpAny_call (codeAny_mono (F.run X.A.in1 X.stack s H ⟨[.ref a, u], []⟩ [.ref a, u] [.ref a, y] _ E hr.in1 I.env0.in1 bd (.cons rfl (.cons ry .nil)) h) ?_)
  rintro (e | fl) s' hq
  · exact hx pins σ H s e s' I hq
  · match fl, hq with
    | .ret w, hq =>
      obtain ⟨z, H', I', rz, b, ez, q⟩ := I.after hq
      subst ez
      cases (show w = Value.bool b from rz)
      exact ⟨b, rfl, .bl (!b), H', I', rfl, q⟩
    | .next, hq => exact False.elim hq
    | .brk, hq => exact False.elim hq
    | .cont, hq => exact False.elim hq
end
end DL
namespace DL
open PySem PySem.Spec PyProof.Rows L2
/-- the class at C has a property x, whose function stands at g -/
structure Prp (K : PySem.W.Frag) (C : Addr) (x : Str) (g : Addr) : Prop where
  ex : ∃ (p : Addr) (r : List Value), PySem.W.findIn K (.ref C) x = some (some (.ref p)) ∧ PySem.W.specialIn K (.ref p) "__get__" = some (some (.builtin "property.__get__")) ∧ PySem.W.takesIn K (.ref p) = some true ∧ PySem.W.recIn K p "property" = some (.ref g :: r)
def tPrp (C : Addr) (sp : Sp) (te : TE) : TE := fun σ H Q => te σ H fun x H1 => ∃ a dx fs, x = .ref a ∧ H1 a = some (.ins C dx fs) ∧ sp [.ref a] H1 Q E0
section
variable {X : Cx} {C f : Addr} {fd : FuncData} {ps : List Str} {sp : Sp} {k : Nat} {e : Expr} {te : TE} {x : Str} {pos : Pos}
theorem pe_prp (F : FnOk X.prog X.w X.K X.mg X.base CX0 k f fd ps sp) (c : Cls X.K C) (T : Prp X.K C x f) (hb : Binds X.K fd ps []) (hr : Room (k + 1) X.A) (he : PE X e te) (ab : attributeBase e x X.env (eval e X.env) = eval e X.env := by rfl) : PE X (.Attribute e x pos) (tPrp C sp te) := by
  constructor
  intro pins s σ H Q I h
  refine attr_of ab (thn (he.run pins s σ H _ I h) ?_)
  rintro u s1 ⟨y, H1, I1, ry, a, dx, fs, rfl, ha, q⟩
  cases ry
  obtain ⟨mA, O, _⟩ := ins_get I1.hok ha
  obtain ⟨od, J, _⟩ := O.look
  obtain ⟨m, hF⟩ := I1.fr
  obtain ⟨p, r, h1, h2, h3, h4⟩ := T.ex
  have I2 : Inv X pins σ H1 { s1 with toks := s1.toks + 1 } := I1.tok _
  have hl := F.len _ _ _ _ q
  have bd := hb { s1 with toks := s1.toks + 1 } [.ref a] I2.kIn (by simpa using hl)
  rw [List.append_nil] at bd
  refine PySem.W.get_prop hF I1.ok.mod.kin J (c.get x) c.hd h1 h2 h3 h4 (codeAny_mono (F.run X.A.in1 X.stack _ H1 ⟨[.ref a], []⟩ [.ref a] [.ref a] _ E0 hr.in1 I2.env0.in1 bd (.cons rfl .nil) q) ?_)
  rintro (e | fl) s' hq
  · exact (show False from hq).elim
  · match fl, hq with
    | .ret w, hq =>
      obtain ⟨z, H', I', rz, qq⟩ := I2.after hq
      exact PySem.W.handed_on (handed_of rz) ⟨z, H', I', rz, qq⟩
    | .next, hq => exact False.elim hq
    | .brk, hq => exact False.elim hq
    | .cont, hq => exact False.elim hq
end
end DL
set_option Elab.async false
set_option linter.all false
set_option maxRecDepth 100000
set_option autoImplicit false
set_option maxHeartbeats 4000000
/-! E2g (E2 without what makes objects): data rules for properties, own ==, isinstance, written dicts, repeated lists, and, making by names. -/
namespace DL
open PySem PySem.Spec PyProof.Rows L2
/-- facts of an own class for isinstance -/
structure OT (K : PySem.W.Frag) (C : Addr) : Prop where
  cl : Cls K C
  ha : PySem.W.findIn K (.ref C) "__class__" = some (some (.builtin "object.__class__"))
  hn : PySem.W.specialIn K (.builtin "object.__class__") "__get__" = some (some (.builtin "getset_descriptor.__get__"))
  ht : PySem.W.takesIn K (.builtin "object.__class__") = some true
  hm : PySem.W.mroIn K C (.type "object") = some true
/-- the type of data -/
def tyD : D → Option Value
  | .non => some (.type "NoneType")
  | .bl _ => some (.type "bool")
  | .int _ => some (.type "int")
  | .str _ => some (.type "str")
  | .lst _ => some (.type "list")
  | .tup _ => some (.type "tuple")
  | .dct _ => some (.type "dict")
  | .obj C _ => some (.ref C)
  | _ => none
theorem tyX_of {K : PySem.W.Frag} {F H : Hp} {d : D} {v : V} {t : Value} (e : Ex F H) (h : tyD d = some t) (ho : ∀ C fs, d = .obj C fs → OT K C) (r : Rep F d v) : TyX K H v t := by
  cases d with
  | non => cases h; cases (show v = .non from r); exact .base .non
  | bl b => cases h; cases (show v = .bl b from r); exact .base (.bl b)
  | int i => cases h; cases (show v = .int i from r); exact .base (.int i)
  | str x => cases h; cases (show v = .str x from r); exact .base (.str x)
  | ref a => cases h
  | ty n => cases h
  | lst ds => cases h; obtain ⟨a, xs, rfl, h1, _⟩ := r; exact .base (.lst (e _ _ h1))
  | tup ds => cases h; obtain ⟨a, xs, rfl, h1, _⟩ := r; exact .base (.tup (e _ _ h1))
  | obj C fs =>
    cases h
    obtain ⟨a, dx, xs, rfl, h1, _⟩ := r
    have O := ho C fs rfl
    exact .base (.ins (e _ _ h1) O.cl O.ha O.hn O.ht O.hm)
  | scr a ns p => cases h
  | dct kvs => cases h; obtain ⟨a, xs, rfl, h1, _⟩ := r; exact .base (.dK (e _ _ h1))
  | dki p => cases h
  | opq p => cases h
section
variable {K : PySem.W.Frag} {Γ : List En} {te ta tb : TE} {x y z d : D} {R : D → List En → Prop} {C : Addr} {fs : List (Str × D)} {Cc : Cn}
theorem ep_prp (h : EvP te Γ (.obj C fs)) (hC : Cc [.sh (.obj C fs)] R) (hR : ∀ e Γ', R e Γ' → e = z) : EvP (tPrp C (spE Cc) te) Γ z := fun c F H σ G Q k => h c F H σ G _ fun v F1 H1 S1 r => by
  have hg := good_args (es := [.obj C fs]) S1.fh ⟨v, [], rfl, r, rfl⟩
  obtain ⟨a, dx, xs, rfl, h1, h2⟩ := r
  refine ⟨a, dx, xs, rfl, S1.fh _ _ h1, _, F1, _, R, hg, argOk_sh [.obj C fs], hC, fun w d Γ' F' H' hr G' x r' => ?_⟩
  have e1 := hR d Γ' hr
  subst e1
  exact k w F' H' (S1.trans ⟨x, fun a o q => G'.hh a o q (fun ⟨_, z⟩ => by cases z), G'.fh, G'.nw⟩) r'
/-- o == y, o != y -/
theorem rd_eqO {neg b : Bool} {t : Value} (ht : tyD y = some t) (ho : ∀ C fs, y = .obj C fs → OT K C) (nf : PySem.W.notFirst K C t = true) (hC : Cc [.sh (.obj C fs), .sh y] R) (hR : ∀ e Γ', R e Γ' → e = .bl b) : RD (rEqO K C (spE Cc) E0 neg) (.obj C fs) y (.bl (if neg then !b else b)) := fun F H vx vy e rx ry Q k => by
  have hg := good_args (es := [.obj C fs, y]) e ⟨vx, [vy], rfl, rx, vy, [], rfl, ry, rfl⟩
  have ty := tyX_of e ht ho ry
  obtain ⟨a, dx, xs, rfl, h1, h2⟩ := rx
  refine ⟨a, dx, xs, t, rfl, e _ _ h1, ty, nf, _, F, _, R, hg, argOk_sh [.obj C fs, y], hC, fun w d Γ' F' H' hr G' x r' => ?_⟩
  have e1 := hR d Γ' hr
  subst e1
  exact ⟨b, r', k _ F' H' ⟨x, fun a o q => G'.hh a o q (fun ⟨_, z⟩ => by cases z), G'.fh, G'.nw⟩ rfl⟩
/-- isinstance(x, C) -/
theorem rc_isi {b : Bool} {t : Value} (ht : tyD x = some t) (ho : ∀ C fs, x = .obj C fs → OT K C) (hb : PySem.W.kitOne K t (.ref C) = some b) : RC (rIsi K) [x, .ref C] (.bl b) := fun F H vs e r Q k => by
  obtain ⟨v, _, rfl, rv, w, _, rfl, rw', rfl⟩ := r
  have e1 : w = .ref C := rw'
  subst e1
  exact ⟨v, .ref C, t, .ref C, b, rfl, .own C, tyX_of e ht ho rv, hb, k _ F H (.refl e) rfl⟩
theorem ep_and {a b : Bool} (ha : EvP ta Γ (.bl a)) (hb : a = true → EvP tb Γ (.bl b)) : EvP (tAndV ta tb) Γ (.bl (a && b)) := fun c F H σ G Q k => ha c F H σ G _ fun v F1 H1 S1 r => by
  have e1 : v = .bl a := r
  subst e1
  refine ⟨a, rfl, ?_⟩
  cases a with
  | true => rw [if_pos rfl]; exact hb rfl c F1 H1 σ (G.step S1) _ fun w F2 H2 S2 r2 => k w F2 H2 (S1.trans S2) r2
  | false => rw [if_neg Bool.false_ne_true]; exact k _ F1 H1 S1 rfl
theorem Reps.times {F : Hp} {ds : List D} {xs : List V} (h : Reps F ds xs) : ∀ n : Nat, Reps F (List.replicate n ds).flatten (List.replicate n xs).flatten
  | 0 => rfl
  | n + 1 => by
    rw [List.replicate_succ, List.replicate_succ, List.flatten_cons, List.flatten_cons]
    exact h.append (Reps.times h n)
/-- xs * n -/
theorem rdf_rep {ds : List D} {n : Nat} (hz : ds.length * n ≤ sizeLine) (hn : (n : Int) < 2 ^ 63) : RDF rRep (.lst ds) (.int n) (List.replicate n ds).flatten := fun F H vx vy e rx ry Q k => by
  obtain ⟨a, xs, rfl, h1, h2⟩ := rx
  have e2 : vy = .int n := ry
  subst e2
  refine ⟨a, n, xs, rfl, rfl, e _ _ h1, by omega, hn, by rw [h2.length, Int.toNat_natCast]; exact hz, fun p hp => ?_⟩
  rw [Int.toNat_natCast]
  refine k p _ F _ (.loose e _ hp) hp ?_ upd_same (h2.times n)
  cases q : F p with
  | none => rfl
  | some o => rw [e _ _ q] at hp; cases hp
/-- pairs of a written dict, the keys texts -/
def EkP (trs : List (TE × TE)) (Γ : List En) (kvs : List (Str × D)) : Prop := ∀ (c : Ct) (F H : Hp) (σ : L2.St), Good c F H σ Γ → ∀ Q : List (V × V) → Hp → Prop, (∀ xs F' H', Stp F H F' H' → RepF F' kvs xs → Q (xs.map fun p => (V.str p.1, p.2)) H') → tPairs trs σ H Q
theorem ek_nil : EkP [] Γ [] := fun c F H σ G Q k => k [] F H (.refl G.fh) rfl
theorem ek_cons {tk tv : TE} {trs : List (TE × TE)} {q : Str} {kvs : List (Str × D)} (hk : EvP tk Γ (.str q)) (hv : EvP tv Γ d) (hr : EkP trs Γ kvs) : EkP ((tk, tv) :: trs) Γ ((q, d) :: kvs) := fun c F H σ G Q k =>
  hk c F H σ G _ fun v F1 H1 S1 r1 => hv c F1 H1 σ (G.step S1) _ fun u F2 H2 S2 r2 => hr c F2 H2 σ ((G.step S1).step S2) _ fun xs F3 H3 S3 r3 => by
    have e1 : v = .str q := r1
    subst e1
    exact k ((q, u) :: xs) F3 H3 ((S1.trans S2).trans S3) ⟨u, xs, rfl, r2.mono S3.f, r3⟩
theorem putK_new {κ : Type} [DecidableEq κ] {kvs : List (κ × V)} {q : κ} {v : V} (h : ∀ p ∈ kvs, p.1 ≠ q) : putK kvs q v = kvs ++ [(q, v)] := by
  unfold putK
  rw [if_neg]
  rw [Bool.not_eq_true, List.any_eq_false]
  intro p hp
  simpa using h p hp
theorem merge_new : ∀ (more kvs : List (Key × V)), (kvs.map (·.1) ++ more.map (·.1)).Nodup → mergeK kvs more = kvs ++ more
  | [], kvs, _ => by simp [mergeK]
  | (q, v) :: r, kvs, h => by
    have h1 : ∀ p ∈ kvs, p.1 ≠ q := fun p hp z => by
      rw [List.map_cons, List.nodup_append] at h
      exact h.2.2 p.1 (List.mem_map_of_mem hp) q List.mem_cons_self z
    show mergeK (putK kvs q v) r = _
    rw [putK_new h1, merge_new r (kvs ++ [(q, v)]) (by simpa using h)]
    simp
theorem RepF.keys {F : Hp} : ∀ {kvs : List (Str × D)} {xs : List (Str × V)}, RepF F kvs xs → xs.map (·.1) = kvs.map (·.1)
  | [], _, h => by cases h; rfl
  | (q, d) :: kvs, _, ⟨v, r, h1, _, h3⟩ => by cases h1; simp [RepF.keys h3]
theorem ep_disp {trs : List (TE × TE)} {kvs : List (Str × D)} (h : EkP trs Γ kvs) (nd : (kvs.map (·.1)).Nodup) (hl : kvs.length ≤ 15) : EvP (tDisp trs) Γ (.dct kvs) := fun c F H σ G Q k p hp => by
  have S0 : Stp F H F (upd H p (.dK [])) := .loose G.fh _ hp
  have Fp : F p = none := by
    cases e : F p with
    | none => rfl
    | some o => rw [G.fh _ _ e] at hp; cases hp
  refine h c F _ σ (G.step S0) _ fun xs F2 H2 S2 r => ?_
  have hk := RepF.keys r
  have F2p : F2 p = none := by
    cases e : F2 p with
    | none => rfl
    | some o =>
      rcases S2.nw p (by rw [e]; exact Option.some_ne_none _) with z | z
      · exact absurd Fp z
      · rw [upd_same] at z; cases z
  refine ⟨S2.h _ _ upd_same, xs.map kvV, ?_, ?_, ?_⟩
  · rw [List.map_map]; rfl
  · rw [List.length_map]
    have := congrArg List.length hk
    rw [List.length_map, List.length_map] at this
    omega
  · have em : mergeK [] (xs.map kvV) = xs.map kvV := by
      have n1 : ((xs.map kvV).map (·.1)) = (kvs.map (·.1)).map Sum.inr := by rw [← hk, List.map_map, List.map_map]; rfl
      have := merge_new (xs.map kvV) [] (by
        rw [List.map_nil, List.nil_append, n1]
        exact List.Pairwise.map _ (fun a b z w => z (Sum.inr.inj w)) nd)
      rw [List.nil_append] at this
      exact this
    rw [em]
    refine k (.ref p) (upd F2 p (.dK (xs.map kvV))) _ ⟨fun a o e => ?_, fun a o e => ?_, fun a o e => ?_, fun a e => ?_⟩ ⟨p, xs, rfl, upd_same, r.mono (Ex.new F2p)⟩
    · exact Ex.new F2p _ _ (S2.f _ _ e)
    · have n : a ≠ p := fun z => by rw [z, hp] at e; cases e
      rw [upd_ne n]; exact S2.h _ _ (by rw [upd_ne n]; exact e)
    · by_cases z : a = p
      · subst z; rw [upd_same] at e ⊢; exact e
      · rw [upd_ne z] at e ⊢; exact S2.fh _ _ e
    · by_cases z : a = p
      · subst z; exact .inr hp
      · rw [upd_ne z] at e
        rcases S2.nw a e with q | q
        · exact .inl q
        · rw [upd_ne z] at q; exact .inr q
theorem valV_str {xs : List (Str × V)} {q : Str} {v : V} (h : xs.lookup q = some v) : valV (xs.map kvV) (.inr q) = some v := by
  unfold valV
  induction xs with
  | nil => cases h
  | cons p r ih =>
    obtain ⟨a, u⟩ := p
    rw [List.lookup_cons] at h
    rw [List.map_cons, List.find?_cons]
    by_cases z : a = q
    · subst z
      rw [beq_self_eq_true] at h
      cases h
      simp [kvV]
    · have z1 : (q == a) = false := by simpa using fun w => z w.symm
      rw [z1] at h
      have z2 : decide ((kvV (a, u)).1 = (.inr q : Key)) = false := by
        refine decide_eq_false fun w => z ?_
        exact Sum.inr.inj w
      rw [z2]
      exact ih h
theorem ep_dget {td ty : TE} {kvs : List (Str × D)} {q : Str} (h : EvP td Γ (.dct kvs)) (hy : EvP ty Γ (.str q)) (hl : kvs.lookup q = some d) : EvP (tDGet td ty) Γ d := fun c F H σ G Q k =>
  h c F H σ G _ fun v F1 H1 S1 r1 => hy c F1 H1 σ (G.step S1) _ fun u F2 H2 S2 r2 => by
    have e2 : u = .str q := r2
    subst e2
    obtain ⟨a, xs, rfl, h1, h2⟩ := r1
    obtain ⟨w, w1, w2⟩ := h2.lookup hl
    exact ⟨a, w, rfl, .inl ⟨xs.map kvV, .inr q, .inl (S2.fh _ _ (S2.f _ _ h1)), rfl, (valV_str w1).symm⟩, k w F2 H2 (S1.trans S2) (w2.mono S2.f)⟩
/-- C(k = v) -/
abbrev gM : List Value → List Value → List Value := fun us ws => us ++ ws
abbrev gMV : List V → List V → List V := fun vs zs => vs ++ zs
end
end DL
set_option Elab.async false
set_option linter.all false
set_option maxRecDepth 100000
set_option autoImplicit false
set_option maxHeartbeats 4000000
/-! X4: data rules: slices of the script, comprehensions over range(e) and pairs of values with effects, isinstance by types, indices into lists or tuples, all. -/
namespace DL
open PySem PySem.Spec PyProof.Rows L2
section
variable {K : PySem.W.Frag} {Γ Γ' : List En} {te ta tb tc te0 : TE} {tt : TT} {t u w : TS} {d x y z : D} {ds es : List D} {R R1 R2 : D → List En → Prop} {P : Po} {g : TG} {vs : List Nat} {Rl : List D → List En → Prop}
theorem cutV_take (xs : List V) (n : Nat) : cutV xs none (some (n : Int)) = xs.take n := by
  unfold cutV
  rw [HT.sIx_none, HT.sIx_nat, List.drop_zero, Nat.sub_zero]
  rw [← List.take_eq_take_min]
/-- script[:n] -/
theorem ef_scrTo {i : Nat} {a : Addr} {ns : List Int} {p : Prop} {n : Nat} (h : Γ[i]? = some (.sh (.scr a ns p))) (hp : p → KLs K a (ns.map V.int)) : EvF (tSl (rSlL K) (tVar i) tNoPart (tPart (tC (.int (n : Int))))) Γ ((ns.take n).map D.int) := fun c F H σ G Q k => by
  obtain ⟨v, e, r⟩ := G.sh h
  obtain ⟨rfl, hs⟩ := scr_sq G.fh r hp
  refine ⟨_, e, (n : Int), rfl, a, _, rfl, hs, fun q hq => ?_⟩
  rw [cutV_take, ← List.map_take]
  refine k q _ F _ (.loose G.fh _ hq) hq ?_ upd_same (Reps.ints _)
  cases z : F q with
  | none => rfl
  | some o => rw [G.fh _ _ z] at hq; cases hq
/-- [.. for .. in range(e)], e with effects -/
theorem efw_rng (h : EvW te0 Γ R1) (hs : ∀ d Γ', R1 d Γ' → ∃ n : Int, d = .int n ∧ EvFW (tLc (iRng1 (tCons (tC (.int n)) tNil)) g tt te vs) Γ' Rl) : EvFW (tLc (iRng1 (tCons te0 tNil)) g tt te vs) Γ Rl := fun c F H σ G Q k => h c F H σ G _ fun v d Γ' F1 H1 hr G1 x1 fr r => by
  obtain ⟨n, rfl, hf⟩ := hs d Γ' hr
  have e1 : v = .int n := r
  subst e1
  exact hf c F1 H1 σ G1 Q fun a xs ds Γ2 F' H' hr' G' x' n h0 nf e r => k a xs ds Γ2 F' H' hr' G' (x1.trans x') n h0 nf e r
/-- x = 'sep'.join([..]), the list with effects -/
theorem sw_joinFW {i : Nat} {a : Str} (h : EvFW te Γ Rl) (hn : ∀ ds Γ', Rl ds Γ' → ∃ ys : List Str, ds = ys.map D.str ∧ (ys.map (·.length)).sum + ys.length * a.length ≤ 16777216 ∧ P.nx (Γ'.set i (.sh (.str (Txt.join a ys))))) : SW (tAsg (tM1 (rJoin K) (tC (.str a)) te) (gName i)) Γ P := fun c F H σ G D ea eb ee ef =>
  ⟨⟨a, rfl⟩, h c F H σ G _ fun p xs ds Γ' F' H' hr G' x n h0 nf eq r => by
    obtain ⟨ys, rfl, hz, hx⟩ := hn ds Γ' hr
    have ex := r.strs_eq
    subst ex
    exact ⟨a, p, ys, rfl, rfl, .inl (.inl (.inl eq)), hz, ea _ F' H' _ hx (G'.setSh rfl) x⟩⟩
/-- both operands with effects -/
theorem ew_opWW {r : L2.R2} (ha : EvW ta Γ R1) (hb : ∀ x Γ', R1 x Γ' → EvW tb Γ' fun y Γ'' => ∃ z, RD r x y z ∧ R z Γ'') : EvW (tOp r ta tb) Γ R := fun c F H σ G Q k =>
  ha c F H σ G _ fun v x Γ1 F1 H1 hx G1 x1 f1 r1 => hb x Γ1 hx c F1 H1 σ G1 _ fun u y Γ2 F2 H2 ⟨z, hz, hR⟩ G2 x2 f2 r2 =>
    hz F2 H2 v u G2.fh (r1.mono x2) r2 Q fun w F3 H3 S3 r3 => k w z Γ2 F3 H3 hR (G2.step S3) (x1.trans (x2.trans S3.f)) ((f1.trans f2).trans (Fr.stp S3)) r3
/-- [a, b, c], a with effects -/
theorem ew_lst3 (ha : EvW ta Γ R1) (hb : ∀ x Γ', R1 x Γ' → EvP tb Γ' y ∧ EvP tc Γ' z ∧ R (.lst [x, y, z]) Γ') : EvW (tLst (tCons ta (tCons tb (tCons tc tNil)))) Γ R := fun c F H σ G Q k =>
  ha c F H σ G _ fun v x Γ1 F1 H1 hx G1 x1 f1 r1 => by
    obtain ⟨h2, h3, hR⟩ := hb x Γ1 hx
    exact h2 c F1 H1 σ G1 _ fun v2 F2 H2 S2 r2 => h3 c F2 H2 σ (G1.step S2) _ fun v3 F3 H3 S3 r3 => ⟨(by show 3 ≤ sizeLine; decide), fun p hp => by
      have S4 := Stp.new S3.fh (.lst [v, v2, v3]) hp
      have S := (S2.trans S3).trans S4
      exact k (.ref p) _ Γ1 _ _ hR (G1.step S) (x1.trans S.f) (f1.trans (Fr.stp S)) ⟨p, _, rfl, upd_same, v, _, rfl, r1.mono S.f, v2, _, rfl, (r2.mono S3.f).mono S4.f, v3, _, rfl, r3.mono S4.f, rfl⟩⟩
/-- a, b = e, f, both with effects -/
theorem sw_parWW {i j : Nat} (ha : EvW ta Γ R1) (hb : ∀ x Γ', R1 x Γ' → EvW tb Γ' fun y Γ'' => P.nx ((Γ''.set i (.sh x)).set j (.sh y))) : SW (tPar i j (tCons ta (tCons tb tNil))) Γ P := fun c F H σ G D ea eb ee ef =>
  ha c F H σ G _ fun v x Γ1 F1 H1 hx G1 x1 f1 r1 => hb x Γ1 hx c F1 H1 σ G1 _ fun u y Γ2 F2 H2 hn G2 x2 f2 r2 =>
    ⟨v, u, rfl, ea _ F2 H2 _ hn ((G2.setSh (r1.mono x2)).setSh r2) (x1.trans x2)⟩
/-! isinstance by built-in types -/
def noObj : D → Bool
  | .obj _ _ => false
  | _ => true
theorem tyX_n {F H : Hp} {d : D} {v : V} {t : Value} (e : Ex F H) (h : tyD d = some t) (ho : noObj d = true) (r : Rep F d v) : TyX K H v t := tyX_of e h (fun C fs z => by subst z; cases ho) r
theorem rc_isB {b : Bool} {n m : String} (ht : tyD x = some (.type m)) (ho : noObj x = true) (hb : kitB m n = some b) : RC (rIsi K) [x, .ty n] (.bl b) := fun F H vs e r Q k => by
  obtain ⟨v, _, rfl, rv, w, _, rfl, rw', rfl⟩ := r
  have e1 : w = .ty n := rw'
  subst e1
  exact ⟨v, .ty n, .type m, .type n, b, rfl, .ty n, tyX_n e ht ho rv, kit_ty hb, k _ F H (.refl e) rfl⟩
theorem rc_isT {b b1 b2 : Bool} {n n' m : String} (ht : tyD x = some (.type m)) (ho : noObj x = true) (h1 : kitB m n = some b1) (h2 : kitB m n' = some b2) (hb : (b1 || b2) = b) : RC (rIsiT K) [x, .tup [.ty n, .ty n']] (.bl b) := fun F H vs e r Q k => by
  obtain ⟨v, _, rfl, rv, w, _, rfl, rw', rfl⟩ := r
  obtain ⟨a, xs, rfl, ha, u1, _, rfl, ru1, u2, _, rfl, ru2, rfl⟩ := rw'
  have e1 : u1 = .ty n := ru1
  have e2 : u2 = .ty n' := ru2
  subst e1 e2 hb
  refine ⟨v, a, _, .type m, [.type n, .type n'], _, rfl, e _ _ ha, .cons (.ty n) (.cons (.ty n') .nil), tyX_n e ht ho rv, ?_, k _ F H (.refl e) rfl⟩
  refine kitAny_cons (kit_ty h1) (fun z => ?_) (fun z => by rw [z]; rfl)
  refine kitAny_cons (kit_ty h2) (fun z2 => ?_) (fun z2 => by rw [z2, Bool.or_true])
  rw [z, z2]; exact kitAny_nil
/-- xs[i], xs a list or a tuple -/
def rIxLT (K : PySem.W.Frag) : L2.R2 := fun x y H Q => rIxL K x y H Q ∨ rIxT K x y H Q
theorem ix_seq {X : Cx} : IxR X (rIxLT X.K) := fun value slice pins s σ H x y v u Q I rx ry h e => by
  rcases h with h | h
  · exact ix_list value slice pins s σ H x y v u Q I rx ry h e
  · exact ix_tup value slice pins s σ H x y v u Q I rx ry h e
theorem rd_ixLl {i : Int} (h : atI ds i = some d) : RD (rIxLT K) (.lst ds) (.int i) d := fun F H vx vy e rx ry Q k => .inl (rd_ixL h F H vx vy e rx ry Q k)
theorem rd_ixLt {i : Int} (h : atI ds i = some d) : RD (rIxLT K) (.tup ds) (.int i) d := fun F H vx vy e rx ry Q k => .inr (rd_ixT h F H vx vy e rx ry Q k)
theorem Reps.bls_eq {F : Hp} : ∀ {ns : List Bool} {xs : List V}, Reps F (ns.map D.bl) xs → xs = ns.map V.bl
  | [], _, h => h
  | n :: ns, _, ⟨v, r, h1, h2, h3⟩ => by
    cases h1
    have h2' : v = .bl n := h2
    rw [h2', Reps.bls_eq h3]
    rfl
theorem rc_all {bs : List Bool} : RC (rAll K) [.lst (bs.map D.bl)] (.bl (bs.all id)) := fun F H vs e r Q k => by
  obtain ⟨v, _, rfl, ⟨a, xs, rfl, ha, r1⟩, rfl⟩ := r
  have ex := r1.bls_eq
  subst ex
  exact ⟨a, bs, rfl, .inl (.inl (e _ _ ha)), k _ F H (.refl e) rfl⟩
theorem rd_neB {i j : Bool} : RD rNe (.bl i) (.bl j) (.bl (!decide (i = j))) := rd_ne rfl rfl rfl (by cases i <;> cases j <;> rfl)
theorem rd_eqB {i j : Bool} : RD rEq (.bl i) (.bl j) (.bl (decide (i = j))) := rd_eq rfl rfl rfl (by cases i <;> cases j <;> rfl)
end
end DL
namespace XS
open PySem PySem.Spec PyProof.Rows L2 DL
/-- an own exception without __init__, by its name -/
structure MakN (K : PySem.W.Frag) (mg : Str → Option Value) (x : Str) (C : Addr) : Prop where
  q : PySem.W.excIn K C He.veBase "ValueError.__new__" = true
  g : mg x = some (.ref C)
  k : PySem.W.keepIn K (.ref C) = true
theorem pe_exN {X : Cx} {C : Addr} {x : Str} {e : Expr} {ta : TE} {p pos : Pos} (c : MakN X.K X.mg x C) (hg : Gl X x) (he : PE X e ta) (hs : starEach [e] X.env = (false, eval e X.env) :: starEach [] X.env := by rfl) (hdb : (x == ("__debug__" : Str)) = false := by decide) :
    PE X (.Call (.Name x p) [e] [] pos) (fun σ H Q => ta σ H fun _ H1 => ∀ a, H1 a = none → Q (.ref a) (upd H1 a (ExO (.ref C) a))) := pe_exc1 PySem.F.excBase_ValueError c.q c.g c.k hg he hs hdb
theorem pe_xaK {X : Cx} {K : PySem.W.Frag} {e : Expr} {te : TE} {pos : Pos} {n : Str} (he : PE X e te) (hb : attributeBase e n X.env (eval e X.env) = eval e X.env := by rfl) (hK : X.K = K := by rfl) : PE X (.Attribute e n pos) (tXa K n te) := hK ▸ pe_xa he hb
end XS
set_option Elab.async false
set_option linter.all false
set_option maxRecDepth 100000
set_option autoImplicit false
set_option maxHeartbeats 4000000
/-! X8: data rules of texts: f-strings, split, slices, the walk over a text, chains, is None, int(text); a tuple's slice, a tuple with a list spread in it, four names at once. -/
namespace DL
open PySem PySem.Spec PyProof.Rows L2
section
variable {K : PySem.W.Frag} {Γ Γ' : List En} {te ta tb tc : TE} {d x y z w : D} {ds es : List D} {P : Po} {g : TG}
/-! f-strings -/
/-- the parts ts are the texts ys, one behind another -/
def EjP (ts : List TE) (Γ : List En) (ys : List Str) : Prop := ∀ c F H σ, Good c F H σ Γ → ∀ (acc : Str) (Q : Str → Hp → Prop), acc.length + (ys.map (·.length)).sum ≤ sizeLine → (∀ F' H', Stp F H F' H' → Q (ys.foldl (· ++ ·) acc) H') → tJs ts acc σ H Q
theorem ej_nil : EjP [] Γ [] := fun c F H σ G acc Q _ k => k F H (.refl G.fh)
theorem ej_cons {a : Str} {ts : List TE} {ys : List Str} (h : EvP te Γ (.str a)) (r : EjP ts Γ ys) : EjP (te :: ts) Γ (a :: ys) := fun c F H σ G acc Q hl k => h c F H σ G _ fun v F1 H1 S1 r1 => by
  have ev : v = .str a := r1
  subst ev
  rw [List.map_cons, List.sum_cons] at hl
  have el : (acc ++ a).length = acc.length + a.length := Str.length_append _ _
  exact ⟨a, rfl, by omega, r c F1 H1 σ (G.step S1) (acc ++ a) Q (by omega) fun F' H' S2 => k F' H' (S1.trans S2)⟩
theorem ep_fj {ts : List TE} {ys : List Str} (h : EjP ts Γ ys) (hl : (ys.map (·.length)).sum ≤ sizeLine) : EvP (fun σ H Q => tJs ts Str.empty σ H fun out H1 => Q (.str out) H1) Γ (.str (ys.foldl (· ++ ·) Str.empty)) := fun c F H σ G Q k =>
  h c F H σ G Str.empty _ (by have : Str.empty.length = 0 := rfl; omega) fun F' H' S => k _ F' H' S rfl
theorem ep_fmtS {a : Str} (h : EvP te Γ (.str a)) (hl : a.length ≤ sizeLine) : EvP (tFmt te) Γ (.str a) := fun c F H σ G Q k => h c F H σ G _ fun v F1 H1 S1 r1 => .inl ⟨a, r1, hl, k _ F1 H1 S1 rfl⟩
theorem ep_fmtI {i : Int} (h : EvP te Γ (.int i)) (hl : i.natAbs.log2 < 1920) : EvP (tFmt te) Γ (.str (toString i)) := fun c F H σ G Q k => h c F H σ G _ fun v F1 H1 S1 r1 => .inr ⟨i, r1, hl, k _ F1 H1 S1 rfl⟩
/-! split, slices -/
abbrev rSplit : V → List V → Hp → VK → Prop := fun x xs H Q => ∃ a b, x = .str a ∧ xs = [.str b] ∧ (b.length == 0) = false ∧ a.length + 2 ≤ sizeLine ∧ rNewStrs (Txt.split a b) H Q
theorem ef_split {a b : Str} {ys : List Str} (ha : EvP ta Γ (.str a)) (hb : EvP tb Γ (.str b)) (hn : (b.length == 0) = false) (hl : a.length + 2 ≤ sizeLine) (hy : Txt.split a b = ys) : EvF (tM1 rSplit ta tb) Γ (ys.map D.str) := fun c F H σ G Q k =>
  ha c F H σ G _ fun v F1 H1 S1 r1 => ⟨⟨a, r1⟩, hb c F1 H1 σ (G.step S1) _ fun u F2 H2 S2 r2 => by
    have eu : u = .str b := r2
    subst eu
    refine ⟨a, b, r1, rfl, hn, hl, ?_⟩
    rw [hy]
    intro p hp
    have S3 := Stp.loose S2.fh (.lst (ys.map V.str)) hp
    have S := (S1.trans S2)
    refine k p _ F2 _ (S.trans S3) ?_ ?_ upd_same (Reps.strs ys)
    · cases q : H p with
      | none => rfl
      | some o => rw [S.h _ _ q] at hp; cases hp
    · cases q : F2 p with
      | none => rfl
      | some o => rw [S2.fh _ _ q] at hp; cases hp⟩
theorem cutV_from {α : Type} (xs : List V) : cutV xs (some 1) none = xs.drop 1 := by
  unfold cutV
  have e : HT.sIx xs.length 0 (some (1 : Int)) = min 1 xs.length := HT.sIx_nat _ _ 1
  rw [e, HT.sIx_none]
  cases xs with
  | nil => rfl
  | cons v r =>
    have m : min 1 (v :: r).length = 1 := by rw [List.length_cons]; omega
    rw [m]
    show (r.take ((r.length + 1) - 1)) = r
    rw [Nat.add_sub_cancel, List.take_length]
/-- t[1:] of a tuple -/
theorem ep_tupFrom (h : EvP te Γ (.tup (x :: ds))) : EvP (tSl (rSlT K) te (tPart (tC (.int 1))) tNoPart) Γ (.tup ds) := fun c F H σ G Q k => h c F H σ G _ fun v F1 H1 S1 r1 => by
  obtain ⟨a, xs, rfl, ha, u, r, rfl, ru, rr⟩ := r1
  refine ⟨1, rfl, a, _, rfl, .inl (.inl (S1.fh _ _ ha)), fun ⟨h1, _⟩ => ?_, fun p hp => ?_⟩
  · have e : HT.sIx (u :: r).length 0 (some (1 : Int)) = min 1 (u :: r).length := HT.sIx_nat _ _ 1
    rw [e, List.length_cons] at h1
    omega
  · rw [cutV_from (α := Unit)]
    have S2 := Stp.new S1.fh (.tup r) hp
    exact k (.ref p) _ _ (S1.trans S2) ⟨p, r, rfl, upd_same, rr.mono S2.f⟩
/-- x[1:] of a text -/
theorem ep_strFrom {c0 : Nat} {cs : List Nat} (h : EvP te Γ (.str (SX.S (c0 :: cs)))) (hl : cs.length + 1 ≤ sizeLine) : EvP (tSl rSlS te (tPart (tC (.int 1))) tNoPart) Γ (.str (SX.S cs)) := fun c F H σ G Q k => h c F H σ G _ fun v F1 H1 S1 r1 => by
  have ev : v = .str (SX.S (c0 :: cs)) := r1
  subst ev
  refine ⟨1, rfl, SX.S (c0 :: cs), rfl, by rw [SX.S_len]; exact hl, ?_⟩
  have e : cutS (SX.S (c0 :: cs)) (some 1) none = SX.S cs := by
    unfold cutS
    have e1 : HT.sIx (SX.S (c0 :: cs)).length 0 (some (1 : Int)) = min 1 (SX.S (c0 :: cs)).length := HT.sIx_nat _ _ 1
    rw [e1, HT.sIx_none, SX.S_len, List.length_cons]
    have m : min 1 (cs.length + 1) = 1 := by omega
    rw [m]
    show (⟨((c0 :: cs).drop 1 |>.take (cs.length + 1 - 1)).toArray⟩ : Str) = _
    rw [Nat.add_sub_cancel, List.drop_succ_cons, List.drop_zero, List.take_length]
  rw [e]
  exact k _ F1 H1 S1 rfl
/-- for c in a text -/
theorem wi_str {a : List Nat} (h : EvP te Γ (.str (SX.S a))) : WiP (iStr te) Γ (a.map fun c => D.str ⟨#[c]⟩) := fun c F H σ G R k => h c F H σ G _ fun v F1 H1 S1 r1 => by
  refine ⟨SX.S a, r1, k _ F1 H1 (fun _ => True) (fun i H v H' => H' = H ∧ ∃ c, (SX.S a).cps[i]? = some c ∧ v = .str ⟨#[c]⟩) S1 ?_ (fun _ _ => trivial) fun i H1' v H2 F2 hi x1 x2 y => ?_⟩
  · have e : (a.map fun c => D.str ⟨#[c]⟩).length = (SX.S a).cps.size := by simp [SX.S]
    rw [e]; exact walk_str
  · obtain ⟨rfl, cc, hc, rfl⟩ := y
    refine ⟨F2, .str ⟨#[cc]⟩, ?_, .refl x2, rfl⟩
    rw [List.getElem?_map]
    have : a[i]? = some cc := by simpa [SX.S] using hc
    rw [this]; rfl
/-! chains, order, is None -/
theorem ep_chain {r r' : R2} {a b : Bool} (ha : EvP ta Γ x) (hb : EvP tb Γ y) (hc : EvP tc Γ z) (h1 : RD r x y (.bl a)) (h2 : a = true → RD r' y z (.bl b)) : EvP (tChain r r' ta tb tc) Γ (.bl (a && b)) := fun c F H σ G Q k =>
  ha c F H σ G _ fun v F1 H1 S1 r1 => hb c F1 H1 σ (G.step S1) _ fun u F2 H2 S2 r2 => h1 F2 H2 v u S2.fh (r1.mono S2.f) r2 _ fun k0 F3 H3 S3 r3 => by
    have e3 : k0 = .bl a := r3
    refine ⟨a, e3, ?_⟩
    have S13 := S1.trans (S2.trans S3)
    cases a with
    | true =>
      rw [if_pos rfl]
      exact hc c F3 H3 σ (G.step S13) _ fun w F4 H4 S4 r4 => h2 rfl F4 H4 u w S4.fh (r2.mono (S3.f.trans S4.f)) r4 Q fun q F5 H5 S5 r5 => k q F5 H5 (S13.trans (S4.trans S5)) r5
    | false => rw [if_neg Bool.false_ne_true]; exact k _ F3 H3 S13 rfl
abbrev rLeS : R2 := fun x y H Q => ∃ i j, x = .str i ∧ y = .str j ∧ Q (.bl (!decide (j.cps.toList < i.cps.toList))) H
theorem rd_leS {i j : Str} : RD rLeS (.str i) (.str j) (.bl (!decide (j.cps.toList < i.cps.toList))) := fun F H vx vy e rx ry Q k => ⟨i, j, rx, ry, k _ F H (.refl e) rfl⟩
def isNon : D → Bool
  | .non => true
  | _ => false
theorem rep_non {F : Hp} {v : V} : ∀ {d : D}, (∀ p, d ≠ .opq p) → Rep F d v → decide (v = .non) = isNon d
  | .non, _, r => by cases r; rfl
  | .bl _, _, r => by cases r; rfl
  | .int _, _, r => by cases r; rfl
  | .str _, _, r => by cases r; rfl
  | .ref _, _, r => by cases r; rfl
  | .ty _, _, r => by cases r; rfl
  | .lst _, _, ⟨a, xs, e, _⟩ => by subst e; rfl
  | .tup _, _, ⟨a, xs, e, _⟩ => by subst e; rfl
  | .obj _ _, _, ⟨a, dx, xs, e, _⟩ => by subst e; rfl
  | .scr _ _ _, _, ⟨e, _⟩ => by subst e; rfl
  | .dct _, _, ⟨a, xs, e, _⟩ => by subst e; rfl
  | .dki _, _, ⟨a, xs, e, _⟩ => by subst e; rfl
  | .opq p, h, _ => absurd rfl (h p)
theorem rd_isN (h : ∀ p, x ≠ .opq p) : RD rIsN x .non (.bl (isNon x)) := fun F H vx vy e rx ry Q k => ⟨ry, by rw [rep_non h rx]; exact k _ F H (.refl e) rfl⟩
/-- int(a) -/
theorem rc_intS {a : Str} {n : Int} (hn : PySem.intText? a = some n) (hl : a.length ≤ 640) : RC (fun xs H Q => ∃ a n, xs = [.str a] ∧ PySem.intText? a = some n ∧ a.length ≤ 640 ∧ Q (.int n) H) [.str a] (.int n) := fun F H vs e r Q k => by
  obtain ⟨v, _, rfl, rv, rfl⟩ := r
  have ev : v = .str a := rv
  subst ev
  exact ⟨a, n, rfl, hn, hl, k _ F H (.refl e) rfl⟩
theorem rc_reprI {i : Int} (hl : i.natAbs.log2 < 1920) : RC (fun xs H Q => ∃ i, xs = [.int i] ∧ i.natAbs.log2 < 1920 ∧ Q (.str (toString i)) H) [.int i] (.str (toString i)) := fun F H vs e r Q k => by
  obtain ⟨v, _, rfl, rv, rfl⟩ := r
  have ev : v = .int i := rv
  subst ev
  exact ⟨i, rfl, hl, k _ F H (.refl e) rfl⟩
/-- startswith -/
abbrev rStarts : V → List V → Hp → VK → Prop := fun x xs H Q => ∃ a b, x = .str a ∧ xs = [.str b] ∧ Q (.bl (Txt.startswith a b)) H
theorem ep_starts {a b : Str} (ha : EvP ta Γ (.str a)) (hb : EvP tb Γ (.str b)) : EvP (tM1 rStarts ta tb) Γ (.bl (Txt.startswith a b)) := fun c F H σ G Q k =>
  ha c F H σ G _ fun v F1 H1 S1 r1 => ⟨⟨a, r1⟩, hb c F1 H1 σ (G.step S1) _ fun u F2 H2 S2 r2 => by
    have eu : u = .str b := r2
    subst eu
    exact ⟨a, b, r1, rfl, k _ F2 H2 (S1.trans S2) rfl⟩⟩
/-- four names -/
theorem gt_tup4 {i j l m : Nat} : GtP (gTup K 4 (gCons (gName i) (gCons (gName j) (gCons (gName l) (gCons (gName m) gNil))))) (.tup [x, y, z, w]) Γ ((((Γ.set i (.sh x)).set j (.sh y)).set l (.sh z)).set m (.sh w)) := fun c F H σ v G r Q k => by
  obtain ⟨a, xs, rfl, ha, u1, r1, rfl, h1, u2, r2, rfl, h2, u3, r3, rfl, h3, u4, r4, rfl, h4, rfl⟩ := r
  exact ⟨a, [u1, u2, u3, u4], rfl, .inl (.inl (G.exH ha)), rfl, u1, [u2, u3, u4], rfl, u2, [u3, u4], rfl, u3, [u4], rfl, u4, [], rfl, rfl, k _ ((((G.setSh h1).setSh h2).setSh h3).setSh h4)⟩
/-- *xs, xs a mutable list, as the last argument -/
theorem ea_starM {i : Nat} (h : Mt Γ i ds) : EaP (StX.tStar K (tVar i) tNil) Γ ds := fun c F H σ G Q k => by
  obtain ⟨p, xs, e, h1, h2, h3, h4, h5, h6⟩ := G.mt h
  refine ⟨_, h1, p, xs, rfl, .inr (SqL.of h2), ?_⟩
  show Q (xs ++ []) H
  rw [List.append_nil]
  exact k xs F H (.refl G.fh) h3
/-- repr of a tuple of data -/
theorem rc_reprT {d : PyData} (h : pyD (.tup ds) = some d) (hs : d.showable = true) (hn : d.hasDict = false) (hl : d.shown.length ≤ sizeLine) (hp : d.depth ≤ 60) : RC (fun xs H Q => ∃ (a : Addr) (d : PyData), xs = [.ref a] ∧ Dp K H (.ref a) d ∧ d.showable = true ∧ d.hasDict = false ∧ d.shown.length ≤ sizeLine ∧ d.depth ≤ 60 ∧ Q (.str d.shown) H) [.tup ds] (.str d.shown) := fun F H vs e r Q k => by
  obtain ⟨v, _, rfl, rv, rfl⟩ := r
  have q := dp_of (K := K) e h rv
  obtain ⟨a, xs, rfl, h1, h2⟩ := rv
  exact ⟨a, d, rfl, q, hs, hn, hl, hp, k _ F H (.refl e) rfl⟩
end
end DL
set_option Elab.async false
set_option linter.all false
set_option maxRecDepth 100000
set_option autoImplicit false
set_option maxHeartbeats 4000000
/-! G1: defs that are called where no repr is under way (guards empty): their promise, their calls, repr of data. -/
namespace DL
open PySem PySem.Spec PyProof.Rows L2
abbrev NoG (A : Around) : Prop := A.guards = some []
structure FnG (P : Program) (w : World) (K : PySem.W.Frag) (mg : Str → Option Value) (base : Heap) (k : Nat) (f : Addr) (fd : FuncData) (ps : List Str) (sp : Sp) : Prop where
  ar : ∀ vs H Q E, sp vs H Q E → vs.length = ps.length
  go : ∀ (A : Around) (out : List Env) (s : Shared) (H : Hp) (ag : Args) (us : List Value) (vs : List V) (Q : VK) (E : XK), Room k A → NoG A →
    Env0 P w K mg base A out s H → BindsTo s fd ag (ps.zip us) → Vals vs us → sp vs H Q E → codeAny (model P w) A (.call (.ref f) ag) (CR CX0 out P w H s Q E) s
theorem FnOk.g {P : Program} {w : World} {K : PySem.W.Frag} {mg : Str → Option Value} {base : Heap} {k : Nat} {f : Addr} {fd : FuncData} {ps : List Str} {sp : Sp} (F : FnOk P w K mg base CX0 k f fd ps sp) : FnG P w K mg base k f fd ps sp :=
  ⟨F.len, fun A o s H ag us vs Q E hr _ e b v h => F.run A o s H ag us vs Q E hr e b v h⟩
section
variable {P : Program} {w : World} {K : PySem.W.Frag} {mg : Str → Option Value} {base : Heap} {x qual : Str} {params : Arguments} {body : List Stmt} {scope : Scope} {f : Addr} {fd : FuncData} {N ps : List Str} {k : Nat} {sp : Sp}
theorem fn_g (F : FunD K x qual params body scope [] [] f fd) (S : FnScope N ps scope) (len : ∀ vs H Q E, sp vs H Q E → vs.length = ps.length)
    (hb : ∀ (cdv : Value) (A : Around) (out : List Env) (s : Shared) (H : Hp) (vs : List V) (Q : VK) (E : XK), Room k (A.deeper (envOfC qual scope s.heap.objs.size f cdv)) → NoG A → sp vs H Q E →
      ∃ t, PSs (cxOf CX0 P w K mg base N qual scope f cdv A out s H E) body t ∧ t { nx := fun _ Hz => Q .non Hz, rt := Q } (L2.start N vs) H) : FnG P w K mg base (k + 1) f fd ps sp := by
  obtain ⟨oc, od, dV, kV, doc, pm, an, cdv, ct, osl, rfl, lk, hcd, _, _⟩ := F.ex
  refine ⟨len, fun A out s H ag us vs Q E hr hg e0 hbi rv hsp => ?_⟩
  have keep : ∀ b o, base.get? b = some o → s.heap.get? b = some o := fun b o e => (e0.bs b o e).1
  have KX := e0.mod.kin.keeps keep
  have lim := e0.mod.nolimit.keeps keep
  have nl := len vs H Q E hsp
  have kinds : ∀ y ∈ ps.zip us, scope.names.lookup y.1 = some .local ∨ (scope.names.lookup y.1 = some .cell ∧ ((cellsFrom (s.heap.objs.size + 1) scope.names []).lookup y.1).isSome = true) := by
    rintro ⟨a, v⟩ hy
    exact (S.par a (List.of_mem_zip hy).1).imp id fun q => ⟨q, PySem.W.cellsFrom_some _ _ _ (.inl q)⟩
  refine codeAny_call_function hr.depth (KX _ _ lk) rfl S.co S.gen rfl (PySem.W.codeRec_of KX hcd) (hbi _ _ _ _ (wpAny_newFunctionEnv_cells S.kind kinds ?_))
  intro env he s1 xx
  subst he
  obtain ⟨t, ht, hq⟩ := hb cdv A out s H vs Q E (hr.deeper _) hg hsp
  have I : Inv (cxOf CX0 P w K mg base N qual scope f cdv A out s H E) [] (L2.start N vs) H s1 := inv_start S hr.hd e0 nl rv xx
  refine ⟨lim.keeps xx.toInCall.keep, codeAny_func (wpAny_mono (ht.run [] s1 (L2.start N vs) H _ I hq) ?_ fun _ _ z => z)⟩
  intro fl sz hz
  cases fl with
  | ret u => obtain ⟨v, τ, Hz, J, r, q⟩ := hz; exact ⟨v, Hz, J.os, J.bare, J.base, J.hok, r, q⟩
  | next => obtain ⟨τ, Hz, J, q⟩ := hz; exact ⟨.non, Hz, J.os, J.bare, J.base, J.hok, rfl, q⟩
  | brk => obtain ⟨_, _, _, q⟩ := hz; exact q.elim
  | cont => obtain ⟨_, _, _, q⟩ := hz; exact q.elim
end
end DL
set_option Elab.async false
set_option linter.all false
set_option maxRecDepth 100000
set_option autoImplicit false
set_option maxHeartbeats 4000000
/-! G2: calls of such defs; repr of a list of data; keyword calls; max of a list. -/
namespace DL
open PySem PySem.Spec PyProof.Rows L2
abbrev rReprL (K : PySem.W.Frag) : List V → Hp → VK → Prop := fun xs H Q => ∃ (a : Addr) (d : PyData), xs = [.ref a] ∧ Dp K H (.ref a) d ∧ d.showable = true ∧ d.hasDict = false ∧ d.shown.length ≤ sizeLine ∧ d.depth ≤ 60 ∧ Q (.str d.shown) H
theorem call_reprG {X : Cx} {j : Nat} (hg : NoG X.A) (hr : Room j X.A) : CallR X (.builtin "repr") (rReprL X.K) := by
  intro pins s σ H xs us Q I r h
  obtain ⟨a, d, rfl, hd, hs, hn, hl, hp, q⟩ := h
  obtain ⟨u, rfl, rx⟩ := vals1 r
  cases rx
  obtain ⟨as, rd⟩ := Dp.reads I d _ _ hd rfl
  refine repr_of_reads' rd hs (fun z => by rw [hn] at z; cases z) hg ?_ (fun b o e => e) (fun h' u tk hk => ⟨.str d.shown, H, I.kept hk, ⟨u, rfl⟩, q⟩) hl
  have := hr.un
  omega
/-- repr of data of the data layer -/
theorem rc_repr {K : PySem.W.Frag} {ds : List D} {d : PyData} (h : pyD (.lst ds) = some d) (hs : d.showable = true) (hn : d.hasDict = false) (hl : d.shown.length ≤ sizeLine) (hp : d.depth ≤ 60) : RC (rReprL K) [.lst ds] (.str d.shown) := fun F H vs e r Q k => by
  obtain ⟨v, _, rfl, rv, rfl⟩ := r
  have q := dp_of (K := K) e h rv
  obtain ⟨a, xs, rfl, h1, h2⟩ := rv
  exact ⟨a, d, rfl, q, hs, hn, hl, hp, k _ F H (.refl e) rfl⟩
section
variable {X : Cx} {j k : Nat} {f : Addr} {fd : FuncData} {ps : List Str} {sp : Sp}
theorem run_g {pins : List (Addr × Obj)} {σ : L2.St} {H : Hp} {s : Shared} {Q : VK} {us : List Value} {vs : List V} (F : FnG X.prog X.w X.K X.mg X.base k f fd ps sp) (hr : Room k X.A) (hg : NoG X.A) (hb : Binds X.K fd ps []) (I : Inv X pins σ H s) (r : Vals vs us) (h : sp vs H Q E0) :
    wpAny (model X.prog X.w) X.A (call (.ref f) us) (EP X pins σ Q) X.xe s := by
  have nl : us.length = ps.length := by rw [← r.length]; exact F.ar vs H Q E0 h
  have b := hb s us I.kIn (by rw [List.append_nil]; exact nl)
  rw [List.append_nil] at b
  refine wpAny_call (codeAny_mono (F.go X.A X.stack s H ⟨us, []⟩ us vs Q E0 hr hg I.env0 b r h) ?_)
  intro res sz hq
  cases res with
  | error e => exact (pass0 (X := X)) pins σ H s e sz I hq
  | ok fl =>
    cases fl with
    | ret u => exact I.after hq
    | next => exact hq.elim
    | brk => exact hq.elim
    | cont => exact hq.elim
/-- the name x stands for a def that keeps sp where no repr is under way -/
structure CalG (P : Program) (w : World) (K : PySem.W.Frag) (mg : Str → Option Value) (base : Heap) (k : Nat) (x : Str) (sp : Sp) : Prop where
  ex : ∃ (f : Addr) (fd : FuncData) (ps : List Str), FnG P w K mg base k f fd ps sp ∧ mg x = some (.ref f) ∧ PySem.W.keepIn K (.ref f) = true ∧ Binds K fd ps []
theorem pe_cg {x : Str} {p pos : Pos} {e : Expr} {es : List Expr} {t : TA} (c : CalG X.prog X.w X.K X.mg X.base k x sp) (hr : Room j X.A) (hg : NoG X.A) (hk : k ≤ j) (hgl : Gl X x) (ha : PA X (e :: es) t) (hdb : (x == ("__debug__" : Str)) = false := by decide)
    (he : starEach (e :: es) X.env = (false, eval e X.env) :: starEach es X.env := by rfl) (hpl : (backTo pos (starEach es X.env)).any (·.1) = false := by rfl) : PE X (.Call (.Name x p) (e :: es) [] pos) (tCall sp [] E0 t) := by
  obtain ⟨f, fd, ps, F, hm, kp, b⟩ := c.ex
  constructor
  intro pins s σ H Q I h
  refine wpAny_Call_Name_kw (ld_glob I hgl hm ?_ hdb)
  refine PySem.W.callWith_K (h₀ := X.base) I.ok.mod.kin kp ?_ he hpl
  refine thn (ha.run pos pins s σ H _ I h) ?_
  rintro us s1 ⟨vs, H1, I1, r, q⟩
  rw [List.append_nil] at q
  exact ⟨I1.kIn, run_g F (hr.mono hk) hg b I1 r q⟩
end
end DL
set_option Elab.async false
set_option linter.all false
set_option maxRecDepth 100000
set_option autoImplicit false
set_option maxHeartbeats 4000000
/-! G3: a def in the data layer, called where no repr is under way; max of a list. -/
namespace DL
open PySem PySem.Spec PyProof.Rows L2
section
variable {P : Program} {w : World} {K : PySem.W.Frag} {mg : Str → Option Value} {base : Heap} {x qual : Str} {params : Arguments} {body : List Stmt} {scope : Scope} {f : Addr} {fd : FuncData} {N ps : List Str} {k : Nat} {C : Cn}
theorem fn_okG (F : FunD K x qual params body scope [] [] f fd) (S : FnScope N ps scope) (hlen : ∀ Γ R, C Γ R → Γ.length = ps.length)
    (hb : ∀ (cdv : Value) (A : Around) (outer : List Env) (s : Shared) (H : Hp) (E : XK), Room k (A.deeper (envOfC qual scope s.heap.objs.size f cdv)) → NoG A →
      ∃ t, PSs (cxOf CX0 P w K mg base N qual scope f cdv A outer s H E).nox body t ∧
        ∀ Γ R, C Γ R → argOk Γ → SW t (Γ ++ List.replicate (N.length - ps.length) .un) ⟨fun Γ' => R .non (outG Γ Γ') ∧ lentOk Γ Γ', fun d Γ' => R d (outG Γ Γ') ∧ lentOk Γ Γ', fun _ => False, fun _ => False⟩) :
    FnG P w K mg base (k + 1) f fd ps (spE C) := by
  have ln : ∀ vs H Q E, spE C vs H Q E → vs.length = ps.length := fun vs H Q E ⟨c, F, Γ, R, G, a, hC, q⟩ => by
    have e := G.len
    rw [List.length_map] at e
    rw [e, hlen _ _ hC]
  refine fn_g F S ln fun cdv A outer s H vs Q E hr hg h => ?_
  obtain ⟨t, h1, h2⟩ := hb cdv A outer s H E hr hg
  refine ⟨t, PSs.nox h1, ?_⟩
  have lv := ln vs H Q E h
  obtain ⟨c, F0, Γ, R, G, a, hC, q⟩ := h
  show t _ (vs.map some ++ List.replicate (N.length - vs.length) none) H
  rw [lv]
  refine h2 Γ R hC a c F0 H _ (G.start _) _ (fun Γ' F' H' σ' p G' x => ?_) (fun v d Γ' F' H' σ' p G' x r => ?_) (fun _ _ _ _ z => z.elim) (fun _ _ _ _ z => z.elim)
  · exact q .non .non _ F' H' p.1 (G.back G' x a p.2) x rfl
  · exact q v d _ F' H' p.1 (G.back G' x a p.2) x r
end
/-- max of a list of ints -/
theorem rc_max {K : PySem.W.Frag} {ns : List Int} {m : Int} (hm : m ∈ ns) (hb : ∀ y ∈ ns, y ≤ m) : RC (rMax K) [.lst (ns.map D.int)] (.int m) := fun F H vs e r Q k => by
  obtain ⟨v, _, rfl, ⟨a, xs, rfl, h1, h2⟩, rfl⟩ := r
  have ex := h2.ints_eq
  subst ex
  refine ⟨a, ns, rfl, .inl (.inl (e _ _ h1)), List.length_pos_of_mem hm, fun x q1 q2 => ?_⟩
  have ex : x = m := Int.le_antisymm (hb x q1) (q2 m hm)
  subst ex
  exact k _ F H (.refl e) rfl
end DL
set_option Elab.async false
set_option linter.all false
set_option maxRecDepth 100000
set_option autoImplicit false
set_option maxHeartbeats 4000000
/-! G4: a call by names alone, the names in the reverse order of the parameters. -/
namespace DL
open PySem PySem.Spec PyProof.Rows L2
abbrev gR : List Value → List Value → List Value := fun _ ws => ws.reverse
abbrev gRV : List V → List V → List V := fun _ zs => zs.reverse
/-- all of the def's parameters by their names, the last one first -/
def KRev (K : PySem.W.Frag) (fd : FuncData) (ps ks : List Str) : Prop := ∀ (s : Shared) (ws : List Value), K.In s.heap → ws.length = ps.length → BindsTo s fd ⟨[], ks.zip ws⟩ (ps.zip ws.reverse)
structure CalK (P : Program) (w : World) (K : PySem.W.Frag) (mg : Str → Option Value) (base : Heap) (k : Nat) (x : Str) (ks : List Str) (sp : Sp) : Prop where
  ex : ∃ (f : Addr) (fd : FuncData) (ps : List Str), FnOk P w K mg base CX0 k f fd ps sp ∧ mg x = some (.ref f) ∧ PySem.W.keepIn K (.ref f) = true ∧ KRev K fd ps ks
section
variable {X : Cx} {j k : Nat} {x : Str} {ks : List Str} {sp : Sp}
theorem pe_ck0 {p pos : Pos} {kws : List Keyword} {tk : TA} (c : CalK X.prog X.w X.K X.mg X.base k x ks sp) (hr : Room j X.A) (hk : k ≤ j) (hgl : Gl X x) (hkw : PK X kws tk) (hdb : (x == ("__debug__" : Str)) = false := by decide)
    (hall : (backToKw pos (keywordEach kws X.env)).all (·.1.isSome) = true := by rfl) (hks : (backToKw pos (keywordEach kws X.env)).filterMap (·.1) = ks := by rfl)
    (hpl : ((backTo pos (starEach [] X.env)).any (·.1) || (backToKw pos (keywordEach kws X.env)).any (·.1.isNone)) = false := by rfl) : PE X (.Call (.Name x p) [] kws pos) (tCallK sp gRV E0 tNil tk) := by
  obtain ⟨f, fd, ps, F, hm, kp, b⟩ := c.ex
  constructor
  intro pins s σ H Q I h
  refine wpAny_Call_Name_kw (ld_glob I hgl hm ?_ hdb)
  refine PySem.W.callWith_KW0 (h₀ := X.base) I.ok.mod.kin kp hall ?_ hpl
  refine thn (hkw.run pos pins s σ H _ I h) ?_
  rintro ws s2 ⟨zs, H2, I2, rz, q2⟩
  rw [hks]
  have r3 := rz.reverse
  have l3 : zs.reverse.length = ps.length := F.len _ _ _ _ q2
  refine ⟨I2.kIn, wpAny_call (codeAny_mono (F.run X.A X.stack s2 H2 ⟨[], ks.zip ws⟩ ws.reverse zs.reverse Q E0 (hr.mono hk) I2.env0 (b s2 ws I2.kIn (by rw [← l3, List.length_reverse, rz.length])) r3 q2) ?_)⟩
  rintro (e | fl) s' hq
  · exact pass0 (X := X) pins σ H2 s2 e s' I2 hq
  · match fl, hq with
    | .ret u, hq => exact I2.after hq
    | .next, hq => exact hq.elim
    | .brk, hq => exact hq.elim
    | .cont, hq => exact hq.elim
end
section
variable {Γ : List En} {es : List D} {z : D} {R : D → List En → Prop}
theorem ep_callR {C : Cn} {tk : TA} (ha : EaP tk Γ es) (hc : C (es.reverse.map .sh) R) (hR : ∀ e Γ', R e Γ' → e = z) : EvP (tCallK (spE C) gRV E0 tNil tk) Γ z := fun c F H σ G Q k => ha c F H σ G _ fun vs F1 H1 S1 r1 => by
  refine ⟨_, F1, _, R, good_args S1.fh r1.reverse, argOk_sh _, hc, fun v d Γ' F' H' hr G' x r => ?_⟩
  have e := hR d Γ' hr
  subst e
  exact k v F' H' (S1.trans ⟨x, fun a o q => G'.hh a o q (fun ⟨_, z⟩ => by cases z), G'.fh, G'.nw⟩) r
end
end DL
set_option Elab.async false
set_option linter.all false
set_option maxRecDepth 100000
set_option autoImplicit false
set_option maxHeartbeats 4000000
/-! G5: a def that gives back a list of its own making (loose, so the caller may change it). -/
namespace DL
open PySem PySem.Spec PyProof.Rows L2
/-- te is a new loose list, of which Rl holds -/
def EvFR (te : TE) (Γ : List En) (Rl : List D → Prop) : Prop := ∀ c F H σ, Good c F H σ Γ → ∀ Q : VK, (∀ a xs ds F' H', Rl ds → Stp F H F' H' → H a = none → F' a = none → H' a = some (.lst xs) → Reps F' ds xs → Q (.ref a) H') → te σ H Q
theorem EvF.r {te : TE} {Γ : List En} {ds : List D} {Rl : List D → Prop} (h : EvF te Γ ds) (r : Rl ds) : EvFR te Γ Rl := fun c F H σ G Q k => h c F H σ G Q fun a xs F' H' S n f e q => k a xs ds F' H' r S n f e q
abbrev CnF := List D → (List D → Prop) → Prop
def spF (C : CnF) : Sp := fun vs H Q _ => ∃ (F : Hp) (es : List D) (Rl : List D → Prop), Ex F H ∧ Reps F es vs ∧ C es Rl ∧ ∀ a xs ds F' H', Rl ds → Stp F H F' H' → H a = none → F' a = none → H' a = some (.lst xs) → Reps F' ds xs → Q (.ref a) H'
theorem ef_callF {C : CnF} {ta : TA} {Γ : List En} {es : List D} {Rl : List D → Prop} {E : XK} (ha : EaP ta Γ es) (hc : C es Rl) : EvFR (tCall (spF C) [] E ta) Γ Rl := fun c F H σ G Q k => ha c F H σ G _ fun vs F1 H1 S1 r1 => by
  show spF C (vs ++ []) H1 Q E
  rw [List.append_nil]
  refine ⟨F1, es, Rl, S1.fh, r1, hc, fun a xs ds F' H' r S n f e q => k a xs ds F' H' r (S1.trans S) ?_ f e q⟩
  cases z : H a with
  | none => rfl
  | some o => rw [S1.h _ _ z] at n; cases n
theorem q_asgFR {te : TE} {Γ : List En} {Rl : List D → Prop} {i : Nat} {u : TS} {P : Po} (h : EvFR te Γ Rl) (k : ∀ ds, Rl ds → SW u (Γ.set i (.own ds)) P) : SW (tSeq (tAsg te (gName i)) u) Γ P := by
  refine sw_seq (fun Γ' => ∃ ds, Rl ds ∧ Γ' = Γ.set i (.own ds)) ?_ (fun Γ' ⟨ds, r, e⟩ => e ▸ k ds r)
  intro c F H σ G D a b e f
  exact h c F H σ G _ fun p xs ds F' H' r S n nf eq q => a _ F' H' _ ⟨ds, r, rfl⟩ ((G.step S).setOwn (G.noSlot n) nf eq q (G.fresh n)) S.f
section
variable {P : Program} {w : World} {K : PySem.W.Frag} {mg : Str → Option Value} {base : Heap} {x qual : Str} {params : Arguments} {body : List Stmt} {scope : Scope} {f : Addr} {fd : FuncData} {N ps : List Str} {k : Nat} {C : CnF}
/-- a def whose last statement returns such a list -/
theorem fn_okF (F : FunD K x qual params body scope [] [] f fd) (S : FnScope N ps scope) (hlen : ∀ es Rl, C es Rl → es.length = ps.length)
    (hb : ∀ (cdv : Value) (A : Around) (out : List Env) (s : Shared) (H : Hp) (E : XK), Room k (A.deeper (envOfC qual scope s.heap.objs.size f cdv)) →
      ∃ t te, PSs (cxOf CX0 P w K mg base N qual scope f cdv A out s H E).nox body (tSeq t (tRet te)) ∧
        ∀ es Rl, C es Rl → ∃ M : List En → Prop, SW t (es.map En.sh ++ List.replicate (N.length - ps.length) .un) ⟨M, fun _ _ => False, fun _ => False, fun _ => False⟩ ∧ ∀ Γ', M Γ' → EvFR te Γ' Rl) :
    FnOk P w K mg base CX0 (k + 1) f fd ps (spF C) := by
  have ln : ∀ vs H Q E, spF C vs H Q E → vs.length = ps.length := fun vs H Q E ⟨F, es, Rl, x0, rs, hC, q⟩ => by rw [rs.length]; exact hlen _ _ hC
  refine F.ok S ln fun cdv A out s H vs Q E hr h => ?_
  obtain ⟨t, te, h1, h2⟩ := hb cdv A out s H E hr
  refine ⟨_, PSs.nox h1, ?_⟩
  have lv := ln vs H Q E h
  obtain ⟨F0, es, Rl, x0, rs, hC, q⟩ := h
  obtain ⟨M, h3, h4⟩ := h2 es Rl hC
  have G := (good_args x0 rs).start (N.length - ps.length)
  show tSeq t (tRet te) _ (vs.map some ++ List.replicate (N.length - vs.length) none) H
  rw [lv]
  refine h3 _ F0 H _ G _ (fun Γ' F' H' σ' m G' xx => ?_) (fun _ _ _ _ _ _ z => z.elim) (fun _ _ _ _ z => z.elim) (fun _ _ _ _ z => z.elim)
  have S1 : Stp F0 H F' H' := ⟨xx, fun a o e => G'.hh a o e fun ⟨_, z⟩ => (nomatch z), G'.fh, G'.nw⟩
  refine h4 Γ' m _ F' H' σ' G' _ fun a xs ds F2 H2 r S2 n f e rr => q a xs ds F2 H2 r (S1.trans S2) ?_ f e rr
  cases z : H a with
  | none => rfl
  | some o => rw [S1.h _ _ z] at n; cases n
end
end DL
set_option Elab.async false
set_option linter.all false
set_option maxRecDepth 100000
set_option autoImplicit false
set_option maxHeartbeats 4000000
/-! Y1: lists of a caller that a def changes in place, lent down through defs (no slot holds them but as a reference): for any such state S. -/
namespace DL
open PySem PySem.Spec PyProof.Rows L2
/-- a state of type S, kept at some addresses -/
structure Cl (S : Type) where
  hd : Addr
  ads : Addr → Prop
  at_ : Hp → S → Prop
  hh : ads hd
  loc : ∀ H H' s, (∀ a, ads a → H a = H' a) → at_ H s → at_ H' s
  has : ∀ H s a, at_ H s → ads a → ∃ o, H a = some o
variable {S : Type}
structure GY (z : Cl S) (c : Ct) (F H : Hp) (σ : L2.St) (Γ : List En) (k : S) : Prop where
  g : Good c F H σ Γ
  ns : ∀ a, z.ads a → NoSlot σ Γ a
  f : ∀ a, z.ads a → F a = none
  l : ∀ a, z.ads a → c.L a ∨ c.H0 a = none
  at_ : z.at_ H k
theorem noSlot_nm {σ : L2.St} {Γ : List En} {p : Addr} (nm : ∀ (j : Nat) (e : En), Γ[j]? = some e → e.mut = false) : NoSlot σ Γ p := fun j e he m => by rw [nm j e he] at m; cases m
theorem NoSlot.ySh {σ : L2.St} {Γ : List En} {p : Addr} {i : Nat} {v : Option V} {d : D} (N : NoSlot σ Γ p) : NoSlot (σ.set i v) (Γ.set i (.sh d)) p := fun j e he m q => by
  by_cases z : i = j
  · subst z
    rw [List.getElem?_set] at he
    rw [if_pos rfl] at he
    split at he
    · cases he; cases m
    · cases he
  · rw [List.getElem?_set_ne z] at he q
    exact N j e he m q
theorem NoSlot.yUn {σ : L2.St} {Γ : List En} {i : Nat} {q : Addr} {v : Option V} (N : NoSlot σ Γ q) : NoSlot (σ.set i v) (Γ.set i .un) q := fun j e he m w => by
  by_cases z : i = j
  · subst z
    rw [List.getElem?_set] at he
    rw [if_pos rfl] at he
    split at he
    · cases he; cases m
    · cases he
  · rw [List.getElem?_set_ne z] at he w
    exact N j e he m w
theorem NoSlot.yOwn {σ : L2.St} {Γ : List En} {i : Nat} {p q : Addr} {ds : List D} (N : NoSlot σ Γ p) (n : q ≠ p) : NoSlot (σ.set i (some (.ref q))) (Γ.set i (.own ds)) p := fun j e he m w => by
  by_cases z : i = j
  · subst z
    rw [List.getElem?_set] at w
    rw [if_pos rfl] at w
    split at w
    · exact n (by injection w with w; injection w with w; injection w)
    · cases w
  · rw [List.getElem?_set_ne z] at he w
    exact N j e he m w
theorem NoSlot.yPt {σ : L2.St} {Γ : List En} {i : Nat} {p : Addr} {ds : List D} (N : NoSlot σ Γ p) (h : Mt Γ i ds) (es : List D) : NoSlot σ (DL.pt Γ i es) p := fun j e he m w => by
  unfold DL.pt at he
  by_cases z : i = j
  · subst z
    rcases h with h | h
    · exact N i _ h rfl w
    · exact N i _ h rfl w
  · rw [List.getElem?_set_ne z] at he
    exact N j e he m w
theorem NoSlot.yWip {σ : L2.St} {Γ : List En} {p : Addr} {vs : List Nat} (N : NoSlot σ Γ p) : NoSlot (wipe σ vs) Γ p := fun j e he m q => by
  rw [wipe_at] at q
  by_cases z : j ∈ vs
  · rw [if_pos z] at q
    cases w : σ[j]? with
    | none => rw [w] at q; cases q
    | some u => rw [w] at q; cases q
  · rw [if_neg z] at q; exact N j e he m q
/-- what no slot holds and nobody froze is written -/
theorem Good.yWr {c : Ct} {F H : Hp} {σ : L2.St} {Γ : List En} {o : HO} {p : Addr} (G : Good c F H σ Γ) (n : NoSlot σ Γ p) (f : F p = none) (l : c.L p ∨ c.H0 p = none) : Good c F (upd H p o) σ Γ where
  ff := G.ff
  fh := fun q u z => by
    have nq : q ≠ p := fun w => by subst w; rw [f] at z; cases z
    rw [upd_ne nq]; exact G.fh _ _ z
  hh := fun q u z m => by
    have nq : q ≠ p := fun w => by
      subst w
      rcases l with l | l
      · exact m l
      · rw [l] at z; cases z
    rw [upd_ne nq]; exact G.hh _ _ z m
  li := fun q m => by
    by_cases w : q = p
    · subst w; exact ⟨_, upd_same⟩
    · rw [upd_ne w]; exact G.li q m
  nw := G.nw
  len := G.len
  en := fun i en he => by
    obtain ⟨v, h1, h2⟩ := G.en i en he
    refine ⟨v, h1, ?_⟩
    cases en with
    | un => trivial
    | sh d => exact h2
    | own ds =>
      obtain ⟨q, xs, e1, e2, e3, e4⟩ := h2
      have nq : q ≠ p := fun w => by subst w; exact n i _ he rfl (by rw [h1, e1])
      exact ⟨q, xs, e1, e2, by rw [upd_ne nq]; exact e3, e4⟩
    | lent ds =>
      obtain ⟨q, xs, e1, e2, e3, e4⟩ := h2
      have nq : q ≠ p := fun w => by subst w; exact n i _ he rfl (by rw [h1, e1])
      exact ⟨q, xs, e1, e2, by rw [upd_ne nq]; exact e3, e4⟩
  dj := G.dj
theorem Stp.no {F H F' H' : Hp} {p : Addr} {o : HO} (S : Stp F H F' H') (f : F p = none) (h : H p = some o) : F' p = none := by
  cases q : F' p with
  | none => rfl
  | some u =>
    rcases S.nw p (by rw [q]; exact Option.some_ne_none _) with z | z
    · exact absurd f z
    · rw [h] at z; cases z
section
variable {z : Cl S} {c : Ct} {F H F' H' : Hp} {σ : L2.St} {Γ Γ' : List En} {k k' : S} {p : Addr} {o : HO}
theorem GY.hs (G : GY z c F H σ Γ k) {a : Addr} (h : z.ads a) : ∃ o, H a = some o := z.has H k a G.at_ h
theorem GY.new (G : GY z c F H σ Γ k) (h : H p = none) : ¬ z.ads p := fun m => by
  obtain ⟨o, e⟩ := G.hs m
  rw [h] at e; cases e
theorem GY.step (G : GY z c F H σ Γ k) (S : Stp F H F' H') : GY z c F' H' σ Γ k :=
  ⟨G.g.step S, G.ns, fun a m => by
    obtain ⟨o, e⟩ := G.hs m
    exact S.no (G.f a m) e, G.l, z.loc H H' k (fun a m => by
    obtain ⟨o, e⟩ := G.hs m
    rw [e, S.h _ _ e]) G.at_⟩
theorem GY.setSh {i : Nat} {d : D} {v : V} (G : GY z c F H σ Γ k) (r : Rep F d v) : GY z c F H (σ.set i (some v)) (Γ.set i (.sh d)) k :=
  ⟨G.g.setSh r, fun a m => (G.ns a m).ySh, G.f, G.l, G.at_⟩
theorem GY.setUn {i : Nat} {v : Option V} (G : GY z c F H σ Γ k) : GY z c F H (σ.set i v) (Γ.set i .un) k := ⟨G.g.setUn, fun a m => (G.ns a m).yUn, G.f, G.l, G.at_⟩
theorem GY.forget {i : Nat} (G : GY z c F H σ Γ k) : GY z c F H σ (Γ.set i .un) k := by
  have e : σ.set i (σ[i]?.getD none) = σ := by
    apply List.ext_getElem?
    intro j
    by_cases z : i = j
    · subst z
      rw [List.getElem?_set]
      rw [if_pos rfl]
      split
      · next h => rw [List.getElem?_eq_getElem h]; rfl
      · next h => rw [List.getElem?_eq_none (by omega)]
    · rw [List.getElem?_set_ne z]
  have G1 := G.setUn (i := i) (v := σ[i]?.getD none)
  rwa [e] at G1
/-- behind a call that was lent the state -/
structure StY (z : Cl S) (F H F' H' : Hp) : Prop where
  f : Ex F F'
  fh : Ex F' H'
  keep : ∀ p o, ¬ z.ads p → H p = some o → H' p = some o
  fa : ∀ a, z.ads a → F' a = none
  nw : ∀ p, F' p ≠ none → F p ≠ none ∨ H p = none
theorem GY.call (G : GY z c F H σ Γ k) (S : StY z F H F' H') (h : z.at_ H' k') : GY z c F' H' σ Γ k' := by
  classical
  have kp : ∀ {p : Addr} {o : HO}, H p = some o → F p = none → F' p = none := fun {p o} e f => by
    cases q : F' p with
    | none => rfl
    | some u =>
      rcases S.nw p (by rw [q]; exact Option.some_ne_none _) with y | y
      · exact absurd f y
      · rw [e] at y; cases y
  refine ⟨⟨G.g.ff.trans S.f, S.fh, fun p o e l => ?_, fun p l => ?_, fun p e => ?_, G.g.len, fun i e he => ?_, G.g.dj⟩, G.ns, S.fa, G.l, h⟩
  · have n : ¬ z.ads p := fun m => by
      rcases G.l p m with y | y
      · exact l y
      · rw [y] at e; cases e
    exact S.keep p o n (G.g.hh p o e l)
  · by_cases m : z.ads p
    · exact z.has H' k' p h m
    · obtain ⟨o, e⟩ := G.g.li p l
      exact ⟨o, S.keep p o m e⟩
  · rcases S.nw p e with y | y
    · exact G.g.nw p y
    · exact .inr (G.g.fresh y)
  · obtain ⟨v, h1, h2⟩ := G.g.en i e he
    refine ⟨v, h1, ?_⟩
    cases e with
    | un => trivial
    | sh d => obtain ⟨w, e1, r⟩ := h2; exact ⟨w, e1, r.mono S.f⟩
    | own ds =>
      obtain ⟨q, xs, e1, e2, e3, e4, e5⟩ := h2
      have n : ¬ z.ads q := fun m => G.ns q m i _ he rfl (by rw [h1, e1])
      exact ⟨q, xs, e1, kp e3 e2, S.keep q _ n e3, e4.mono S.f, e5⟩
    | lent ds =>
      obtain ⟨q, xs, e1, e2, e3, e4, e5⟩ := h2
      have n : ¬ z.ads q := fun m => G.ns q m i _ he rfl (by rw [h1, e1])
      exact ⟨q, xs, e1, kp e3 e2, S.keep q _ n e3, e4.mono S.f, e5⟩
/-- the state is written (at one address) -/
theorem GY.wr (G : GY z c F H σ Γ k) (m : z.ads p) (h : z.at_ (upd H p o) k') : GY z c F (upd H p o) σ Γ k' := ⟨G.g.yWr (G.ns p m) (G.f p m) (G.l p m), G.ns, G.f, G.l, h⟩
end
/-- te gives some d and changes the state, as R says -/
def EvY (z : Cl S) (te : TE) (Γ : List En) (k : S) (R : D → S → Prop) : Prop := ∀ c F H σ, GY z c F H σ Γ k → ∀ Q : VK, (∀ v d k' F' H', R d k' → GY z c F' H' σ Γ k' → Ex F F' → Rep F' d v → Q v H') → te σ H Q
structure PoY (S : Type) where
  nx : List En → S → Prop
  rt : D → List En → S → Prop
def SY (z : Cl S) (t : TS) (Γ : List En) (k : S) (P : PoY S) : Prop := ∀ c F H σ, GY z c F H σ Γ k → ∀ E : Ends, (∀ Γ' k' F' H' σ', P.nx Γ' k' → GY z c F' H' σ' Γ' k' → Ex F F' → E.nx σ' H') →
  (∀ v d Γ' k' F' H' σ', P.rt d Γ' k' → GY z c F' H' σ' Γ' k' → Ex F F' → Rep F' d v → E.rt v H') → t E σ H
abbrev CnY (S : Type) := S → List D → (D → S → Prop) → Prop
/-- a promise of a def that is lent such a state (of a kind) -/
def spY (Kd : Cl S → Prop) (C : CnY S) : Sp := fun vs H Q _ => ∃ (z : Cl S) (F : Hp) (k : S) (es : List D) (ws : List V) (R : D → S → Prop), Kd z ∧ vs = .ref z.hd :: ws ∧ Ex F H ∧ (∀ a, z.ads a → F a = none) ∧ z.at_ H k ∧ Reps F es ws ∧ C k es R ∧
  ∀ v d k' F' H', R d k' → StY z F H F' H' → z.at_ H' k' → Rep F' d v → Q v H'
def EaY (z : Cl S) (ta : TA) (Γ : List En) (k : S) (R : List D → S → Prop) : Prop := ∀ c F H σ, GY z c F H σ Γ k → ∀ Q : List V → Hp → Prop, (∀ vs ds k' F' H', R ds k' → GY z c F' H' σ Γ k' → Ex F F' → Reps F' ds vs → Q vs H') → ta σ H Q
def EtY (z : Cl S) (tt : TT) (Γ : List En) (k : S) (R : Bool → S → Prop) : Prop := ∀ c F H σ, GY z c F H σ Γ k → ∀ Q : Bool → Hp → Prop, (∀ v k' F' H', R v k' → GY z c F' H' σ Γ k' → Ex F F' → Q v H') → tt σ H Q
section
variable {K : PySem.W.Frag} {z : Cl S} {Kd : Cl S → Prop} {Γ Γ' : List En} {k k' : S} {te ta tb tu tv : TE} {tt tu' : TT} {t u : TS} {d x y : D} {ds es : List D} {R R1 : D → S → Prop} {P : PoY S} {i j : Nat} {wi : TI} {g : TG}
theorem ey_p (h : EvP te Γ d) (hR : R d k) : EvY z te Γ k R := fun c F H σ G Q q => h c F H σ G.g Q fun v F' H' S r => q v d k F' H' hR (G.step S) S.f r
theorem EvY.imp (h : EvY z te Γ k R1) (q : ∀ d k', R1 d k' → R d k') : EvY z te Γ k R := fun c F H σ G Q w => h c F H σ G Q fun v d k' F' H' hr => w v d k' F' H' (q d k' hr)
theorem ey_op {r : L2.R2} (ha : EvY z ta Γ k R1) (hb : ∀ x k', R1 x k' → EvY z tb Γ k' fun y k'' => ∃ w, RD r x y w ∧ R w k'') : EvY z (tOp r ta tb) Γ k R := fun c F H σ G Q q =>
  ha c F H σ G _ fun v x k1 F1 H1 hx G1 x1 r1 => hb x k1 hx c F1 H1 σ G1 _ fun w y k2 F2 H2 ⟨e, hz, hR⟩ G2 x2 r2 =>
    hz F2 H2 v w G2.g.fh (r1.mono x2) r2 Q fun u F3 H3 S3 r3 => q u e k2 F3 H3 hR (G2.step S3) (x1.trans (x2.trans S3.f)) r3
theorem ey_opP {r : L2.R2} (ha : EvP ta Γ x) (hb : EvY z tb Γ k fun y k'' => ∃ w, RD r x y w ∧ R w k'') : EvY z (tOp r ta tb) Γ k R := ey_op (R1 := fun e k' => e = x ∧ k' = k) (ey_p ha ⟨rfl, rfl⟩) fun e k' ⟨h1, h2⟩ => by subst h1 h2; exact hb
theorem ey_opL {r : L2.R2} (ha : EvY z ta Γ k R1) (hb : ∀ x k', R1 x k' → ∃ y w, EvP tb Γ y ∧ RD r x y w ∧ R w k') : EvY z (tOp r ta tb) Γ k R := ey_op ha fun x k' h => by
  obtain ⟨y, w, h1, h2, h3⟩ := hb x k' h
  exact ey_p h1 ⟨w, h2, h3⟩
theorem eay_nil {R : List D → S → Prop} (h : R [] k) : EaY z tNil Γ k R := fun c F H σ G Q q => q [] [] k F H h G (Ex.refl F) rfl
theorem eay_cons {tr : TA} {R : List D → S → Prop} (ha : EvY z ta Γ k R1) (hr : ∀ x k', R1 x k' → EaY z tr Γ k' fun ds k'' => R (x :: ds) k'') : EaY z (tCons ta tr) Γ k R := fun c F H σ G Q q =>
  ha c F H σ G _ fun v x k1 F1 H1 hx G1 x1 r1 => hr x k1 hx c F1 H1 σ G1 _ fun vs ds k2 F2 H2 hR G2 x2 r2 => q (v :: vs) (x :: ds) k2 F2 H2 hR G2 (x1.trans x2) ⟨v, vs, rfl, r1.mono x2, r2⟩
/-- a pure argument in front -/
theorem eay_consP {tr : TA} {R : List D → S → Prop} (ha : EvP ta Γ x) (hr : EaY z tr Γ k fun ds k'' => R (x :: ds) k'') : EaY z (tCons ta tr) Γ k R := eay_cons (R1 := fun d k' => d = x ∧ k' = k) (ey_p ha ⟨rfl, rfl⟩) fun e k' ⟨e1, e2⟩ => by subst e1 e2; exact hr
theorem eay_p {ta : TA} {R : List D → S → Prop} (h : EaP ta Γ es) (hR : R es k) : EaY z ta Γ k R := fun c F H σ G Q q => h c F H σ G.g Q fun vs F' H' S r => q vs es k F' H' hR (G.step S) S.f r
theorem ey_tup {ta : TA} {R' : List D → S → Prop} (h : EaY z ta Γ k R') (hR : ∀ ds k', R' ds k' → ds.length ≤ sizeLine ∧ R (.tup ds) k') : EvY z (tTup ta) Γ k R := fun c F H σ G Q q => h c F H σ G _ fun vs ds k1 F1 H1 hr G1 x1 r1 => by
  obtain ⟨hl, hR'⟩ := hR ds k1 hr
  refine ⟨by rw [r1.length]; exact hl, fun p hp => ?_⟩
  have S := Stp.new G1.g.fh (.tup vs) hp
  exact q (.ref p) _ k1 _ _ hR' (G1.step S) (x1.trans S.f) ⟨p, vs, rfl, upd_same, r1.mono S.f⟩
theorem ey_lst {ta : TA} {R' : List D → S → Prop} (h : EaY z ta Γ k R') (hR : ∀ ds k', R' ds k' → ds.length ≤ sizeLine ∧ R (.lst ds) k') : EvY z (tLst ta) Γ k R := fun c F H σ G Q q => h c F H σ G _ fun vs ds k1 F1 H1 hr G1 x1 r1 => by
  obtain ⟨hl, hR'⟩ := hR ds k1 hr
  refine ⟨by rw [r1.length]; exact hl, fun p hp => ?_⟩
  have S := Stp.new G1.g.fh (.lst vs) hp
  exact q (.ref p) _ k1 _ _ hR' (G1.step S) (x1.trans S.f) ⟨p, vs, rfl, upd_same, r1.mono S.f⟩
/-- a call that is lent the state; its other arguments may change it -/
theorem ey_callA {C : CnY S} {ta : TA} {R1 : List D → S → Prop} (hk : Kd z) (hi : Γ[i]? = some (.sh (.ref z.hd))) (ha : EaY z ta Γ k R1) (hc : ∀ es k', R1 es k' → ∃ R2 : D → S → Prop, C k' es R2 ∧ ∀ d k2, R2 d k2 → R d k2) : EvY z (tCall (spY Kd C) [] E0 (tCons (tVar i) ta)) Γ k R := fun c F H σ G Q q => by
  obtain ⟨v0, e0, r0⟩ := G.g.sh hi
  have r0' : v0 = .ref z.hd := r0
  subst r0'
  refine ⟨_, e0, ha c F H σ G _ fun vs es k1 F1 H1 hx G1 x1 r1 => ?_⟩
  show spY Kd C ((.ref z.hd :: vs) ++ []) H1 Q E0
  rw [List.append_nil]
  obtain ⟨R2, hC, hR⟩ := hc es k1 hx
  exact ⟨z, F1, k1, es, vs, R2, hk, rfl, G1.g.fh, G1.f, G1.at_, r1, hC, fun v d k' F' H' hr S h r => q v d k' F' H' (hR d k' hr) (G1.call S h) (x1.trans S.f) r⟩
theorem ey_call {C : CnY S} {ta : TA} (hk : Kd z) (hi : Γ[i]? = some (.sh (.ref z.hd))) (ha : EaP ta Γ es) (hc : C k es R) : EvY z (tCall (spY Kd C) [] E0 (tCons (tVar i) ta)) Γ k R := ey_callA (R1 := fun ds k' => ds = es ∧ k' = k) hk hi (eay_p ha ⟨rfl, rfl⟩) fun ds k' ⟨e1, e2⟩ => by subst e1 e2; exact ⟨R, hc, fun d k2 h => h⟩
/-- a call of a pure def, its arguments change the state -/
theorem ey_callPA {C : Cn} {ta : TA} {R1 : List D → S → Prop} (ha : EaY z ta Γ k R1) (hc : ∀ es k', R1 es k' → ∃ R'', C (es.map .sh) R'' ∧ ∀ e G, R'' e G → R e k') : EvY z (tCall (spE C) [] E0 ta) Γ k R := fun c F H σ G Q q =>
  ha c F H σ G _ fun vs es k1 F1 H1 hx G1 x1 r1 => by
    obtain ⟨R'', hC, hR⟩ := hc es k1 hx
    show spE C (vs ++ []) H1 Q E0
    rw [List.append_nil]
    refine ⟨_, F1, _, R'', good_args G1.g.fh r1, argOk_sh es, hC, fun w e G' F' H' hr Gz x' r => ?_⟩
    have S2 : Stp F1 H1 F' H' := ⟨x', fun p o z => Gz.hh p o z (fun ⟨_, z⟩ => by cases z), Gz.fh, Gz.nw⟩
    exact q w e k1 F' H' (hR e G' hr) (G1.step S2) (x1.trans S2.f) r
/-- a pure expression with more than one answer -/
theorem ey_w (h : ∀ c F H σ, Good c F H σ Γ → ∀ Q : VK, (∀ v d F' H', R d k → Stp F H F' H' → Rep F' d v → Q v H') → te σ H Q) : EvY z te Γ k R := fun c F H σ G Q q => h c F H σ G.g Q fun v d F' H' hr S r => q v d k F' H' hr (G.step S) S.f r
theorem ey_if {Rt : Bool → S → Prop} (ht : EtY z tt Γ k Rt) (h1 : ∀ k', Rt true k' → EvY z ta Γ k' R) (h2 : ∀ k', Rt false k' → EvY z tb Γ k' R) : EvY z (tIf tt ta tb) Γ k R := fun c F H σ G Q q => ht c F H σ G _ fun v k1 F1 H1 hv G1 x1 => by
  cases v with
  | true => rw [if_pos rfl]; exact h1 k1 hv c F1 H1 σ G1 Q fun w d k2 F2 H2 hr G2 x2 => q w d k2 F2 H2 hr G2 (x1.trans x2)
  | false => rw [if_neg Bool.false_ne_true]; exact h2 k1 hv c F1 H1 σ G1 Q fun w d k2 F2 H2 hr G2 x2 => q w d k2 F2 H2 hr G2 (x1.trans x2)
theorem ey_ifP {b : Bool} (ht : EtP tt Γ b) (h1 : b = true → EvY z ta Γ k R) (h2 : b = false → EvY z tb Γ k R) : EvY z (tIf tt ta tb) Γ k R := fun c F H σ G Q q => ht c F H σ G.g _ fun F1 H1 S1 => by
  cases b with
  | true => rw [if_pos rfl]; exact h1 rfl c F1 H1 σ (G.step S1) Q fun w d k2 F2 H2 hr G2 x2 => q w d k2 F2 H2 hr G2 (S1.f.trans x2)
  | false => rw [if_neg Bool.false_ne_true]; exact h2 rfl c F1 H1 σ (G.step S1) Q fun w d k2 F2 H2 hr G2 x2 => q w d k2 F2 H2 hr G2 (S1.f.trans x2)
theorem ey_cb {r : List V → Hp → VK → Prop} {tr : TA} {R' : List D → S → Prop} (ha : EaY z tr Γ k R') (hr : ∀ ds k', R' ds k' → ∃ w, RC r ds w ∧ R w k') : EvY z (tCB r tr) Γ k R := fun c F H σ G Q q => ha c F H σ G _ fun vs ds k1 F1 H1 hd G1 x1 r1 => by
  obtain ⟨w, hz, hR⟩ := hr ds k1 hd
  exact hz F1 H1 vs G1.g.fh r1 Q fun v F2 H2 S2 r2 => q v w k1 F2 H2 hR (G1.step S2) (x1.trans S2.f) r2
theorem ey_slTo {w : Str} (he : EvP te Γ (.str w)) (hl : w.length ≤ sizeLine) (hu : EvY z tu Γ k R1) (hR : ∀ x k', R1 x k' → ∃ n : Int, x = .int n ∧ R (.str (cutS w none (some n))) k') : EvY z (tSl rSlS te tNoPart (tPart tu)) Γ k R := fun c F H σ G Q q =>
  he c F H σ G.g _ fun v F1 H1 S1 r1 => hu c F1 H1 σ (G.step S1) _ fun w' x k2 F2 H2 hx G2 x2 r2 => by
    obtain ⟨n, rfl, hr⟩ := hR x k2 hx
    have e1 : w' = .int n := r2
    have e2 : v = .str w := r1
    subst e1 e2
    exact ⟨n, rfl, w, rfl, hl, q _ _ k2 F2 H2 hr G2 (S1.f.trans x2) rfl⟩
/-! ### tests -/
theorem ety_p {v : Bool} {R : Bool → S → Prop} (h : EtP tt Γ v) (hr : R v k) : EtY z tt Γ k R := fun c F H σ G Q q => h c F H σ G.g Q fun F' H' S => q v k F' H' hr (G.step S) S.f
theorem ety_test {R : Bool → S → Prop} (h : EvY z te Γ k R1) (hr : ∀ d k', R1 d k' → ∃ v, d = .bl v ∧ R v k') : EtY z (tTest te) Γ k R := fun c F H σ G Q q => h c F H σ G _ fun w d k' F' H' hd G' x r => by
  obtain ⟨v, rfl, hv⟩ := hr d k' hd
  exact ⟨v, r, q v k' F' H' hv G' x⟩
theorem ety_B {R : Bool → S → Prop} (h : EvY z te Γ k R1) (hr : ∀ d k', R1 d k' → ∃ v, d = .bl v ∧ R v k') : EtY z (tB te) Γ k R := fun c F H σ G Q q => h c F H σ G _ fun w d k' F' H' hd G' x r => by
  obtain ⟨v, rfl, hv⟩ := hr d k' hd
  exact ⟨v, r, q v k' F' H' hv G' x⟩
theorem ety_not {R R' : Bool → S → Prop} (h : EtY z tt Γ k R') (hr : ∀ v k', R' v k' → R (!v) k') : EtY z (tNot tt) Γ k R := fun c F H σ G Q q => h c F H σ G _ fun v k' F' H' hv G' x => q _ k' F' H' (hr v k' hv) G' x
theorem ety_and {R R' : Bool → S → Prop} (h1 : EtY z tt Γ k R') (hf : ∀ k', R' false k' → R false k') (ht : ∀ k', R' true k' → EtY z tu' Γ k' R) : EtY z (tAnd tt tu') Γ k R := fun c F H σ G Q q => h1 c F H σ G _ fun v k' F' H' hv G' x => by
  cases v with
  | true => rw [if_pos rfl]; exact ht k' hv c F' H' σ G' Q fun w k2 F2 H2 hw G2 x2 => q w k2 F2 H2 hw G2 (x.trans x2)
  | false => rw [if_neg Bool.false_ne_true]; exact q false k' F' H' (hf k' hv) G' x
theorem ety_or {R R' : Bool → S → Prop} (h1 : EtY z tt Γ k R') (hf : ∀ k', R' true k' → R true k') (ht : ∀ k', R' false k' → EtY z tu' Γ k' R) : EtY z (tOr tt tu') Γ k R := fun c F H σ G Q q => h1 c F H σ G _ fun v k' F' H' hv G' x => by
  cases v with
  | true => rw [if_pos rfl]; exact q true k' F' H' (hf k' hv) G' x
  | false => rw [if_neg Bool.false_ne_true]; exact ht k' hv c F' H' σ G' Q fun w k2 F2 H2 hw G2 x2 => q w k2 F2 H2 hw G2 (x.trans x2)
/-! ### statements -/
theorem SY.seq {M : List En → S → Prop} (h1 : SY z t Γ k ⟨M, P.rt⟩) (h2 : ∀ Γ' k', M Γ' k' → SY z u Γ' k' P) : SY z (tSeq t u) Γ k P := fun c F H σ G E e1 e2 =>
  h1 c F H σ G _ (fun Γ' k' F' H' σ' m G' x => h2 Γ' k' m c F' H' σ' G' E (fun Γ2 k2 F2 H2 σ2 n G2 x2 => e1 Γ2 k2 F2 H2 σ2 n G2 (x.trans x2)) fun v d Γ2 k2 F2 H2 σ2 n G2 x2 r => e2 v d Γ2 k2 F2 H2 σ2 n G2 (x.trans x2) r) e2
theorem SY.imp {P' : PoY S} (h : SY z t Γ k P) (h1 : ∀ G k, P.nx G k → P'.nx G k) (h2 : ∀ d G k, P.rt d G k → P'.rt d G k) : SY z t Γ k P' := fun c F H σ G E e1 e2 => h c F H σ G E (fun Γ' k' F' H' σ' n => e1 Γ' k' F' H' σ' (h1 _ _ n)) fun v d Γ' k' F' H' σ' n => e2 v d Γ' k' F' H' σ' (h2 _ _ _ n)
theorem sy_asg (h : EvY z te Γ k R) (hn : ∀ d k', R d k' → P.nx (Γ.set j (.sh d)) k') : SY z (tAsg te (gName j)) Γ k P := fun c F H σ G E e1 e2 => h c F H σ G _ fun v d k' F' H' hr G' x r => e1 _ k' F' H' _ (hn d k' hr) (G'.setSh r) x
theorem qy_asg (h : EvY z te Γ k R) (hn : ∀ d k', R d k' → SY z u (Γ.set j (.sh d)) k' P) : SY z (tSeq (tAsg te (gName j)) u) Γ k P :=
  SY.seq (M := fun Γ' k' => ∃ d, R d k' ∧ Γ' = Γ.set j (.sh d)) (sy_asg h fun d k' hr => ⟨d, hr, rfl⟩) fun Γ' k' ⟨d, hr, e⟩ => by subst e; exact hn d k' hr
theorem qy_asgP (h : EvP te Γ d) (hn : SY z u (Γ.set j (.sh d)) k P) : SY z (tSeq (tAsg te (gName j)) u) Γ k P := qy_asg (R := fun e k' => e = d ∧ k' = k) (ey_p h ⟨rfl, rfl⟩) fun e k' ⟨e1, e2⟩ => by subst e1 e2; exact hn
theorem sy_ret (h : EvY z te Γ k R) (hr : ∀ d k', R d k' → P.rt d Γ k') : SY z (tRet te) Γ k P := fun c F H σ G E e1 e2 => h c F H σ G _ fun v d k' F' H' hR G' x r => e2 v d Γ k' F' H' σ (hr d k' hR) G' x r
theorem sy_retP (h : EvP te Γ d) (hr : P.rt d Γ k) : SY z (tRet te) Γ k P := sy_ret (R := fun e k' => e = d ∧ k' = k) (ey_p h ⟨rfl, rfl⟩) fun e k' ⟨e1, e2⟩ => by subst e1 e2; exact hr
theorem sy_next (h : P.nx Γ k) : SY z tNext Γ k P := fun c F H σ G E e1 e2 => e1 Γ k F H σ h G (Ex.refl F)
theorem sy_drop (h : EvY z te Γ k R) (hn : ∀ d k', R d k' → P.nx Γ k') : SY z (tDrop te) Γ k P := fun c F H σ G E e1 e2 => h c F H σ G _ fun v d k' F' H' hr G' x r => e1 Γ k' F' H' σ (hn d k' hr) G' x
theorem sy_if {v : Bool} (h : EtP tt Γ v) (h1 : v = true → SY z t Γ k P) (h2 : v = false → SY z u Γ k P) : SY z (tIfS tt t u) Γ k P := fun c F H σ G E e1 e2 => h c F H σ G.g _ fun F1 H1 S => by
  have w : ∀ {s : TS}, SY z s Γ k P → s E σ H1 := fun hs => hs c F1 H1 σ (G.step S) E (fun Γ2 k2 F2 H2 σ2 n G2 x2 => e1 Γ2 k2 F2 H2 σ2 n G2 (S.f.trans x2)) fun v d Γ2 k2 F2 H2 σ2 n G2 x2 r => e2 v d Γ2 k2 F2 H2 σ2 n G2 (S.f.trans x2) r
  cases v with
  | true => rw [if_pos rfl]; exact w (h1 rfl)
  | false => rw [if_neg Bool.false_ne_true]; exact w (h2 rfl)
theorem sy_ifY {R : Bool → S → Prop} (h : EtY z tt Γ k R) (h1 : ∀ k', R true k' → SY z t Γ k' P) (h2 : ∀ k', R false k' → SY z u Γ k' P) : SY z (tIfS tt t u) Γ k P := fun c F H σ G E e1 e2 => h c F H σ G _ fun v k1 F1 H1 hv G1 x1 => by
  have w : ∀ {s : TS}, SY z s Γ k1 P → s E σ H1 := fun hs => hs c F1 H1 σ G1 E (fun Γ2 k2 F2 H2 σ2 n G2 x2 => e1 Γ2 k2 F2 H2 σ2 n G2 (x1.trans x2)) fun v d Γ2 k2 F2 H2 σ2 n G2 x2 r => e2 v d Γ2 k2 F2 H2 σ2 n G2 (x1.trans x2) r
  cases v with
  | true => rw [if_pos rfl]; exact w (h1 k1 hv)
  | false => rw [if_neg Bool.false_ne_true]; exact w (h2 k1 hv)
theorem sy_guard {v : Bool} (h : EtP tt Γ v) (h1 : v = true → SY z t Γ k ⟨fun _ _ => False, P.rt⟩) (h2 : v = false → SY z u Γ k P) : SY z (tSeq (tIfS tt t tNext) u) Γ k P :=
  SY.seq (M := fun Γ' k' => v = false ∧ Γ' = Γ ∧ k' = k) (sy_if h (fun z => (h1 z).imp (fun _ _ z => z.elim) fun _ _ _ z => z) fun z => sy_next ⟨z, rfl, rfl⟩) fun Γ' k' ⟨e1, e2, e3⟩ => by subst e2 e3; exact h2 e1
theorem sy_guardY {R : Bool → S → Prop} (h : EtY z tt Γ k R) (h1 : ∀ k', R true k' → SY z t Γ k' ⟨fun _ _ => False, P.rt⟩) (h2 : ∀ k', R false k' → SY z u Γ k' P) : SY z (tSeq (tIfS tt t tNext) u) Γ k P :=
  SY.seq (M := fun Γ' k' => R false k' ∧ Γ' = Γ) (sy_ifY h (fun k' z => (h1 k' z).imp (fun _ _ z => z.elim) fun _ _ _ z => z) fun k' z => sy_next ⟨z, rfl⟩) fun Γ' k' ⟨e1, e2⟩ => by subst e2; exact h2 k' e1
theorem sy_asgT2 (h : EvP te Γ (.tup [x, y])) (hn : P.nx ((Γ.set i (.sh x)).set j (.sh y)) k) : SY z (tAsg te (gTup K 2 (gCons (gName i) (gCons (gName j) gNil)))) Γ k P := fun c F H σ G E e1 e2 => h c F H σ G.g _ fun v F1 H1 S1 r1 => by
  obtain ⟨p, xs, rfl, hp, u1, r1, rfl, h1, u2, r2, rfl, h2, rfl⟩ := r1
  have G1 := G.step S1
  exact ⟨p, [u1, u2], rfl, .inl (.inl (G1.g.exH hp)), rfl, u1, [u2], rfl, u2, [], rfl, rfl, e1 _ k F1 H1 _ hn ((G1.setSh h1).setSh h2) S1.f⟩
theorem qy_asgT2 (h : EvP te Γ (.tup [x, y])) (hn : SY z u ((Γ.set i (.sh x)).set j (.sh y)) k P) : SY z (tSeq (tAsg te (gTup K 2 (gCons (gName i) (gCons (gName j) gNil)))) u) Γ k P :=
  SY.seq (M := fun Γ' k' => Γ' = (Γ.set i (.sh x)).set j (.sh y) ∧ k' = k) (sy_asgT2 h ⟨rfl, rfl⟩) fun Γ' k' ⟨e1, e2⟩ => by subst e1 e2; exact hn
/-- x, y = e, f -/
theorem sy_par (ha : EvY z ta Γ k R1) (hb : ∀ x k', R1 x k' → EvY z tb Γ k' fun y k2 => P.nx ((Γ.set i (.sh x)).set j (.sh y)) k2) : SY z (tPar i j (tCons ta (tCons tb tNil))) Γ k P := fun c F H σ G E e1 e2 =>
  ha c F H σ G _ fun v x k1 F1 H1 hx G1 x1 r1 => hb x k1 hx c F1 H1 σ G1 _ fun u y k2 F2 H2 hn G2 x2 r2 => ⟨v, u, rfl, e1 _ k2 F2 H2 _ hn ((G2.setSh (r1.mono x2)).setSh r2) (x1.trans x2)⟩
theorem qy_parP (ha : EvP ta Γ x) (hb : EvP tb Γ y) (hn : SY z u ((Γ.set i (.sh x)).set j (.sh y)) k P) : SY z (tSeq (tPar i j (tCons ta (tCons tb tNil))) u) Γ k P :=
  SY.seq (M := fun Γ' k' => Γ' = (Γ.set i (.sh x)).set j (.sh y) ∧ k' = k) (sy_par (R1 := fun e k' => e = x ∧ k' = k) (ey_p ha ⟨rfl, rfl⟩) fun e k' ⟨e1, e2⟩ => by subst e1 e2; exact ey_p hb ⟨rfl, rfl⟩) fun Γ' k' ⟨e1, e2⟩ => by subst e1 e2; exact hn
theorem sy_while (I : Nat → List En → S → Prop) (m0 : Nat) (h0 : I m0 Γ k) (hs : ∀ m Γi ki, I m Γi ki → ∃ R, EtY z tt Γi ki R ∧ (∀ k2, R true k2 → SY z t Γi k2 ⟨fun Γ' k3 => ∃ m', m' < m ∧ I m' Γ' k3, P.rt⟩) ∧ (∀ k2, R false k2 → P.nx Γi k2)) :
    SY z (tWhile tt t) Γ k P := fun c F H σ G E e1 e2 => by
  refine ⟨fun m σ' H' => ∃ Γi k' F', I m Γi k' ∧ GY z c F' H' σ' Γi k' ∧ Ex F F', ⟨m0, Γ, k, F, h0, G, Ex.refl _⟩, ?_⟩
  rintro m σ1 H1 ⟨Γi, ki, F1, p, G1, x1⟩
  obtain ⟨R, ht, h1, h2⟩ := hs m Γi ki p
  refine ht c F1 H1 σ1 G1 _ fun v k2 F2 H2 hv G2 x2 => ?_
  cases v with
  | true =>
    rw [if_pos rfl]
    refine ⟨fun σ' H' => ∃ Γi k' F', (∃ m', m' < m ∧ I m' Γi k') ∧ GY z c F' H' σ' Γi k' ∧ Ex F F', fun σ' H' ⟨Γi, k', F', ⟨m', hm, q⟩, G', x⟩ => ⟨m', hm, Γi, k', F', q, G', x⟩, ?_⟩
    exact h1 k2 hv c F2 H2 σ1 G2 _ (fun Γ'' k3 F' H' σ' q G' x => ⟨Γ'', k3, F', q, G', (x1.trans x2).trans x⟩) (fun v d Γ'' k3 F' H' σ' q G' x r => e2 v d Γ'' k3 F' H' σ' q G' ((x1.trans x2).trans x) r)
  | false =>
    rw [if_neg Bool.false_ne_true]
    exact e1 Γi k2 F2 H2 σ1 (h2 k2 hv) G2 (x1.trans x2)
/-- what is walked, the state changed -/
def WiY (z : Cl S) (wi : TI) (Γ : List En) (k : S) (R : List D → S → Prop) : Prop := ∀ c F H σ, GY z c F H σ Γ k → ∀ Rr : It → Hp → Prop,
  (∀ J k' ds F' H' (Gd : Hp → Prop) (Y : Nat → Hp → V → Hp → Prop), R ds k' → GY z c F' H' σ Γ k' → Ex F F' → Walk J ds.length Gd Y → (∀ H2, Ex F' H2 → Gd H2) →
    (∀ i H1 v H2 F1, i < ds.length → Ex F' F1 → Ex F1 H1 → Y i H1 v H2 → ∃ F2 d, ds[i]? = some d ∧ Stp F1 H1 F2 H2 ∧ Rep F2 d v) → Rr J H') → wi σ H Rr
theorem wiy_p {Rl : List D → S → Prop} (h : WiP wi Γ ds) (hR : Rl ds k) : WiY z wi Γ k Rl := fun c F H σ G Rr q => h c F H σ G.g _ fun J F' H' Gd Y S w hG hY => q J k ds F' H' Gd Y hR (G.step S) S.f w hG hY
theorem wiy_list {Rl : List D → S → Prop} (h : EvY z te Γ k R1) (hR : ∀ d k', R1 d k' → ∃ ds, d = .lst ds ∧ Rl ds k') : WiY z (iList K te) Γ k Rl := fun c F H σ G Rr q => h c F H σ G _ fun v d k1 F1 H1 hr G1 x1 r1 => by
  obtain ⟨ds, rfl, hl⟩ := hR d k1 hr
  obtain ⟨w, xs, rfl, hw, r⟩ := r1
  refine ⟨w, rfl, ⟨xs, .inl (.inl (G1.g.fh _ _ hw))⟩, q _ k1 ds F1 H1 (fun H => SqL K H w xs) (YAt xs) hl G1 x1 (r.length ▸ walk_list) (fun H2 e => .inl (.inl (e _ _ hw))) fun i H1' v H2 F2 hi x1 x2 y => ?_⟩
  obtain ⟨rfl, hv⟩ := y
  obtain ⟨d, hd, rd⟩ := r.get' hv
  exact ⟨F2, d, hd, .refl x2, rd.mono x1⟩
theorem wiy_rng1 {Rl : List D → S → Prop} (h : EvY z te Γ k R1) (hR : ∀ d k', R1 d k' → ∃ n : Int, d = .int n ∧ -(2 ^ 62) ≤ n ∧ n < 2 ^ 62 ∧ Rl (rgD 0 n.toNat) k') : WiY z (iRng1 (tCons te tNil)) Γ k Rl := fun c F H σ G Rr q => h c F H σ G _ fun v d k1 F1 H1 hr G1 x1 r1 => by
  obtain ⟨n, rfl, h1, h2, hl⟩ := hR d k1 hr
  have e1 : v = .int n := r1
  subst e1
  refine ⟨n, rfl, h1, h2, q _ k1 _ F1 H1 (fun _ => True) (YFn fun i => .int (0 + i)) hl G1 x1 (by rw [rgD_len]; exact walk_range) (fun _ _ => trivial) fun i H1' v H2 F2 hi x1 x2 y => ?_⟩
  obtain ⟨rfl, rfl⟩ := y
  rw [rgD_len] at hi
  exact ⟨F2, _, rgD_get hi, .refl x2, rfl⟩
/-- a binding target beside the state -/
def GtY (z : Cl S) (g : TG) (d : D) (Γ Γ' : List En) : Prop := ∀ c F H σ v k, GY z c F H σ Γ k → Rep F d v → ∀ Q : L2.St → Hp → Prop, (∀ σ', GY z c F H σ' Γ' k → Q σ' H) → g v σ H Q
theorem gty_name : GtY z (gName i) d Γ (Γ.set i (.sh d)) := fun c F H σ v k G r Q q => q _ (G.setSh r)
theorem gty_tup2 : GtY z (gTup K 2 (gCons (gName i) (gCons (gName j) gNil))) (.tup [x, y]) Γ ((Γ.set i (.sh x)).set j (.sh y)) := fun c F H σ v k G r Q q => by
  obtain ⟨a, xs, rfl, ha, u1, r1, rfl, h1, u2, r2, rfl, h2, rfl⟩ := r
  exact ⟨a, [u1, u2], rfl, .inl (.inl (G.g.exH ha)), rfl, u1, [u2], rfl, u2, [], rfl, rfl, q _ ((G.setSh h1).setSh h2)⟩
theorem gty_tup3 {l : Nat} {w : D} : GtY z (gTup K 3 (gCons (gName i) (gCons (gName j) (gCons (gName l) gNil)))) (.tup [x, y, w]) Γ (((Γ.set i (.sh x)).set j (.sh y)).set l (.sh w)) := fun c F H σ v k G r Q q => by
  obtain ⟨a, xs, rfl, ha, u1, r1, rfl, h1, u2, r2, rfl, h2, u3, r3, rfl, h3, rfl⟩ := r
  exact ⟨a, [u1, u2, u3], rfl, .inl (.inl (G.g.exH ha)), rfl, u1, [u2, u3], rfl, u2, [u3], rfl, u3, [], rfl, rfl, q _ (((G.setSh h1).setSh h2).setSh h3)⟩
theorem sy_for (I : List D → Nat → List En → S → Prop) (h : WiY z wi Γ k fun ds k' => I ds 0 Γ k') (hs : ∀ ds i d Γi ki, ds[i]? = some d → I ds i Γi ki → ∃ Γ', GtY z g d Γi Γ' ∧ SY z t Γ' ki ⟨I ds (i + 1), P.rt⟩) (hd : ∀ ds Γ' k', I ds ds.length Γ' k' → P.nx Γ' k') :
    SY z (tFor wi g t) Γ k P := fun c F H σ G E e1 e2 => h c F H σ G _ fun J k1 ds F1 H1 Gd Y h0 G1 x1 w hG hY => by
  refine for_it w (fun i σ' H' => ∃ Γi ki F', I ds i Γi ki ∧ GY z c F' H' σ' Γi ki ∧ Ex F1 F') ⟨Γ, k1, F1, h0, G1, Ex.refl _⟩ (fun i σ' H' _ ⟨_, _, _, _, G', x⟩ => hG _ (x.trans G'.g.fh)) ?_ ?_
  · rintro i v σ1 H2 H3 hi ⟨Γi, ki, F2, p, G2, x2⟩ y
    obtain ⟨F3, d, hd', S3, r3⟩ := hY i H2 v H3 F2 hi x2 G2.g.fh y
    obtain ⟨Γ', hg, hb⟩ := hs ds i d Γi ki hd' p
    refine hg c F3 H3 σ1 v ki (G2.step S3) r3 _ fun σ2 G3 => ?_
    exact hb c F3 H3 _ G3 _ (fun Γ'' k3 F' H' σ' q G' x => ⟨Γ'', k3, F', q, G', (x2.trans S3.f).trans x⟩) (fun v d Γ'' k3 F' H' σ' q G' x r => e2 v d Γ'' k3 F' H' σ' q G' ((x1.trans (x2.trans S3.f)).trans x) r)
  · rintro σ1 H2 ⟨Γi, ki, F2, p, G2, x2⟩
    exact e1 Γi ki F2 H2 σ1 (hd ds _ _ p) G2 (x1.trans x2)
end
end DL
set_option Elab.async false
set_option linter.all false
set_option maxRecDepth 100000
set_option autoImplicit false
set_option maxHeartbeats 4000000
/-! Y2: own lists beside the state; the frame; comprehensions, dicts filled; defs that are lent a state, or make one. -/
namespace DL
open PySem PySem.Spec PyProof.Rows L2
variable {S : Type}
theorem Cl.ne {z : Cl S} {a b : Addr} (h : z.ads a) (n : ¬ z.ads b) : a ≠ b := fun e => n (e ▸ h)
section
variable {K : PySem.W.Frag} {z : Cl S} {Kd : Cl S → Prop} {c : Ct} {F H F' H' : Hp} {σ : L2.St} {Γ Γ' : List En} {k k' : S} {te ta tb tu tv : TE} {tt : TT} {t u : TS} {d x y : D} {ds es : List D} {R R1 : D → S → Prop} {P : PoY S} {i j : Nat} {wi : TI} {g : TG} {p : Addr} {o : HO}
/-! ### own lists -/
theorem GY.setOwn {xs : List V} (G : GY z c F H σ Γ k) (n : NoSlot σ Γ p) (nz : ¬ z.ads p) (f : F p = none) (h : H p = some (.lst xs)) (r : Reps F ds xs) (h0 : c.H0 p = none) : GY z c F H (σ.set i (some (.ref p))) (Γ.set i (.own ds)) k :=
  ⟨G.g.setOwn n f h r h0, fun a m => (G.ns a m).yOwn fun e => nz (e ▸ m), G.f, G.l, G.at_⟩
/-- x = [..] -/
theorem sy_asgF (h : EvF te Γ ds) (hn : P.nx (Γ.set i (.own ds)) k) : SY z (tAsg te (gName i)) Γ k P := fun c F H σ G E e1 e2 => h c F H σ G.g _ fun p xs F' H' S n nf eq r =>
  e1 _ k F' H' _ hn ((G.step S).setOwn (G.g.noSlot n) (G.new n) nf eq r (G.g.fresh n)) S.f
theorem qy_asgF (h : EvF te Γ ds) (hn : SY z u (Γ.set i (.own ds)) k P) : SY z (tSeq (tAsg te (gName i)) u) Γ k P :=
  SY.seq (M := fun Γ' k' => Γ' = Γ.set i (.own ds) ∧ k' = k) (sy_asgF h ⟨rfl, rfl⟩) fun Γ' k' ⟨e1, e2⟩ => by subst e1 e2; exact hn
/-- x, y = [..], e -/
theorem sy_parF (ha : EvF ta Γ ds) (hb : EvY z tb Γ k R) (hn : ∀ x k', R x k' → P.nx ((Γ.set i (.own ds)).set j (.sh x)) k') (fr : ∀ {c F H σ p o}, GY z c F H σ Γ k → H p = some o → F p = none → ¬ z.ads p → NoSlot σ Γ p → c.H0 p = none → ∀ Q : VK, (∀ v d k' F' H', R d k' → GY z c F' H' σ Γ k' → Ex F F' → H' p = some o → F' p = none → Rep F' d v → Q v H') → tb σ H Q) :
    SY z (tPar i j (tCons ta (tCons tb tNil))) Γ k P := fun c F H σ G E e1 e2 => ha c F H σ G.g _ fun p xs F1 H1 S n nf eq r => by
  have G1 := G.step S
  have nz := G.new n
  refine fr G1 eq nf nz (G.g.noSlot n) (G.g.fresh n) _ fun v x k2 F2 H2 hx G2 x2 h2 f2 r2 => ⟨_, _, rfl, ?_⟩
  exact e1 _ k2 F2 H2 _ (hn x k2 hx) ((G2.setOwn (G.g.noSlot n) nz f2 h2 (r.mono x2) (G.g.fresh n)).setSh r2) (S.f.trans x2)
theorem sy_parFP (ha : EvF ta Γ ds) (hb : EvP tb Γ x) (hn : P.nx ((Γ.set i (.own ds)).set j (.sh x)) k) : SY z (tPar i j (tCons ta (tCons tb tNil))) Γ k P := fun c F H σ G E e1 e2 => ha c F H σ G.g _ fun p xs F1 H1 S n nf eq r => by
  have G1 := G.step S
  refine hb c F1 H1 σ G1.g _ fun v F2 H2 S2 r2 => ⟨_, _, rfl, ?_⟩
  exact e1 _ k F2 H2 _ hn (((G1.step S2).setOwn (G.g.noSlot n) (G.new n) (S2.no nf eq) (S2.h _ _ eq) (r.mono S2.f) (G.g.fresh n)).setSh r2) (S.f.trans S2.f)
theorem qy_parFP (ha : EvF ta Γ ds) (hb : EvP tb Γ x) (hn : SY z u ((Γ.set i (.own ds)).set j (.sh x)) k P) : SY z (tSeq (tPar i j (tCons ta (tCons tb tNil))) u) Γ k P :=
  SY.seq (M := fun Γ' k' => Γ' = (Γ.set i (.own ds)).set j (.sh x) ∧ k' = k) (sy_parFP ha hb ⟨rfl, rfl⟩) fun Γ' k' ⟨e1, e2⟩ => by subst e1 e2; exact hn
theorem GY.pt {a : Addr} {ys : List V} (G : GY z c F H σ Γ k) (h : Mt Γ i ds) (e1 : σ[i]? = some (some (.ref a))) (r : Reps F es ys) : GY z c F (upd H a (.lst ys)) σ (DL.pt Γ i es) k := by
  have nz : ¬ z.ads a := fun m => by
    rcases h with h | h
    · exact G.ns a m i _ h rfl e1
    · exact G.ns a m i _ h rfl e1
  exact ⟨G.g.pt h e1 r, fun b m => (G.ns b m).yPt h _, G.f, G.l, z.loc H _ k (fun b m => by rw [upd_ne (Cl.ne m nz)]) G.at_⟩
/-- x.append(e), e may change the state -/
theorem sy_app (h : Mt Γ i ds) (hv : EvY z te Γ k R) (hl : ds.length < sizeLine) (hn : ∀ d k', R d k' → P.nx (pt Γ i (ds ++ [d])) k') : SY z (tDrop (tBM K "list" rAppend (tVar i) (tCons te tNil))) Γ k P := fun c F H σ G E e1 e2 => by
  obtain ⟨p, xs, e', h1, h2, h3, h4, h5, h6⟩ := G.g.mt h
  refine ⟨_, h1, .inl ⟨rfl, _, SqL.of h2⟩, hv c F H σ G _ fun v d k' F1 H1 hr G1 x1 r1 => ?_⟩
  obtain ⟨p', xs', e'', k1, k2, k3, k4, k5, k6⟩ := G1.g.mt h
  rw [h1] at k1
  cases k1
  exact ⟨p, xs', v, rfl, rfl, k2, by rw [k3.length]; exact hl, e1 _ k' F1 _ σ (hn d k' hr) (G1.pt h h1 (k3.append (.one r1))) x1⟩
theorem qy_app (h : Mt Γ i ds) (hv : EvY z te Γ k R) (hl : ds.length < sizeLine) (hn : ∀ d k', R d k' → SY z u (pt Γ i (ds ++ [d])) k' P) : SY z (tSeq (tDrop (tBM K "list" rAppend (tVar i) (tCons te tNil))) u) Γ k P :=
  SY.seq (M := fun Γ' k' => ∃ d, R d k' ∧ Γ' = pt Γ i (ds ++ [d])) (sy_app h hv hl fun d k' hr => ⟨d, hr, rfl⟩) fun Γ' k' ⟨d, hr, e⟩ => by subst e; exact hn d k' hr
/-- an own list is shared from here on -/
theorem sy_frz (h : Γ[i]? = some (.own ds)) (h1 : SY z t (Γ.set i (.sh (.lst ds))) k P) : SY z t Γ k P := fun c F H σ G E e1 e2 => by
  obtain ⟨a, xs, q1, q2, q3, q4, q5⟩ := G.g.own h
  have hi : i < Γ.length := (List.getElem?_eq_some_iff.mp h).1
  have n : NoSlot σ (Γ.set i .un) a := fun j e he m q => by
    by_cases w : i = j
    · subst w
      rw [List.getElem?_set_self hi] at he
      cases he; cases m
    · rw [List.getElem?_set_ne w] at he
      exact w (G.g.dj i j a _ _ h he rfl m q1 q)
  have nz : ¬ z.ads a := fun m => G.ns a m i _ h rfl q1
  have r : Rep (upd F a (.lst xs)) (.lst ds) (.ref a) := ⟨a, xs, rfl, upd_same, q4.mono (Ex.new q2)⟩
  have G1 := G.forget (i := i)
  have G2 : GY z c (upd F a (.lst xs)) H σ (Γ.set i .un) k := ⟨G1.g.freeze n q2 q3 q5, G1.ns, fun b m => by rw [upd_ne (Cl.ne m nz)]; exact G1.f b m, G1.l, G1.at_⟩
  have G3 := G2.setSh (i := i) r
  have es : σ.set i (some (.ref a)) = σ := by
    apply List.ext_getElem?
    intro j
    by_cases w : i = j
    · subst w; rw [List.getElem?_set_self (by rw [G.g.len]; exact hi), q1]
    · rw [List.getElem?_set_ne w]
  rw [es, List.set_set] at G3
  exact h1 c _ H σ G3 E (fun Γ' k' F' H' σ' m G' x => e1 Γ' k' F' H' σ' m G' ((Ex.new q2).trans x)) fun v d Γ' k' F' H' σ' m G' x r => e2 v d Γ' k' F' H' σ' m G' ((Ex.new q2).trans x) r
/-! ### the frame: what no slot holds stays, for the judgements hold at every entry -/
def pinY (c : Ct) (p : Addr) (o : HO) : Ct := ⟨c.F0, upd c.H0 p o, c.P⟩
theorem GY.pin (G : GY z c F H σ Γ k) (hp : H p = some o) (fp : F p = none) (np : NoSlot σ Γ p) (nz : ¬ z.ads p) : GY z (pinY c p o) F H σ Γ k := by
  refine ⟨⟨G.g.ff, G.g.fh, fun q u e l => ?_, G.g.li, fun q e => ?_, G.g.len, fun i e he => ?_, G.g.dj⟩, G.ns, G.f, fun a m => ?_, G.at_⟩
  · by_cases w : q = p
    · subst w
      have e' : upd c.H0 q o q = some u := e
      rw [upd_same] at e'
      cases e'; exact hp
    · have e' : upd c.H0 p o q = some u := e
      rw [upd_ne w] at e'
      exact G.g.hh q u e' l
  · have w : q ≠ p := fun w => by subst w; exact e fp
    rcases G.g.nw q e with y | y
    · exact .inl y
    · exact .inr (by show upd c.H0 p o q = none; rw [upd_ne w]; exact y)
  · obtain ⟨v, h1, h2⟩ := G.g.en i e he
    refine ⟨v, h1, ?_⟩
    cases e with
    | un => trivial
    | sh d => exact h2
    | own ds =>
      obtain ⟨q, xs, e1, e2, e3, e4, e5⟩ := h2
      have w : q ≠ p := fun w => by subst w; exact np i _ he rfl (by rw [h1, e1])
      exact ⟨q, xs, e1, e2, e3, e4, by show upd c.H0 p o q = none; rw [upd_ne w]; exact e5⟩
    | lent ds => exact h2
  · rcases G.l a m with l | l
    · exact .inl l
    · exact .inr (by show upd c.H0 p o a = none; rw [upd_ne (Cl.ne m nz)]; exact l)
theorem GY.unpin (G : GY z (pinY c p o) F H σ Γ k) (h0 : c.H0 p = none) (f0 : c.F0 p = none) (nl : ¬ c.L p) (l : ∀ a, z.ads a → c.L a ∨ c.H0 a = none) : GY z c F H σ Γ k ∧ H p = some o ∧ F p = none := by
  have key : ∀ q, (pinY c p o).H0 q = none → c.H0 q = none := fun q e => by
    by_cases w : q = p
    · subst w; exact h0
    · have e' : upd c.H0 p o q = none := e
      rwa [upd_ne w] at e'
  refine ⟨⟨⟨G.g.ff, G.g.fh, fun q u e l => ?_, G.g.li, fun q e => (G.g.nw q e).imp id (key q), G.g.len, fun i e he => ?_, G.g.dj⟩, G.ns, G.f, l, G.at_⟩, ?_, ?_⟩
  · have w : q ≠ p := fun w => by subst w; rw [h0] at e; cases e
    exact G.g.hh q u (by show upd c.H0 p o q = some u; rw [upd_ne w]; exact e) l
  · obtain ⟨v, h1, h2⟩ := G.g.en i e he
    refine ⟨v, h1, ?_⟩
    cases e with
    | un => trivial
    | sh d => exact h2
    | own ds =>
      obtain ⟨q, xs, e1, e2, e3, e4, e5⟩ := h2
      exact ⟨q, xs, e1, e2, e3, e4, key _ e5⟩
    | lent ds => exact h2
  · exact G.g.hh p o (by show upd c.H0 p o p = some o; exact upd_same) nl
  · cases w : F p with
    | none => rfl
    | some u =>
      rcases G.g.nw p (by rw [w]; exact Option.some_ne_none _) with y | y
      · exact absurd f0 y
      · have y' : upd c.H0 p o p = none := y
        rw [upd_same] at y'; cases y'
/-- what is loose and new -/
structure Loose (z : Cl S) (c : Ct) (F H : Hp) (σ : L2.St) (Γ : List En) (p : Addr) (o : HO) : Prop where
  hp : H p = some o
  fp : F p = none
  np : NoSlot σ Γ p
  nz : ¬ z.ads p
  h0 : c.H0 p = none
  f0 : c.F0 p = none
  nl : ¬ c.L p
theorem GY.loose (G : GY z c F H σ Γ k) (S : Stp F H F' H') (n : H p = none) (nf : F' p = none) (h : H' p = some o) : Loose z c F' H' σ Γ p o := by
  have h0 := G.g.fresh n
  refine ⟨h, nf, G.g.noSlot n, G.new n, h0, ?_, fun l => ?_⟩
  · cases q : c.F0 p with
    | none => rfl
    | some u => have := S.f _ _ (G.g.ff _ _ q); rw [nf] at this; cases this
  · obtain ⟨u, e⟩ := G.g.li p l
    rw [n] at e; cases e
/-- a judgement beside something loose -/
theorem EvY.fr (h : EvY z te Γ k R) (G : GY z c F H σ Γ k) (L : Loose z c F H σ Γ p o) (Q : VK) (q : ∀ v d k' F' H', R d k' → GY z c F' H' σ Γ k' → Ex F F' → Loose z c F' H' σ Γ p o → Rep F' d v → Q v H') : te σ H Q :=
  h _ F H σ (G.pin L.hp L.fp L.np L.nz) Q fun v d k' F' H' hr G' x r => by
    obtain ⟨G2, h2, f2⟩ := G'.unpin L.h0 L.f0 L.nl G.l
    exact q v d k' F' H' hr G2 x ⟨h2, f2, L.np, L.nz, L.h0, L.f0, L.nl⟩ r
theorem WiY.fr {Rl : List D → S → Prop} (h : WiY z wi Γ k Rl) (G : GY z c F H σ Γ k) (L : Loose z c F H σ Γ p o) (Rr : It → Hp → Prop)
    (q : ∀ J k' ds F' H' (Gd : Hp → Prop) (Y : Nat → Hp → V → Hp → Prop), Rl ds k' → GY z c F' H' σ Γ k' → Ex F F' → Loose z c F' H' σ Γ p o → Walk J ds.length Gd Y → (∀ H2, Ex F' H2 → Gd H2) →
      (∀ i H1 v H2 F1, i < ds.length → Ex F' F1 → Ex F1 H1 → Y i H1 v H2 → ∃ F2 d, ds[i]? = some d ∧ Stp F1 H1 F2 H2 ∧ Rep F2 d v) → Rr J H') : wi σ H Rr :=
  h _ F H σ (G.pin L.hp L.fp L.np L.nz) Rr fun J k' ds F' H' Gd Y hr G' x w hG hY => by
    obtain ⟨G2, h2, f2⟩ := G'.unpin L.h0 L.f0 L.nl G.l
    exact q J k' ds F' H' Gd Y hr G2 x ⟨h2, f2, L.np, L.nz, L.h0, L.f0, L.nl⟩ w hG hY
theorem EtY.fr {Rb : Bool → S → Prop} (h : EtY z tt Γ k Rb) (G : GY z c F H σ Γ k) (L : Loose z c F H σ Γ p o) (Q : Bool → Hp → Prop) (q : ∀ v k' F' H', Rb v k' → GY z c F' H' σ Γ k' → Ex F F' → Loose z c F' H' σ Γ p o → Q v H') : tt σ H Q :=
  h _ F H σ (G.pin L.hp L.fp L.np L.nz) Q fun v k' F' H' hr G' x => by
    obtain ⟨G2, h2, f2⟩ := G'.unpin L.h0 L.f0 L.nl G.l
    exact q v k' F' H' hr G2 x ⟨h2, f2, L.np, L.nz, L.h0, L.f0, L.nl⟩
theorem Loose.step {F1 H1 : Hp} (L : Loose z c F H σ Γ p o) (S : Stp F H F1 H1) : Loose z c F1 H1 σ Γ p o := ⟨S.h _ _ L.hp, S.no L.fp L.hp, L.np, L.nz, L.h0, L.f0, L.nl⟩
/-! ### comprehensions -/
/-- te is a new list, the state changed -/
def EvFY (z : Cl S) (te : TE) (Γ : List En) (k : S) (Rl : List D → S → Prop) : Prop := ∀ c F H σ, GY z c F H σ Γ k → ∀ Q : VK, (∀ p xs ds k' F' H', Rl ds k' → GY z c F' H' σ Γ k' → Ex F F' → Loose z c F' H' σ Γ p (.lst xs) → Reps F' ds xs → Q (.ref p) H') → te σ H Q
theorem EvFY.imp {Rl R2 : List D → S → Prop} (h : EvFY z te Γ k R2) (q : ∀ d k', R2 d k' → Rl d k') : EvFY z te Γ k Rl := fun c F H σ G Q w => h c F H σ G Q fun p xs ds k' F' H' hr => w p xs ds k' F' H' (q ds k' hr)
theorem wipG_set1 {i : Nat} {d : D} (h : Γ[i]? = some .un) : wipG (Γ.set i (.sh d)) [i] = Γ := by
  apply List.ext_getElem?
  intro j
  rw [wipG_at]
  by_cases w : j ∈ [i]
  · rw [if_pos w]
    have e : j = i := List.mem_singleton.mp w
    subst e
    rw [List.getElem?_set_self (List.getElem?_eq_some_iff.mp h).1, h]; rfl
  · rw [if_neg w, List.getElem?_set_ne fun e => w (by rw [e]; exact List.mem_singleton_self _)]
/-- a comprehension; the walk, its test and its elements may change the state -/
theorem efy_lc {vs : List Nat} (I : List D → Nat → List D → S → Prop) (hΓ : wipG Γ vs = Γ) (h : WiY z wi Γ k fun xs k' => I xs 0 [] k')
    (hs : ∀ xs i x acc ki, xs[i]? = some x → I xs i acc ki → acc.length < sizeLine ∧ ∃ Γ' Rt, GtV g x vs Γ Γ' ∧ SetV vs Γ Γ' ∧ wipG Γ' vs = Γ ∧ EtY z tt Γ' ki Rt ∧ (∀ k2, Rt true k2 → EvY z te Γ' k2 fun e k3 => I xs (i + 1) (acc ++ [e]) k3) ∧ (∀ k2, Rt false k2 → I xs (i + 1) acc k2)) :
    EvFY z (tLc wi g tt te vs) Γ k fun ds k' => ∃ xs, I xs xs.length ds k' := fun c F H σ G Q k0 => h c F H σ G _ fun J k1 xs F1 H1 Gd Y hI0 GS x0 w hG hY => by
  intro Dl nD
  have S0 : Stp F1 H1 F1 (upd H1 Dl (.lst [])) := .loose GS.g.fh _ nD
  have nF1 : F1 Dl = none := by
    cases q : F1 Dl with
    | none => rfl
    | some u => rw [GS.g.fh _ _ q] at nD; cases nD
  have L0 : Loose z c F1 (upd H1 Dl (.lst [])) σ Γ Dl (.lst []) := GS.loose S0 nD nF1 upd_same
  have q1 : ∀ j, j ∉ vs → (wipe σ vs)[j]? = σ[j]? := fun j hj => by rw [wipe_at, if_neg hj]
  have G1 : GY z c F1 (upd H1 Dl (.lst [])) (wipe σ vs) Γ k1 := by
    have g2 := GS.step S0
    refine ⟨?_, fun a m => (g2.ns a m).yWip, g2.f, g2.l, g2.at_⟩
    have := g2.g.wip vs
    rwa [hΓ] at this
  have Lw : ∀ {F2 H2 : Hp} {o : HO} {σ2 : L2.St} {Γ' : List En}, Loose z c F2 H2 σ Γ Dl o → NoSlot σ2 Γ' Dl → Loose z c F2 H2 σ2 Γ' Dl o := fun L n => ⟨L.hp, L.fp, n, L.nz, L.h0, L.f0, L.nl⟩
  have nw : NoSlot (wipe σ vs) Γ Dl := L0.np.yWip
  refine lc_it w (fun i H2 => ∃ F2 acc ds ki, I xs i ds ki ∧ GY z c F2 H2 (wipe σ vs) Γ ki ∧ Ex F1 F2 ∧ F2 Dl = none ∧ H2 Dl = some (.lst acc) ∧ Reps F2 ds acc)
    ⟨F1, [], [], k1, hI0, G1, Ex.refl _, nF1, upd_same, rfl⟩ (fun i H2 _ ⟨F2, _, _, _, _, G2, x2, _⟩ => hG _ (x2.trans G2.g.fh)) ?_ ?_
  · rintro i v H2 H3 hi ⟨F2, acc, ds, ki, hI, G2, x2, f2, e2, r2⟩ y
    obtain ⟨F3, d, hd, S3, r3⟩ := hY i H2 v H3 F2 hi x2 G2.g.fh y
    obtain ⟨hl, Γ', Rt, hg, sv, hw, ht, h1, h2⟩ := hs xs i d ds ki hd hI
    have G3 := G2.step S3
    have e3 : H3 Dl = some (.lst acc) := S3.h _ _ e2
    have f3 : F3 Dl = none := S3.no f2 e2
    refine hg c F3 H3 _ v G3.g r3 _ fun σ2 G4 p1 p2 => ⟨?_, ?_⟩
    · refine wipe_eq (fun j hj => by rw [p1 j hj]; exact q1 j hj) ?_
      rw [p2, wipe_length]
    have toS : ∀ {p : Addr}, NoSlot (wipe σ vs) Γ p → NoSlot σ2 Γ' p := fun {p} n j e he m q => by
      obtain ⟨z1, z2⟩ := sv j e he m
      exact n j e z2 m (by rw [← p1 j z1]; exact q)
    have G5 : GY z c F3 H3 σ2 Γ' ki := ⟨G4, fun a m => toS (G3.ns a m), G3.f, G3.l, G3.at_⟩
    have L5 : Loose z c F3 H3 σ2 Γ' Dl (.lst acc) := ⟨e3, f3, toS nw, L0.nz, L0.h0, L0.f0, L0.nl⟩
    have back : ∀ {F6 H6 : Hp} {k6 : S}, GY z c F6 H6 σ2 Γ' k6 → GY z c F6 H6 (wipe σ vs) Γ k6 := fun {F6 H6 k6} G6 => by
      refine ⟨?_, fun a m => (GS.ns a m).yWip, G6.f, G6.l, G6.at_⟩
      have := G6.g.unw p1 (p2.trans rfl)
      rwa [hw] at this
    refine EtY.fr ht G5 L5 _ fun b k6 F6 H6 hb G6 x6 L6 => ?_
    cases b with
    | true =>
      rw [if_pos rfl]
      refine EvY.fr (h1 k6 hb) G6 L6 _ fun u e k4 F4 H4 hI4 G7 x4 L7 r4 => ?_
      have G8 := back G7
      refine ⟨acc, L7.hp, by rw [r2.length]; exact hl, F4, acc ++ [u], ds ++ [e], k4, hI4, ⟨G8.g.yWr nw L7.fp (.inr L7.h0), G8.ns, G8.f, G8.l, z.loc H4 _ k4 (fun a m => by rw [upd_ne (Cl.ne m L0.nz)]) G8.at_⟩, (x2.trans S3.f).trans (x6.trans x4), L7.fp, upd_same, (((r2.mono S3.f).mono x6).mono x4).append (.one r4)⟩
    | false =>
      rw [if_neg Bool.false_ne_true]
      exact ⟨F6, acc, ds, k6, h2 k6 hb, back G6, (x2.trans S3.f).trans x6, L6.fp, L6.hp, (r2.mono S3.f).mono x6⟩
  · rintro H2 ⟨F2, acc, ds, ki, hI, G2, x2, f2, e2, r2⟩
    have G3 : GY z c F2 H2 σ Γ ki := by
      refine ⟨?_, G.ns, G2.f, G2.l, G2.at_⟩
      have := G2.g.unw q1 (wipe_length _ _)
      rwa [hΓ] at this
    exact k0 Dl acc ds ki F2 H2 ⟨xs, hI⟩ G3 (x0.trans x2) ⟨e2, f2, L0.np, L0.nz, L0.h0, L0.f0, L0.nl⟩ r2
/-- x = [..] -/
theorem sy_asgFY {Rl : List D → S → Prop} (h : EvFY z te Γ k Rl) (hn : ∀ ds k', Rl ds k' → P.nx (Γ.set i (.own ds)) k') : SY z (tAsg te (gName i)) Γ k P := fun c F H σ G E e1 e2 => h c F H σ G _ fun p xs ds k' F' H' hr G' x L r =>
  e1 _ k' F' H' _ (hn ds k' hr) (G'.setOwn L.np L.nz L.fp L.hp r L.h0) x
/-- the new list is data -/
theorem ey_ofF {Rl : List D → S → Prop} (h : EvFY z te Γ k Rl) (hR : ∀ ds k', Rl ds k' → R (.lst ds) k') : EvY z te Γ k R := fun c F H σ G Q q => h c F H σ G _ fun p xs ds k' F' H' hr G' x L r =>
  q (.ref p) _ k' (upd F' p (.lst xs)) H' (hR ds k' hr) ⟨G'.g.freeze L.np L.fp L.hp L.h0, G'.ns, fun a m => by rw [upd_ne (Cl.ne m L.nz)]; exact G'.f a m, G'.l, G'.at_⟩ (x.trans (Ex.new L.fp)) ⟨p, xs, rfl, upd_same, r.mono (Ex.new L.fp)⟩
end
/-! ### defs -/
/-- a kind of state with at most two addresses -/
structure Cl2 (z : Cl S) : Prop where
  two : ∃ a b, ∀ p, z.ads p ↔ p = a ∨ p = b
section
variable {P : Program} {w : World} {K : PySem.W.Frag} {mg : Str → Option Value} {base : Heap} {x qual : Str} {params : Arguments} {body : List Stmt} {scope : Scope} {f : Addr} {fd : FuncData} {N ps : List Str} {n : Nat} {Kd : Cl S → Prop} {C : CnY S}
theorem good_lend2 {F H : Hp} {es : List D} {vs : List V} {a b : Addr} (x : Ex F H) (r : Reps F es vs) (ha : ∃ o, H a = some o) (hb : ∃ o, H b = some o) : Good ⟨F, H, fun j => if j = 0 then some a else if j = 1 then some b else none⟩ F H (vs.map some) (es.map .sh) := by
  have G := good_args x r
  refine ⟨G.ff, G.fh, fun _ _ e _ => e, fun p ⟨j, e⟩ => ?_, G.nw, G.len, fun i e he => ?_, fun i j p e e' h1 h2 m1 m2 h3 h4 => G.dj i j p e e' h1 h2 m1 m2 h3 h4⟩
  · dsimp only at e
    by_cases z : j = 0
    · rw [if_pos z] at e; cases e; exact ha
    · rw [if_neg z] at e
      by_cases y : j = 1
      · rw [if_pos y] at e; cases e; exact hb
      · rw [if_neg y] at e; cases e
  · obtain ⟨d, v, rfl, h1, h2⟩ := reps_slots r i e he
    exact ⟨_, h1, v, rfl, h2⟩
theorem sh_nmY {es : List D} {n : Nat} : ∀ (j : Nat) (e : En), (es.map En.sh ++ List.replicate n .un)[j]? = some e → e.mut = false := fun j e he => by
  have m := List.mem_of_getElem? he
  rcases List.mem_append.mp m with m | m
  · obtain ⟨d, _, rfl⟩ := List.mem_map.mp m; rfl
  · rw [(List.mem_replicate.mp m).2]; rfl
theorem runY (h2 : ∀ z, Kd z → Cl2 z) {vs : List V} {H : Hp} {Q : VK} {E : XK} {m : Nat} {t : TS} (h : spY Kd C vs H Q E)
    (hb : ∀ z k es R, Kd z → C k es R → SY z t ((.ref z.hd :: es).map En.sh ++ List.replicate m .un) k ⟨fun _ k' => R .non k', fun d _ k' => R d k'⟩) : t { nx := fun _ Hz => Q .non Hz, rt := Q } (vs.map some ++ List.replicate m none) H := by
  obtain ⟨z, F0, k0, es, ws, R, hK, rfl, x0, fz, hat, rs, hC, q⟩ := h
  obtain ⟨a, b, hab⟩ := (h2 z hK).two
  have la : ∃ o, H a = some o := z.has H k0 a hat ((hab a).mpr (.inl rfl))
  have lb : ∃ o, H b = some o := z.has H k0 b hat ((hab b).mpr (.inr rfl))
  have Gd := (good_lend2 (es := .ref z.hd :: es) (vs := .ref z.hd :: ws) (a := a) (b := b) x0 ⟨_, _, rfl, rfl, rs⟩ la lb).start m
  have G : GY z _ F0 H _ _ k0 := ⟨Gd, fun p hp => noSlot_nm sh_nmY, fz, fun p hp => .inl (by
    rcases (hab p).mp hp with e | e
    · exact ⟨0, by subst e; rfl⟩
    · exact ⟨1, by subst e; rfl⟩), hat⟩
  have fin : ∀ {k' F' H' σ' Γ'}, GY z ⟨F0, H, fun j => if j = 0 then some a else if j = 1 then some b else none⟩ F' H' σ' Γ' k' → Ex F0 F' → StY z F0 H F' H' := fun {k' F' H' σ' Γ'} G' x' => by
    refine ⟨x', G'.g.fh, fun p o n1 e => G'.g.hh p o e fun ⟨j, y⟩ => ?_, G'.f, G'.g.nw⟩
    dsimp only at y
    by_cases z0 : j = 0
    · rw [if_pos z0] at y; cases y; exact n1 ((hab _).mpr (.inl rfl))
    · rw [if_neg z0] at y
      by_cases z1 : j = 1
      · rw [if_pos z1] at y; cases y; exact n1 ((hab _).mpr (.inr rfl))
      · rw [if_neg z1] at y; cases y
  exact hb z k0 es R hK hC _ F0 H _ G _ (fun Γ' k' F' H' σ' p G' x' => q .non .non k' F' H' p (fin G' x') G'.at_ rfl) fun v d Γ' k' F' H' σ' p G' x' r => q v d k' F' H' p (fin G' x') G'.at_ r
/-- THE RULE for a def that is lent a state -/
theorem fn_okY (h2 : ∀ z, Kd z → Cl2 z) (F : FunD K x qual params body scope [] [] f fd) (S' : FnScope N ps scope) (hlen : ∀ k es R, C k es R → es.length + 1 = ps.length)
    (hb : ∀ (cdv : Value) (A : Around) (out : List Env) (s : Shared) (H : Hp) (E : XK), Room n (A.deeper (envOfC qual scope s.heap.objs.size f cdv)) →
      ∃ t, PSs (cxOf CX0 P w K mg base N qual scope f cdv A out s H E).nox body t ∧
        ∀ z k es R, Kd z → C k es R → SY z t ((.ref z.hd :: es).map En.sh ++ List.replicate (N.length - ps.length) .un) k ⟨fun _ k' => R .non k', fun d _ k' => R d k'⟩) :
    FnOk P w K mg base CX0 (n + 1) f fd ps (spY Kd C) := by
  have ln : ∀ vs H Q E, spY Kd C vs H Q E → vs.length = ps.length := fun vs H Q E ⟨z, F, k, es, ws, R, _, e, _, _, _, rs, hC, _⟩ => by rw [e, List.length_cons, rs.length]; exact hlen _ _ _ hC
  refine F.ok S' ln fun cdv A out s H vs Q E hr h => ?_
  obtain ⟨t, h1, h3⟩ := hb cdv A out s H E hr
  refine ⟨_, PSs.nox h1, ?_⟩
  show t _ (vs.map some ++ List.replicate (N.length - vs.length) none) H
  rw [ln vs H Q E h]
  exact runY h2 h h3
theorem fn_okYG (h2 : ∀ z, Kd z → Cl2 z) (F : FunD K x qual params body scope [] [] f fd) (S' : FnScope N ps scope) (hlen : ∀ k es R, C k es R → es.length + 1 = ps.length)
    (hb : ∀ (cdv : Value) (A : Around) (out : List Env) (s : Shared) (H : Hp) (E : XK), Room n (A.deeper (envOfC qual scope s.heap.objs.size f cdv)) → NoG A →
      ∃ t, PSs (cxOf CX0 P w K mg base N qual scope f cdv A out s H E).nox body t ∧
        ∀ z k es R, Kd z → C k es R → SY z t ((.ref z.hd :: es).map En.sh ++ List.replicate (N.length - ps.length) .un) k ⟨fun _ k' => R .non k', fun d _ k' => R d k'⟩) :
    FnG P w K mg base (n + 1) f fd ps (spY Kd C) := by
  have ln : ∀ vs H Q E, spY Kd C vs H Q E → vs.length = ps.length := fun vs H Q E ⟨z, F, k, es, ws, R, _, e, _, _, _, rs, hC, _⟩ => by rw [e, List.length_cons, rs.length]; exact hlen _ _ _ hC
  refine fn_g F S' ln fun cdv A out s H vs Q E hr hg h => ?_
  obtain ⟨t, h1, h3⟩ := hb cdv A out s H E hr hg
  refine ⟨_, PSs.nox h1, ?_⟩
  show t _ (vs.map some ++ List.replicate (N.length - vs.length) none) H
  rw [ln vs H Q E h]
  exact runY h2 h h3
theorem fn_noneY (h : ∀ k es R, ¬ C k es R) : FnOk P w K mg base CX0 n f fd ps (spY Kd C) :=
  ⟨fun vs H Q E ⟨_, _, _, _, _, _, _, _, _, _, _, _, hC, _⟩ => absurd hC (h _ _ _), fun A outer s H args us vs Q E _ _ _ _ ⟨_, _, _, _, _, _, _, _, _, _, _, _, hC, _⟩ => absurd hC (h _ _ _)⟩
end
/-! ### the list of three ints -/
structure S3 where
  p : Int
  x : Int
  y : Int
def cell3 (a : Addr) : Cl S3 where
  hd := a
  ads := fun p => p = a
  at_ := fun H k => H a = some (.lst [.int k.p, .int k.x, .int k.y])
  hh := rfl
  loc := fun H H' s e h => by rw [← e a rfl]; exact h
  has := fun H s p h e => ⟨_, e ▸ h⟩
def K3 : Cl S3 → Prop := fun z => ∃ a, z = cell3 a
theorem K3.two (z : Cl S3) (h : K3 z) : Cl2 z := by
  obtain ⟨a, rfl⟩ := h
  exact ⟨a, a, fun p => ⟨fun e => .inl e, fun e => e.elim id id⟩⟩
section
variable {K : PySem.W.Frag} {a : Addr} {Γ : List En} {k : S3} {te ta tb : TE} {t u : TS} {R : D → S3 → Prop} {P : PoY S3} {i : Nat}
/-- an int, the state as it stands -/
def Ey3 (a : Addr) (te : TE) (Γ : List En) (k : S3) (v : Int) : Prop := EvY (cell3 a) te Γ k fun d k' => d = .int v ∧ k' = k
theorem e3_p {v : Int} (h : EvP te Γ (.int v)) : Ey3 a te Γ k v := ey_p h ⟨rfl, rfl⟩
theorem Ey3.cast {u v : Int} (h : Ey3 a te Γ k u) (e : u = v) : Ey3 a te Γ k v := e ▸ h
theorem e3_op {r : L2.R2} {u v w : Int} (ha : Ey3 a ta Γ k u) (hb : Ey3 a tb Γ k v) (hr : RD r (.int u) (.int v) (.int w)) : Ey3 a (tOp r ta tb) Γ k w := ey_op ha fun x k' ⟨e1, e2⟩ => by
  subst e1 e2
  exact EvY.imp hb fun y k'' ⟨e3, e4⟩ => by subst e3 e4; exact ⟨_, hr, rfl, rfl⟩
theorem e3_ix {n : Int} {v : Int} (hi : Γ[i]? = some (.sh (.ref a))) (hv : atI [V.int k.p, .int k.x, .int k.y] n = some (.int v)) : Ey3 a (tOp (rIxL K) (tVar i) (tC (.int n))) Γ k v := fun c F H σ G Q q => by
  obtain ⟨v0, e0, r0⟩ := G.g.sh hi
  have r0' : v0 = .ref a := r0
  subst r0'
  exact ⟨_, e0, a, _, n, .int v, rfl, rfl, SqL.of G.at_, hv, q (.int v) (.int v) k F H ⟨rfl, rfl⟩ G (Ex.refl F) rfl⟩
theorem sy_set3 {m : Int} {n : Int} {j : Nat} {k' : S3} (hi : Γ[i]? = some (.sh (.ref a))) (hv : Ey3 a te Γ k m) (hj : ixN 3 n = some j) (hk : [V.int k.p, .int k.x, .int k.y].set j (.int m) = [.int k'.p, .int k'.x, .int k'.y]) (hn : P.nx Γ k') : SY (cell3 a) (tAsg te (gSub (tVar i) (tC (.int n)) rSetL)) Γ k P := fun c F H σ G E e1 e2 =>
  hv c F H σ G _ fun v d kk F1 H1 ⟨h1, h2⟩ G1 x1 r1 => by
    subst h1 h2
    obtain ⟨v0, e0, r0⟩ := G1.g.sh hi
    have r0' : v0 = .ref a := r0
    subst r0'
    have rv : v = .int m := r1
    subst rv
    exact ⟨_, e0, a, _, n, j, rfl, rfl, G1.at_, hj, e1 Γ k' F1 _ σ hn (G1.wr (p := a) rfl (by rw [hk]; exact upd_same)) x1⟩
theorem qy_set3 {m : Int} {n : Int} {j : Nat} {k' : S3} (hi : Γ[i]? = some (.sh (.ref a))) (hv : Ey3 a te Γ k m) (hj : ixN 3 n = some j) (hk : [V.int k.p, .int k.x, .int k.y].set j (.int m) = [.int k'.p, .int k'.x, .int k'.y]) (hn : SY (cell3 a) u Γ k' P) : SY (cell3 a) (tSeq (tAsg te (gSub (tVar i) (tC (.int n)) rSetL)) u) Γ k P :=
  SY.seq (M := fun Γ' kk => Γ' = Γ ∧ kk = k') (sy_set3 hi hv hj hk ⟨rfl, rfl⟩) fun Γ' kk ⟨e1, e2⟩ => by subst e1 e2; exact hn
theorem qy_asg3 {v : Int} {j : Nat} (h : Ey3 a te Γ k v) (hn : SY (cell3 a) u (Γ.set j (.sh (.int v))) k P) : SY (cell3 a) (tSeq (tAsg te (gName j)) u) Γ k P := qy_asg h fun d k' ⟨e1, e2⟩ => by subst e1 e2; exact hn
/-- a list of three ints made, used, and let go -/
theorem sy3_of {Po' : Po} {j : Nat} {m n l : Int} {t u : TS} {M : List En → Prop} (nm : ∀ (j : Nat) (e : En), Γ[j]? = some e → e.mut = false) (h : EvF te Γ [.int m, .int n, .int l]) (hs : ∀ a, SY (cell3 a) t (Γ.set j (.sh (.ref a))) ⟨m, n, l⟩ ⟨fun Γ' _ => M Γ', fun d Γ' _ => Po'.rt d Γ'⟩) (hu : ∀ Γ', M Γ' → SW u Γ' Po') :
    SW (tSeq (tAsg te (gName j)) (tSeq t u)) Γ Po' := fun c F H σ G D ea eb ee ef => h c F H σ G _ fun a xs F1 H1 S1 na fa hat r1 => by
  obtain ⟨v1, _, rfl, e1, v2, _, rfl, e2, v3, _, rfl, e3, rfl⟩ := r1
  have e1 : v1 = .int m := e1
  have e2 : v2 = .int n := e2
  have e3 : v3 = .int l := e3
  subst e1 e2 e3
  have G0 : GY (cell3 a) c F1 H1 σ Γ ⟨m, n, l⟩ := ⟨G.step S1, fun p e => noSlot_nm nm, fun p e => e ▸ fa, fun p e => .inr (e ▸ G.fresh na), hat⟩
  have G1 := G0.setSh (i := j) (d := .ref a) (v := .ref a) rfl
  refine hs a c F1 H1 _ G1 _ (fun Γ' k' F' H' σ' m G' x => ?_) fun v d Γ' k' F' H' σ' hr G' x r => eb v d Γ' F' H' σ' hr G'.g (S1.f.trans x) r
  exact hu Γ' m c F' H' σ' G'.g _ (fun Γ2 F2 H2 σ2 n G2 x2 => ea Γ2 F2 H2 σ2 n G2 ((S1.f.trans x).trans x2)) (fun v d Γ2 F2 H2 σ2 n G2 x2 r => eb v d Γ2 F2 H2 σ2 n G2 ((S1.f.trans x).trans x2) r) (fun Γ2 F2 H2 σ2 n G2 x2 => ee Γ2 F2 H2 σ2 n G2 ((S1.f.trans x).trans x2)) fun Γ2 F2 H2 σ2 n G2 x2 => ef Γ2 F2 H2 σ2 n G2 ((S1.f.trans x).trans x2)
end
end DL
set_option Elab.async false
set_option linter.all false
set_option maxRecDepth 100000
set_option autoImplicit false
set_option maxHeartbeats 4000000
/-! Y3: three ints made by another def; defs that are lent one list behind their other arguments and give it back. -/
namespace DL
open PySem PySem.Spec PyProof.Rows L2
/-- source = f(..); what follows is lent it -/
theorem sw_mk3 {te : TE} {Γ : List En} {Rl : List D → Prop} {Rk : S3 → Prop} {Po' : Po} {j : Nat} {t : TS} (nm : ∀ (j : Nat) (e : En), Γ[j]? = some e → e.mut = false) (h : EvFR te Γ Rl) (hR : ∀ ds, Rl ds → ∃ k : S3, ds = [.int k.p, .int k.x, .int k.y] ∧ Rk k)
    (hs : ∀ a k, Rk k → SY (cell3 a) t (Γ.set j (.sh (.ref a))) k ⟨fun Γ' _ => Po'.nx Γ', fun d Γ' _ => Po'.rt d Γ'⟩) : SW (tSeq (tAsg te (gName j)) t) Γ Po' := fun c F H σ G D ea eb ee ef => h c F H σ G _ fun a xs ds F1 H1 hr S1 na fa hat r1 => by
  obtain ⟨k, rfl, hk⟩ := hR ds hr
  obtain ⟨v1, _, rfl, e1, v2, _, rfl, e2, v3, _, rfl, e3, rfl⟩ := r1
  have e1 : v1 = .int k.p := e1
  have e2 : v2 = .int k.x := e2
  have e3 : v3 = .int k.y := e3
  subst e1 e2 e3
  have G0 : GY (cell3 a) c F1 H1 σ Γ k := ⟨G.step S1, fun p e => noSlot_nm nm, fun p e => e ▸ fa, fun p e => .inr (e ▸ G.fresh na), hat⟩
  exact hs a k hk c F1 H1 _ (G0.setSh (i := j) (d := .ref a) (v := .ref a) rfl) _ (fun Γ' k' F' H' σ' m G' x => ea Γ' F' H' σ' m G'.g (S1.f.trans x)) fun v d Γ' k' F' H' σ' hr G' x r => eb v d Γ' F' H' σ' hr G'.g (S1.f.trans x) r
/-- f(g(..), ..) : a new list of three ints lent -/
theorem ep_callY3 {C : CnY S3} {te : TE} {ta : TA} {Γ : List En} {Rl : List D → Prop} {Rk : S3 → Prop} {es : List D} {w : D} (h : EvFR te Γ Rl) (hR : ∀ ds, Rl ds → ∃ k : S3, ds = [.int k.p, .int k.x, .int k.y] ∧ Rk k) (ha : EaP ta Γ es)
    (hc : ∀ k, Rk k → ∃ R : D → S3 → Prop, C k es R ∧ ∀ d k', R d k' → d = w) : EvP (tCall (spY K3 C) [] E0 (tCons te ta)) Γ w := fun c F H σ G Q q => h c F H σ G _ fun a xs ds F1 H1 hr S1 na fa hat r1 => ha c F1 H1 σ (G.step S1) _ fun vs F2 H2 S2 r2 => by
  obtain ⟨k, rfl, hk⟩ := hR ds hr
  obtain ⟨v1, _, rfl, e1, v2, _, rfl, e2, v3, _, rfl, e3, rfl⟩ := r1
  have e1 : v1 = .int k.p := e1
  have e2 : v2 = .int k.x := e2
  have e3 : v3 = .int k.y := e3
  subst e1 e2 e3
  show spY K3 C ((.ref a :: vs) ++ []) H2 Q E0
  rw [List.append_nil]
  obtain ⟨R, hC, hw⟩ := hc k hk
  refine ⟨cell3 a, F2, k, es, vs, R, ⟨a, rfl⟩, rfl, S2.fh, fun p e => ?_, S2.h _ _ hat, r2, hC, fun v d k' F' H' hr' S hat' r => ?_⟩
  · have e' : p = a := e
    subst e'; exact S2.no fa hat
  · have := hw d k' hr'
    subst this
    refine q v F' H' ⟨(S1.f.trans S2.f).trans S.f, fun p o e => ?_, S.fh, fun p e => ?_⟩ r
    · have n : ¬ (cell3 a).ads p := fun e' => by
        have e' : p = a := e'
        subst e'; rw [na] at e; cases e
      exact S.keep p o n (S2.h _ _ (S1.h _ _ e))
    · rcases S.nw p e with y | y
      · exact (S1.trans S2).nw p y
      · exact .inr (by
          cases w : H p with
          | none => rfl
          | some o => rw [S2.h _ _ (S1.h _ _ w)] at y; cases y)
/-! ### one list lent last, and given back -/
abbrev CnL := List D → List D → (List D → Prop) → Prop
def spL (C : CnL) : Sp := fun vs H Q _ => ∃ (F : Hp) (es : List D) (ws : List V) (a : Addr) (xs : List V) (ds : List D) (R : List D → Prop), vs = ws ++ [.ref a] ∧ Ex F H ∧ F a = none ∧ H a = some (.lst xs) ∧ Reps F es ws ∧ Reps F ds xs ∧ C es ds R ∧
  ∀ ds' xs' F' H', R ds' → Ex F F' → Ex F' H' → F' a = none → H' a = some (.lst xs') → Reps F' ds' xs' → (∀ p o, p ≠ a → H p = some o → H' p = some o) → (∀ p, F' p ≠ none → F p ≠ none ∨ H p = none) → Q (.ref a) H'
section
variable {P : Program} {w : World} {K : PySem.W.Frag} {mg : Str → Option Value} {base : Heap} {x qual : Str} {params : Arguments} {body : List Stmt} {scope : Scope} {f : Addr} {fd : FuncData} {N ps : List Str} {n : Nat} {C : CnL}
theorem good_lendL {F H : Hp} {es ds : List D} {ws xs : List V} {a : Addr} (x : Ex F H) (r : Reps F es ws) (fa : F a = none) (ha : H a = some (.lst xs)) (rx : Reps F ds xs) :
    Good ⟨F, H, fun j => if j = es.length then some a else none⟩ F H ((ws ++ [V.ref a]).map some) (es.map .sh ++ [.lent ds]) := by
  have ln : ws.length = es.length := r.length
  have en : ∀ (i : Nat) (e : En), (es.map En.sh ++ [.lent ds])[i]? = some e → (∃ d v, e = .sh d ∧ ((ws ++ [V.ref a]).map some)[i]? = some (some v) ∧ Rep F d v) ∨ (i = es.length ∧ e = .lent ds ∧ ((ws ++ [V.ref a]).map some)[i]? = some (some (.ref a))) := fun i e he => by
    by_cases h : i < es.length
    · rw [List.getElem?_append_left (by rw [List.length_map]; exact h)] at he
      obtain ⟨d, v, rfl, h1, h2⟩ := reps_slots r i e he
      refine .inl ⟨d, v, rfl, ?_, h2⟩
      rw [List.map_append, List.getElem?_append_left (by rw [List.length_map]; omega)]
      exact h1
    · rw [List.getElem?_append_right (by rw [List.length_map]; omega), List.length_map] at he
      have h0 : i - es.length = 0 := by
        have := (List.getElem?_eq_some_iff.mp he).1
        rw [List.length_singleton] at this; omega
      rw [h0] at he
      cases he
      refine .inr ⟨by omega, rfl, ?_⟩
      rw [List.map_append, List.getElem?_append_right (by rw [List.length_map]; omega), List.length_map, ln, h0]
      rfl
  refine ⟨Ex.refl F, x, fun _ _ e _ => e, fun p ⟨j, e⟩ => ?_, fun p e => .inl e, by rw [List.length_map, List.length_append, List.length_append, List.length_map, ln]; rfl, fun i e he => ?_, fun i j p e e' h1 h2 m1 m2 _ _ => ?_⟩
  · dsimp only at e
    by_cases z : j = es.length
    · rw [if_pos z] at e; cases e; exact ⟨_, ha⟩
    · rw [if_neg z] at e; cases e
  · rcases en i e he with ⟨d, v, rfl, h1, h2⟩ | ⟨h0, rfl, h1⟩
    · exact ⟨_, h1, v, rfl, h2⟩
    · exact ⟨_, h1, a, xs, rfl, fa, ha, rx, if_pos h0⟩
  · rcases en i e h1 with ⟨d, v, rfl, _⟩ | ⟨h0, _⟩
    · cases m1
    · rcases en j e' h2 with ⟨d, v, rfl, _⟩ | ⟨h0', _⟩
      · cases m2
      · omega
/-- THE RULE for such a def: its last statement returns the list -/
theorem fn_okL (F : FunD K x qual params body scope [] [] f fd) (S : FnScope N ps scope) (hlen : ∀ es ds R, C es ds R → es.length + 1 = ps.length)
    (hb : ∀ (cdv : Value) (A : Around) (out : List Env) (s : Shared) (H : Hp) (E : XK), Room n (A.deeper (envOfC qual scope s.heap.objs.size f cdv)) →
      ∃ t, PSs (cxOf CX0 P w K mg base N qual scope f cdv A out s H E).nox body (tSeq t (tRet (tVar (ps.length - 1)))) ∧
        ∀ es ds R, C es ds R → SW t ((es.map En.sh ++ [.lent ds]) ++ List.replicate (N.length - ps.length) .un) ⟨fun Γ' => ∃ ds', Γ'[ps.length - 1]? = some (.lent ds') ∧ R ds', fun _ _ => False, fun _ => False, fun _ => False⟩) :
    FnOk P w K mg base CX0 (n + 1) f fd ps (spL C) := by
  have ln : ∀ vs H Q E, spL C vs H Q E → vs.length = ps.length := fun vs H Q E ⟨F, es, ws, a, xs, ds, R, e, _, _, _, rs, _, hC, _⟩ => by rw [e, List.length_append, rs.length]; exact hlen _ _ _ hC
  refine F.ok S ln fun cdv A out s H vs Q E hr h => ?_
  obtain ⟨t, h1, h2⟩ := hb cdv A out s H E hr
  refine ⟨_, PSs.nox h1, ?_⟩
  have lv := ln vs H Q E h
  obtain ⟨F0, es, ws, a, xs, ds, R, rfl, x0, fa, ha, rs, rx, hC, q⟩ := h
  have le : ps.length - 1 = es.length := by have := hlen _ _ _ hC; omega
  have G := (good_lendL x0 rs fa ha rx).start (N.length - ps.length)
  show tSeq t _ _ ((ws ++ [V.ref a]).map some ++ List.replicate (N.length - (ws ++ [V.ref a]).length) none) H
  rw [lv]
  refine h2 es ds R hC _ F0 H _ G _ (fun Γ' F' H' σ' ⟨ds', hg, hr'⟩ G' xx => ?_) (fun _ _ _ _ _ _ z => z.elim) (fun _ _ _ _ z => z.elim) (fun _ _ _ _ z => z.elim)
  obtain ⟨a', xs', e1, e2, e3, e4, e5⟩ := G'.lent hg
  have ea : a' = a := by
    have e5' : (if ps.length - 1 = es.length then some a else none) = some a' := e5
    rw [if_pos le] at e5'
    cases e5'; rfl
  subst ea
  refine ⟨_, e1, q ds' xs' F' H' hr' xx G'.fh e2 e3 e4 (fun p o np e => G'.hh p o e fun ⟨j, y⟩ => ?_) G'.nw⟩
  dsimp only at y
  by_cases z0 : j = es.length
  · rw [if_pos z0] at y; cases y; exact np rfl
  · rw [if_neg z0] at y; cases y
end
section
variable {Γ : List En} {te ta tb tc tl : TE} {x y z : D} {ds zs : List D} {C : CnL} {R : List D → Prop} {P : Po} {i : Nat}
/-- f(.., [..]) -/
theorem ef_callL3 (ha : EvP ta Γ x) (hb : EvP tb Γ y) (hc : EvP tc Γ z) (hl : EvF tl Γ ds) (hC : C [x, y, z] ds R) (hR : ∀ ds', R ds' → ds' = zs) : EvF (tCall (spL C) [] E0 (tCons ta (tCons tb (tCons tc (tCons tl tNil))))) Γ zs := fun c F H σ G Q q =>
  ha c F H σ G _ fun v1 F1 H1 S1 r1 => hb c F1 H1 σ (G.step S1) _ fun v2 F2 H2 S2 r2 => hc c F2 H2 σ ((G.step S1).step S2) _ fun v3 F3 H3 S3 r3 => hl c F3 H3 σ (((G.step S1).step S2).step S3) _ fun a xs F4 H4 S4 na fa hat r4 => by
    have S := (S1.trans S2).trans S3
    have n0 : H a = none := by
      cases w : H a with
      | none => rfl
      | some o => rw [S.h _ _ w] at na; cases na
    show spL C ([v1, v2, v3, .ref a] ++ []) H4 Q E0
    refine ⟨F4, [x, y, z], [v1, v2, v3], a, xs, ds, R, rfl, S4.fh, fa, hat, ⟨v1, _, rfl, ((r1.mono S2.f).mono S3.f).mono S4.f, v2, _, rfl, (r2.mono S3.f).mono S4.f, v3, _, rfl, r3.mono S4.f, rfl⟩, r4, hC, fun ds' xs' F' H' hr x' fh f' h' rr keep nw => ?_⟩
    have := hR ds' hr
    subst this
    refine q a xs' F' H' ⟨(S.f.trans S4.f).trans x', fun p o e => keep p o (fun e' => by subst e'; rw [n0] at e; cases e) (S4.h _ _ (S.h _ _ e)), fh, fun p e => ?_⟩ n0 f' h' rr
    rcases nw p e with w | w
    · exact (S.trans S4).nw p w
    · exact .inr (by
        cases w' : H p with
        | none => rfl
        | some o => rw [S4.h _ _ (S.h _ _ w')] at w; cases w)
/-- f(.., x), x a list of a slot, its value dropped -/
theorem sw_dropL3 (hm : Mt Γ i ds) (ha : EvP ta Γ x) (hb : EvP tb Γ y) (hc : EvP tc Γ z) (hC : C [x, y, z] ds R) (hn : ∀ ds', R ds' → P.nx (pt Γ i ds')) : SW (tDrop (tCall (spL C) [] E0 (tCons ta (tCons tb (tCons tc (tCons (tVar i) tNil)))))) Γ P := fun c F H σ G D e1 e2 e3 e4 =>
  ha c F H σ G _ fun v1 F1 H1 S1 r1 => hb c F1 H1 σ (G.step S1) _ fun v2 F2 H2 S2 r2 => hc c F2 H2 σ ((G.step S1).step S2) _ fun v3 F3 H3 S3 r3 => by
    have S := (S1.trans S2).trans S3
    have G3 := G.step S
    obtain ⟨a, xs, e, q1, q2, q3, q4, q5, q6⟩ := G3.mt hm
    refine ⟨_, q1, ?_⟩
    show spL C ([v1, v2, v3, .ref a] ++ []) H3 (fun _ H1 => D.nx σ H1) E0
    refine ⟨F3, [x, y, z], [v1, v2, v3], a, xs, ds, R, rfl, S3.fh, q4, q2, ⟨v1, _, rfl, (r1.mono S2.f).mono S3.f, v2, _, rfl, r2.mono S3.f, v3, _, rfl, r3, rfl⟩, q3, hC, fun ds' xs' F' H' hr x' fh f' h' rr keep nw => ?_⟩
    have S5 : Stp F3 H3 F' (upd H' a (.lst xs)) := by
      refine ⟨x', fun p o e => ?_, fun p o e => ?_, nw⟩
      · by_cases w : p = a
        · subst w; rw [q2] at e; cases e; exact upd_same
        · rw [upd_ne w]; exact keep p o w e
      · have w : p ≠ a := fun w => by subst w; rw [f'] at e; cases e
        rw [upd_ne w]; exact fh p o e
    have G5 := (G3.step S5).pt hm q1 rr
    have eu : upd (upd H' a (.lst xs)) a (.lst xs') = H' := by
      funext p
      by_cases w : p = a
      · subst w; rw [upd_same]; exact h'.symm
      · rw [upd_ne w, upd_ne w]
    rw [eu] at G5
    exact e1 _ F' H' σ (hn ds' hr) G5 (S.f.trans x')
end
end DL
set_option Elab.async false
set_option linter.all false
set_option maxRecDepth 100000
set_option maxHeartbeats 4000000
namespace DL
open PySem PySem.Spec PyProof.Rows L2
theorem rd_ixStr {z : Str} {i : Int} {c : Nat} (hz : z.length ≤ sizeLine) (h : atI z.cps.toList i = some c) : RD rIxS (.str z) (.int i) (.str ⟨#[c]⟩) := fun F H vx vy e rx ry Q k => ⟨z, i, c, rx, ry, hz, h, k _ F H (.refl e) rfl⟩
theorem rc_sum {K : PySem.W.Frag} {ns : List Int} : RC (rSum K) [.lst (ns.map D.int)] (.int ns.sum) := fun F H vs e r Q k => by
  obtain ⟨v, _, rfl, ⟨a, xs, rfl, h1, h2⟩, rfl⟩ := r
  have ex := h2.ints_eq
  subst ex
  exact ⟨a, ns, rfl, .inl (.inl (e _ _ h1)), k _ F H (.refl e) rfl⟩
theorem sum_cast : ∀ l : List Nat, (l.map fun (n : Nat) => (n : Int)).sum = ((l.sum : Nat) : Int)
  | [] => rfl
  | n :: l => by rw [List.map_cons, List.sum_cons, List.sum_cons, sum_cast l]; omega
end DL
namespace Lw
open PySem PySem.Spec PyProof.Rows L2 DL
local macro_rules | `(tactic| walk_at "sd") => `(tactic| first
  | assumption
  | exact .inl ⟨by decide, by decide⟩ | exact ⟨by decide, by decide, by decide⟩ | exact ⟨by decide, by decide⟩
  | (show (0 : Int) < _; first | decide | omega) | exact ⟨by omega, by omega⟩ | exact .inl ⟨by omega, by omega⟩ | exact .inr ⟨by omega, by omega⟩ | exact .inr ⟨by decide, by decide⟩ | omega)
local macro_rules | `(tactic| walk_at "ep") => `(tactic| first
  | exact ep_int | exact ep_str | exact ep_bl | exact ep_non | exact ep_ref | exact ep_ty
  | exact ep_var rfl
  | (refine' ep_ixM (.inr rfl) ?ka ?kr; (case ka => walk_at "ep"); (case kr => exact rfl))
  | (refine' ep_ixM (.inl rfl) ?ka ?kr; (case ka => walk_at "ep"); (case kr => exact rfl))
  | (refine' ep_op ?ka ?kb rd_I0i; (case ka => walk_at "ep"); (case kb => walk_at "ep"))
  | (refine' ep_op ?ka ?kb rd_I0b; (case ka => walk_at "ep"); (case kb => walk_at "ep"))
  | (refine' ep_op ?ka ?kb (rd_Ii ?sd); (case ka => walk_at "ep"); (case kb => walk_at "ep"); (case sd => walk_at "sd"))
  | (refine' ep_op ?ka ?kb rd_eqI; (case ka => walk_at "ep"); (case kb => walk_at "ep"))
  | (refine' ep_op ?ka ?kb rd_eqS; (case ka => walk_at "ep"); (case kb => walk_at "ep"))
  | (refine' ep_op ?ka ?kb rd_neI; (case ka => walk_at "ep"); (case kb => walk_at "ep"))
  | (refine' ep_op ?ka ?kb rd_neS; (case ka => walk_at "ep"); (case kb => walk_at "ep")))
local macro_rules | `(tactic| walk_at "et") => `(tactic| first
  | (refine' et_test ?ka; (case ka => walk_at "ep"))
  | (refine' et_not ?ka; (case ka => walk_at "et"))
  | (refine' et_and ?ka fun _ => ?kb; (case ka => walk_at "et"); (case kb => walk_at "et"))
  | (refine' et_or ?ka fun _ => ?kb; (case ka => walk_at "et"); (case kb => walk_at "et")))
def top (i : Nat) : Stmt := PySem.Challenge.pw_levelcolumns_k43_nodes_that_asks_need.main.body.getD i (.Pass ⟨0, 0, 0, 0⟩)
abbrev s_line_to : Stmt := top 16
abbrev s_open_line_to : Stmt := top 17
abbrev s_leaves_below : Stmt := top 18
abbrev s__leaves_from : Stmt := top 19
abbrev s__count_levels : Stmt := top 20
abbrev s_is_filtered_node : Stmt := top 23
abbrev s_is_test : Stmt := top 24
abbrev s_test_nodes : Stmt := top 25
abbrev s__is_comparison : Stmt := top 26
abbrev s_needs_of : Stmt := top 29
abbrev s_check_ask : Stmt := top 30
abbrev s__is_ask : Stmt := top 31
abbrev s__needs : Stmt := top 32
abbrev s__needed_node : Stmt := top 33
abbrev s__law_tape : Stmt := top 35
abbrev s__law_next : Stmt := top 36
abbrev s__law_tree : Stmt := top 37
abbrev s__law_text : Stmt := top 38
abbrev s__law_all : Stmt := top 39
abbrev s__law_open_above : Stmt := top 40
abbrev s__law_wish : Stmt := top 41
abbrev s__law_test : Stmt := top 42
abbrev s__law_right : Stmt := top 43
abbrev s_law : Stmt := top 44
theorem sc__law_tape : FnScope ["script", "k", "cell_here"] ["script", "k"] (defScope s__law_tape) := ⟨rfl, rfl, rfl, by decide +kernel, rfl, by decide +kernel, by decide +kernel⟩
theorem sc__law_next : FnScope ["tape", "many", "digit", "mixed"] ["tape", "many"] (defScope s__law_next) := ⟨rfl, rfl, rfl, by decide +kernel, rfl, by decide +kernel, by decide +kernel⟩
abbrev FnP (K : PySem.W.Frag) (x : Str) (st : Stmt) (f : Addr) (fd : FuncData) : Prop := FunD K x x (defArgs st) (defBody st) (defScope st) [] [] f fd
/-- the built-in names that the text leaves alone -/
structure Tx (mg : Str → Option Value) : Prop where
  z_len : mg "len" = none
  z_abs : mg "abs" = none
  z_max : mg "max" = none
  z_min : mg "min" = none
  z_range : mg "range" = none
  z_tuple : mg "tuple" = none
  z_zip : mg "zip" = none
  z_enumerate : mg "enumerate" = none
  z_sum : mg "sum" = none
  z_list : mg "list" = none
  z_repr : mg "repr" = none
  z_any : mg "any" = none
  z_int : mg "int" = none
  z_type : mg "type" = none
  z_all : mg "all" = none
  z_sorted : mg "sorted" = none
  z_set : mg "set" = none
  z_str : mg "str" = none
def C_tape (K : PySem.W.Frag) : CnF := fun es Rl => ∃ (a : Addr) (ns : List Int) (p : Prop) (k : Nat), es = [.scr a ns p, .int k] ∧ (p → KLs K a (ns.map V.int)) ∧ k ≤ 1000 ∧
  Rl = fun ds => ∃ s : S3, ds = [.int s.p, .int s.x, .int s.y] ∧ Sp s.p s.x s.y 0
abbrev SpS (s : S3) (n : Nat) : Prop := Sp s.p s.x s.y n
def C_next : CnY S3 := fun k es R => ∃ (m : Int) (n : Nat), es = [.int m] ∧ SpS k n ∧ n ≤ 1000000000 ∧ 1 ≤ m ∧ m < 1073741824 ∧ R = fun d k' => ∃ r : Int, d = .int r ∧ 0 ≤ r ∧ r < m ∧ SpS k' (n + 1)
section
variable {P : Program} {w : World} {K : PySem.W.Frag} {mg : Str → Option Value} {base : Heap} {f : Addr} {fd : FuncData}
theorem cpow4 {x : Int} {m : Int} (h0 : 0 ≤ x) (h1 : x < 2 ^ 300) (m0 : 0 ≤ m) (m1 : m ≤ 100) : CPowW x m := by
  refine ⟨m0, ?_⟩
  have h := intBits_le (a := x) (k := 300) (by omega)
  have : (Builtin.Int.intBits x : Int) * m ≤ 300 * 100 := Int.mul_le_mul (by omega) m1 m0 (by decide)
  omega
theorem ok_lnext (F : FnP K "_law_next" s__law_next f fd) : FnOk P w K mg base CX0 1 f fd ["tape", "many"] (spY K3 C_next) := by
  refine fn_okY K3.two F sc__law_next (fun k es R ⟨m, n, h, _⟩ => by subst h; rfl) fun cdv A outer s H E hr => ⟨_, (pss_cons (ps_if (pt_cmpR op_gt (pe_ix ix_list (pv 0) pe_int (fun _ _ => rfl)) pe_int (nomark _)) (pss_cons (ps_set (i := 2) sc__law_next.nd rfl (by first | exact Or.inl rfl | exact Or.inr rfl) (pe_op op_mod (pe_ix ix_list (pv 0) pe_int (fun _ _ => rfl)) (pv 1)))
      (pss_cons (ps_asg (pe_op op_fdiv (pe_ix ix_list (pv 0) pe_int (fun _ _ => rfl)) (pv 1)) (pg_sub (pv 0) pe_int set_list))
      (pss_one (ps_ret (pv 2))))) pss_nil)
      (pss_cons (ps_asg (pe_op op_add (pe_ix ix_list (pv 0) pe_int (fun _ _ => rfl)) pe_int) (pg_sub (pv 0) pe_int set_list))
      (pss_cons (ps_set (i := 3) sc__law_next.nd rfl (by first | exact Or.inl rfl | exact Or.inr rfl) (pe_op op_mod (pe_op op_powW (pe_op op_add (pe_ix ix_list (pv 0) pe_int (fun _ _ => rfl)) (pe_op op_mul pe_int (pe_ix ix_list (pv 0) pe_int (fun _ _ => rfl)))) pe_int) (pe_op op_add (pe_op op_pow pe_int pe_int) pe_int)))
      (pss_cons (ps_set (i := 3) sc__law_next.nd rfl (by first | exact Or.inl rfl | exact Or.inr rfl) (pe_op op_mod (pe_op op_powW (pe_op op_add (pv 3) (pe_op op_mul pe_int (pe_ix ix_list (pv 0) pe_int (fun _ _ => rfl)))) pe_int) (pe_op op_add (pe_op op_pow pe_int pe_int) pe_int)))
      (pss_one (ps_ret (pe_op op_mod (pe_op op_fdiv (pv 3) pe_int) (pv 1)))))))), ?_⟩
  rintro z k es R ⟨a, rfl⟩ ⟨m, n, rfl, hs, hn, hm1, hm2, rfl⟩
  show SY (cell3 a) _ [.sh (.ref a), .sh (.int m), .un, .un] k _
  have x0 : ∀ {Γ : List En} {k : S3}, Γ[0]? = some (.sh (.ref a)) → Ey3 a (tOp (rIxL K) (tVar 0) (tC (.int 0))) Γ k k.p := fun h => e3_ix h rfl
  have x1 : ∀ {Γ : List En} {k : S3}, Γ[0]? = some (.sh (.ref a)) → Ey3 a (tOp (rIxL K) (tVar 0) (tC (.int 1))) Γ k k.x := fun h => e3_ix h rfl
  have x2 : ∀ {Γ : List En} {k : S3}, Γ[0]? = some (.sh (.ref a)) → Ey3 a (tOp (rIxL K) (tVar 0) (tC (.int 2))) Γ k k.y := fun h => e3_ix h rfl
  refine sy_guardY (R := fun v k' => v = decide (k.p > 0) ∧ k' = k) (ety_test (R1 := fun d k' => d = .bl (decide (k.p > 0)) ∧ k' = k) (ey_op (x0 rfl) fun x k' ⟨e1, e2⟩ => by subst e1 e2; exact ey_p ep_int ⟨_, rd_I0b, rfl, rfl⟩) fun d k' ⟨e1, e2⟩ => ⟨_, e1, rfl, e2⟩) ?_ ?_
  · rintro k1 ⟨hv, rfl⟩
    have hp : 0 < k1.p := of_decide_eq_true hv.symm
    refine qy_asg3 (e3_op (x0 rfl) (e3_p (ep_var rfl)) (rd_Ii (by omega))) ?_
    show SY (cell3 a) _ [.sh (.ref a), .sh (.int m), .sh (.int (k1.p % m)), .un] k1 _
    refine qy_set3 (m := k1.p / m) (j := 0) (k' := ⟨k1.p / m, k1.x, k1.y⟩) rfl (e3_op (x0 rfl) (e3_p (ep_var rfl)) (rd_Ii ⟨by omega, by omega⟩)) rfl rfl ?_
    refine sy_retP (d := .int (k1.p % m)) (ep_var rfl) ⟨_, rfl, Int.emod_nonneg _ (by omega), Int.emod_lt_of_pos _ (by omega), Int.ediv_nonneg hs.a0 (by omega), hs.b0, hs.b1, hs.c0, by have := hs.c1; show k1.y ≤ _; omega⟩
  · rintro k1 ⟨_, rfl⟩
    have hc0 := hs.c0
    have hc1 := hs.c1
    have hb0 := hs.b0
    have hb1 := hs.b1
    refine qy_set3 (m := k1.y + 1) (j := 2) (k' := ⟨k1.p, k1.x, k1.y + 1⟩) rfl (e3_op (x2 rfl) (e3_p ep_int) rd_I0i) rfl rfl ?_
    refine qy_asg3 (v := (k1.x + 1000000033 * (k1.y + 1)) ^ (3 : Int).toNat % (10 ^ (64 : Int).toNat + 57)) (e3_op (e3_op (e3_op (Ey3.cast (v := k1.x) (x1 rfl) rfl) (e3_op (e3_p ep_int) (Ey3.cast (v := k1.y + 1) (x2 rfl) rfl) (rd_Ii (.inl ⟨by decide, by decide⟩))) rd_I0i) (e3_p ep_int) (rd_Ii (cpow4 (by omega) (by omega) (by decide) (by decide)))) (e3_op (e3_op (e3_p ep_int) (e3_p ep_int) (rd_Ii ⟨by decide, by decide, by decide⟩)) (e3_p ep_int) rd_I0i) (rd_Ii (by decide))) ?_
    have hx0 : 0 ≤ (k1.x + 1000000033 * (k1.y + 1)) ^ (3 : Int).toNat % (10 ^ (64 : Int).toNat + 57) := Int.emod_nonneg _ (by decide)
    have hx1 : (k1.x + 1000000033 * (k1.y + 1)) ^ (3 : Int).toNat % (10 ^ (64 : Int).toNat + 57) < 2 ^ 250 := Int.lt_of_lt_of_le (Int.emod_lt_of_pos _ (by decide)) (by decide)
    generalize (k1.x + 1000000033 * (k1.y + 1)) ^ (3 : Int).toNat % (10 ^ (64 : Int).toNat + 57) = y at hx0 hx1
    show SY (cell3 a) _ [.sh (.ref a), .sh (.int m), .un, .sh (.int y)] ⟨k1.p, k1.x, k1.y + 1⟩ _
    refine qy_asg3 (v := (y + 998244397 * (k1.y + 1)) ^ (3 : Int).toNat % (10 ^ (64 : Int).toNat + 9)) (e3_op (e3_op (e3_op (e3_p (ep_var rfl)) (e3_op (e3_p ep_int) (Ey3.cast (v := k1.y + 1) (x2 rfl) rfl) (rd_Ii (.inl ⟨by decide, by decide⟩))) rd_I0i) (e3_p ep_int) (rd_Ii (cpow4 (by omega) (by omega) (by decide) (by decide)))) (e3_op (e3_op (e3_p ep_int) (e3_p ep_int) (rd_Ii ⟨by decide, by decide, by decide⟩)) (e3_p ep_int) rd_I0i) (rd_Ii (by decide))) ?_
    generalize (y + 998244397 * (k1.y + 1)) ^ (3 : Int).toNat % (10 ^ (64 : Int).toNat + 9) = y2
    show SY (cell3 a) _ [.sh (.ref a), .sh (.int m), .un, .sh (.int y2)] ⟨k1.p, k1.x, k1.y + 1⟩ _
    refine sy_retP (d := .int (y2 / 29983 % m)) (ep_op (ep_op (ep_var rfl) ep_int (rd_Ii ⟨by decide, by decide⟩)) (ep_var rfl) (rd_Ii (by omega))) ⟨_, rfl, Int.emod_nonneg _ (by omega), Int.emod_lt_of_pos _ (by omega), hs.a0, hb0, hb1, ?_, ?_⟩
    · show 0 ≤ k1.y + 1; omega
    · show k1.y + 1 ≤ _; omega
/-- a draw in a body -/
theorem ey_next {a : Addr} {Γ : List En} {k : S3} {i n : Nat} {ta : TA} {m : Int} {R : D → S3 → Prop} (hi : Γ[i]? = some (.sh (.ref a))) (ha : EaP ta Γ [.int m]) (hf : SpS k n) (hn : n ≤ 1000000000) (h1 : 1 ≤ m) (h2 : m < 1073741824) (hR : ∀ r k', 0 ≤ r → r < m → SpS k' (n + 1) → R (.int r) k') : EvY (cell3 a) (tCall (spY K3 C_next) [] E0 (tCons (tVar i) ta)) Γ k R :=
  EvY.imp (ey_call ⟨a, rfl⟩ hi ha ⟨m, n, rfl, hf, hn, h1, h2, rfl⟩) fun d k' ⟨r, e, h3, h4, h5⟩ => by subst e; exact hR r k' h3 h4 h5
theorem ok_tape (T : Tx mg) (F : FnP K "_law_tape" s__law_tape f fd) : FnOk P w K mg base CX0 1 f fd ["script", "k"] (spF (C_tape K)) := by
  refine fn_okF F sc__law_tape (fun es R ⟨a, ns, p, k, h, _⟩ => by subst h; rfl) fun cdv A outer s H E hr => ⟨_, _, (pss_cons (ps_set (i := 2) sc__law_tape.nd rfl (by first | exact Or.inl rfl | exact Or.inr rfl) (pe_ifExp (pt_cmpR op_lt (pv 1) (pe_callB call_len_seq rfl T.z_len (by decide +kernel) (pa_cons (pv 0) pa_nil)) (nomark _)) (pe_callB call_abs rfl T.z_abs (by decide +kernel) (pa_cons (pe_ix ix_list (pv 0) (pv 1) (fun _ _ => rfl)) pa_nil)) pe_int))
      (pss_one (ps_ret (pe_lst (pa_cons (pe_callB (call_max2 rfl) rfl T.z_max (by decide +kernel) (pa_cons pe_int (pa_cons (pe_op op_sub (pv 2) (pe_op op_pow pe_int pe_int)) pa_nil))) (pa_cons (pe_op op_add (pe_op op_mul (pe_op op_mod (pv 2) (pe_op op_add (pe_op op_pow pe_int pe_int) pe_int)) pe_int) (pv 1)) (pa_cons pe_int pa_nil))))))), ?_⟩
  rintro es Rl ⟨a, ns, p, k, rfl, hp, hk, rfl⟩
  have key : ∃ x : Int, 0 ≤ x ∧ EvP (tIf (tTest (tOp (rI0 fun i j => V.bl (decide (i < j))) (tVar 1) (tCB (rLenS K) (tCons (tVar 0) tNil)))) (tCB (fun xs H Q => ∃ i, xs = [V.int i] ∧ Q (.int (if i < 0 then -i else i)) H) (tCons (tOp (rIxL K) (tVar 0) (tVar 1)) tNil)) (tC (.int 0))) [.sh (.scr a ns p), .sh (.int k), .un] (.int x) := by
    by_cases h : k < ns.length
    · refine ⟨if ns[k] < 0 then -ns[k] else ns[k], by split <;> omega, ?_⟩
      refine ep_if (b := true) (et_test ((ep_op (ep_var rfl) (ep_cb (ea_cons (ep_var rfl) ea_nil) (rc_lenScr hp)) rd_I0b).cast ?_)) (fun _ => ?_) (fun z => by cases z)
      · exact congrArg D.bl (decide_eq_true (by omega))
      · exact ep_cb (ea_cons (x := .int ns[k]) (ep_op (ep_var rfl) (ep_var rfl) (rd_ixScr hp (n := ns[k]) (atI_nat (List.getElem?_eq_getElem h)))) ea_nil) (rc_int1 (f := fun i => if i < 0 then -i else i))
    · refine ⟨0, Int.le_refl _, ?_⟩
      refine ep_if (b := false) (et_test ((ep_op (ep_var rfl) (ep_cb (ea_cons (ep_var rfl) ea_nil) (rc_lenScr hp)) rd_I0b).cast ?_)) (fun z => by cases z) (fun _ => ep_int)
      exact congrArg D.bl (decide_eq_false (by omega))
  obtain ⟨x, hx0, hE⟩ := key
  refine ⟨fun Γ' => Γ' = [.sh (.scr a ns p), .sh (.int k), .sh (.int x)], sw_asg hE rfl, ?_⟩
  rintro _ rfl
  have hm0 : 0 ≤ x % (10 ^ (36 : Int).toNat + 67) := Int.emod_nonneg _ (by decide)
  have hm1 : x % (10 ^ (36 : Int).toNat + 67) < 10 ^ (36 : Int).toNat + 67 := Int.emod_lt_of_pos _ (by decide)
  refine EvF.r (ds := [.int (if x - 10 ^ (18 : Int).toNat > 0 then x - 10 ^ (18 : Int).toNat else 0), .int (x % (10 ^ (36 : Int).toNat + 67) * 71 + k), .int 0]) (ef_lst (ea_cons (ep_cb (ea_cons ep_int (ea_cons ?_ ea_nil)) (rc_int2 (f := fun i j => if j > i then j else i))) (ea_cons ?_ (ea_cons ep_int ea_nil))) (by show 3 ≤ sizeLine; decide)) ⟨⟨_, _, _⟩, rfl, ?_⟩
  · walk_at "ep"
  · exact ep_op (ep_op (ep_op (ep_var rfl) (ep_op (ep_op (x := .int 10) (y := .int 36) ep_int ep_int (rd_Ii ⟨by decide, by decide, by decide⟩)) ep_int rd_I0i) (rd_Ii (by decide))) ep_int (rd_Ii (.inr ⟨by decide, by decide⟩))) (ep_var rfl) rd_I0i
  · generalize x % (10 ^ (36 : Int).toNat + 67) = y at hm0 hm1
    have e : (10 : Int) ^ (36 : Int).toNat + 67 = 1000000000000000000000000000000000067 := by decide
    rw [e] at hm1
    refine ⟨?_, ?_, ?_, Int.le_refl 0, Int.le_refl 0⟩
    · show 0 ≤ (if x - 10 ^ (18 : Int).toNat > 0 then x - 10 ^ (18 : Int).toNat else 0)
      split <;> omega
    · show 0 ≤ y * 71 + k; omega
    · show y * 71 + k < _; omega
theorem fn_none {C : Cn} (h : ∀ Γ R, ¬ C Γ R) {k : Nat} {ps : List Str} : FnOk P w K mg base CX0 k f fd ps (spE C) :=
  ⟨fun vs H Q E ⟨_, _, _, _, _, _, hC, _⟩ => absurd hC (h _ _), fun A outer s H args us vs Q E _ _ _ _ ⟨_, _, _, _, _, _, hC, _⟩ => absurd hC (h _ _)⟩
end
end Lw
set_option Elab.async false
set_option linter.all false
set_option maxRecDepth 100000
set_option maxHeartbeats 4000000
namespace Lw
open PySem PySem.Spec PyProof.Rows L2 DL
local macro_rules | `(tactic| walk_at "sd") => `(tactic| first
  | assumption
  | exact .inl ⟨by decide, by decide⟩ | exact ⟨by decide, by decide, by decide⟩ | exact ⟨by decide, by decide⟩
  | (show (0 : Int) < _; first | decide | omega) | exact ⟨by omega, by omega⟩ | exact .inl ⟨by omega, by omega⟩ | exact .inr ⟨by omega, by omega⟩ | exact .inr ⟨by decide, by decide⟩ | omega)
local macro_rules | `(tactic| walk_at "ep") => `(tactic| first
  | exact ep_int | exact ep_str | exact ep_bl | exact ep_non | exact ep_ref | exact ep_ty
  | exact ep_var rfl
  | (refine' ep_ixM (.inr rfl) ?ka ?kr; (case ka => walk_at "ep"); (case kr => exact rfl))
  | (refine' ep_ixM (.inl rfl) ?ka ?kr; (case ka => walk_at "ep"); (case kr => exact rfl))
  | (refine' ep_op ?ka ?kb rd_I0i; (case ka => walk_at "ep"); (case kb => walk_at "ep"))
  | (refine' ep_op ?ka ?kb rd_I0b; (case ka => walk_at "ep"); (case kb => walk_at "ep"))
  | (refine' ep_op ?ka ?kb (rd_Ii ?sd); (case ka => walk_at "ep"); (case kb => walk_at "ep"); (case sd => walk_at "sd"))
  | (refine' ep_op ?ka ?kb rd_eqI; (case ka => walk_at "ep"); (case kb => walk_at "ep"))
  | (refine' ep_op ?ka ?kb rd_eqS; (case ka => walk_at "ep"); (case kb => walk_at "ep"))
  | (refine' ep_op ?ka ?kb rd_neI; (case ka => walk_at "ep"); (case kb => walk_at "ep"))
  | (refine' ep_op ?ka ?kb rd_neS; (case ka => walk_at "ep"); (case kb => walk_at "ep")))
local macro_rules | `(tactic| walk_at "et") => `(tactic| first
  | (refine' et_test ?ka; (case ka => walk_at "ep"))
  | (refine' et_not ?ka; (case ka => walk_at "et"))
  | (refine' et_and ?ka fun _ => ?kb; (case ka => walk_at "et"); (case kb => walk_at "et"))
  | (refine' et_or ?ka fun _ => ?kb; (case ka => walk_at "et"); (case kb => walk_at "et")))
mutual
theorem tx_len : ∀ (t : Tr), ok t → (tx t).length ≤ 24 * (lv t * (dp t + 1))
  | .v, _ => by simp [tx, lv, dp]
  | .o true t, h => by
    have h1 := tx_len t h
    have h2 := lv_pos t h
    show (91 :: (tx t ++ [93])).length ≤ 24 * (lv t * (dp t + 1 + 1))
    rw [Nat.mul_add (lv t) (dp t + 1) 1]
    simp
    omega
  | .o false t, h => by
    have h1 := tx_len t h
    have h2 := lv_pos t h
    show (63 :: tx t).length ≤ 24 * (lv t * (dp t + 1 + 1))
    rw [Nat.mul_add (lv t) (dp t + 1) 1]
    simp
    omega
  | .r fs, h => by
    have h1 := txs_len fs h.2.2.2 h.2.2.1
    have h2 := lvs_pos fs h.2.2.2
    have h3 := lv_pos (.r fs) h
    have h5 : lv (.r fs) = lvs fs := rfl
    have h4 := joinL_len [32] (txs fs)
    have h6 := h1.2
    show (123 :: (TL.joinL [32] (txs fs) ++ [125])).length ≤ 24 * (lvs fs * (dps fs + 1 + 1))
    rw [Nat.mul_add (lvs fs) (dps fs + 1) 1]
    simp at h4 ⊢
    omega
theorem txs_len : ∀ (fs : List (Str × Tr)), oks fs → (∀ x ∈ fs.map (·.1), x ∈ NM) → ((txs fs).map (·.length)).sum ≤ 24 * (lvs fs * (dps fs + 1)) + 9 * fs.length ∧ (txs fs).length = fs.length
  | [], _, _ => by simp [txs]
  | (n, t) :: r, h, hn => by
    have h1 := tx_len t h.1
    have h2 := txs_len r h.2 fun x hx => hn x (List.mem_cons_of_mem _ hx)
    have h3 : n.cps.toList.length ≤ 8 := by
      have := NM_len n (hn n (List.mem_cons_self ..))
      have h : n.cps.toList.length = n.length := by simp [Str.length]
      omega
    have h4 : lv t * (dp t + 1) ≤ lv t * (max (dp t) (dps r) + 1) := Nat.mul_le_mul_left _ (by omega)
    have h5 : lvs r * (dps r + 1) ≤ lvs r * (max (dp t) (dps r) + 1) := Nat.mul_le_mul_left _ (by omega)
    refine ⟨?_, congrArg Nat.succ h2.2⟩
    show (n.cps.toList ++ 58 :: tx t).length + ((txs r).map (·.length)).sum ≤ 24 * ((lv t + lvs r) * (max (dp t) (dps r) + 1)) + 9 * (r.length + 1)
    rw [List.length_append, List.length_cons, Nat.add_mul]
    have := h2.1
    omega
end
section
variable {P : Program} {w : World} {K : PySem.W.Frag} {mg : Str → Option Value} {base : Heap} {f : Addr} {fd : FuncData}
theorem txs_map (fs : List (Str × Tr)) : txs fs = fs.map fun p => p.1.cps.toList ++ 58 :: tx p.2 := by
  induction fs with
  | nil => rfl
  | cons p r ih => obtain ⟨n, t⟩ := p; simp [txs, ih]
theorem nm_S (n : Str) (l : List Nat) : n ++ (":" : Str) ++ SX.S l = SX.S (n.cps.toList ++ 58 :: l) := by
  have e : n = SX.S n.cps.toList := (SX.S_tl n).symm
  have e2 : (":" : Str) = SX.S [58] := by decide +kernel
  rw [e2]
  conv => lhs; rw [e]
  rw [SX.S_cat, SX.S_cat, List.append_assoc]
  rfl
theorem mul_le {a b c d : Nat} (h1 : a ≤ c) (h2 : b ≤ d) : a * b ≤ c * d := Nat.mul_le_mul h1 h2
theorem S_le {l : List Nat} {n : Nat} (h : l.length ≤ n) : (SX.S l).length ≤ n := by rw [SX.S_len]; exact h
theorem add_ok {a b : Str} (h1 : a.length ≤ 5000000) (h2 : b.length ≤ 5000000) : a.length + b.length ≤ sizeLine := Nat.le_trans (Nat.add_le_add h1 h2) (by decide)
theorem lit_le {a : Str} (h : decide (a.length ≤ 5000000) = true) : a.length ≤ 5000000 := of_decide_eq_true h
theorem sl {n : Nat} (h : n ≤ 10000000) : n ≤ sizeLine := Nat.le_trans h (by decide)
theorem mem_oks : ∀ {fs : List (Str × Tr)} {p : Str × Tr}, oks fs → p ∈ fs → ok p.2 ∧ lv p.2 ≤ lvs fs ∧ dp p.2 ≤ dps fs ∧ op p.2 ≤ ops fs
  | (m, t) :: r, p, h, hp => by
    rcases List.mem_cons.mp hp with rfl | hp
    · exact ⟨h.1, Nat.le_add_right _ _, Nat.le_max_left _ _, Nat.le_max_left _ _⟩
    · obtain ⟨h1, h2, h3, h4⟩ := mem_oks h.2 hp
      exact ⟨h1, Nat.le_trans h2 (Nat.le_add_left _ _), Nat.le_trans h3 (Nat.le_max_right _ _), Nat.le_trans h4 (Nat.le_max_right _ _)⟩
theorem lvs_sum : ∀ fs : List (Str × Tr), lvs fs = (fs.map fun p => lv p.2).sum
  | [] => rfl
  | (m, t) :: r => by rw [lvs, lvs_sum r]; rfl
end
end Lw
set_option Elab.async false
set_option linter.all false
set_option maxRecDepth 100000
set_option autoImplicit false
set_option maxHeartbeats 4000000
namespace Lw
open PySem PySem.Spec PyProof.Rows L2 DL
def mth (i j : Nat) : Stmt := (C8.clsBody (PySem.Challenge.pw_levelcolumns_k43_nodes_that_asks_need.main.body.getD i (.Pass ⟨0, 0, 0, 0⟩))).getD j (.Pass ⟨0, 0, 0, 0⟩)
abbrev s_SchemaReader___init__ : Stmt := mth 12 0
abbrev s_SchemaReader_read_all : Stmt := mth 12 1
abbrev s_SchemaReader__next_sign : Stmt := mth 12 2
abbrev s_SchemaReader__take : Stmt := mth 12 3
abbrev s_SchemaReader__can_begin : Stmt := mth 12 4
abbrev s_SchemaReader__read_node : Stmt := mth 12 5
abbrev s_SchemaReader__add_node : Stmt := mth 12 6
abbrev s_SchemaReader__read_fields : Stmt := mth 12 7
abbrev s_SchemaReader__read_name : Stmt := mth 12 8
theorem sc_SchemaReader___init__ : FnScope ["self", "text"] ["self", "text"] (defScope s_SchemaReader___init__) := ⟨rfl, rfl, rfl, by decide +kernel, rfl, by decide +kernel, by decide +kernel⟩
theorem sc_SchemaReader_read_all : FnScope ["self"] ["self"] (defScope s_SchemaReader_read_all) := ⟨rfl, rfl, rfl, by decide +kernel, rfl, by decide +kernel, by decide +kernel⟩
theorem sc_SchemaReader__next_sign : FnScope ["self"] ["self"] (defScope s_SchemaReader__next_sign) := ⟨rfl, rfl, rfl, by decide +kernel, rfl, by decide +kernel, by decide +kernel⟩
theorem sc_SchemaReader__take : FnScope ["self", "sign"] ["self", "sign"] (defScope s_SchemaReader__take) := ⟨rfl, rfl, rfl, by decide +kernel, rfl, by decide +kernel, by decide +kernel⟩
theorem sc_SchemaReader__can_begin : FnScope ["self", "sign", "above", "open_above"] ["self", "sign", "above", "open_above"] (defScope s_SchemaReader__can_begin) := ⟨rfl, rfl, rfl, by decide +kernel, rfl, by decide +kernel, by decide +kernel⟩
theorem sc_SchemaReader__read_node : FnScope ["self", "parent", "name", "above", "open_above", "sign", "node"] ["self", "parent", "name", "above", "open_above"] (defScope s_SchemaReader__read_node) := ⟨rfl, rfl, rfl, by decide +kernel, rfl, by decide +kernel, by decide +kernel⟩
theorem sc_SchemaReader__add_node : FnScope ["self", "kind", "parent", "name", "node"] ["self", "kind", "parent", "name"] (defScope s_SchemaReader__add_node) := ⟨rfl, rfl, rfl, by decide +kernel, rfl, by decide +kernel, by decide +kernel⟩
theorem sc_SchemaReader__read_fields : FnScope ["self", "node", "above", "open_above", "taken", "more", "name"] ["self", "node", "above", "open_above"] (defScope s_SchemaReader__read_fields) := ⟨rfl, rfl, rfl, by decide +kernel, rfl, by decide +kernel, by decide +kernel⟩
theorem sc_SchemaReader__read_name : FnScope ["self", "taken", "begin", "name"] ["self", "taken"] (defScope s_SchemaReader__read_name) := ⟨rfl, rfl, rfl, by decide +kernel, rfl, by decide +kernel, by decide +kernel⟩

/-- what the reader's text names -/
structure Rx (K : PySem.W.Frag) (w : World) (mg : Str → Option Value) (C kd : Addr) (es : Array DictEntry) (n : Nat) : Prop where
  z_len : mg "len" = none
  cls : Cls K C
  f_signs : NoAttr K C "signs"
  f_at : NoAttr K C "at"
  f_kinds : NoAttr K C "kinds"
  f_parents : NoAttr K C "parents"
  f_names : NoAttr K C "names"
  f_children : NoAttr K C "children"
  f_begins : NoAttr K C "begins"
  f_ends : NoAttr K C "ends"
  g_MOST_LEAVES : ∃ u, mg "MOST_LEAVES" = some u ∧ RelV (.int 12) u
  g_MOST_NODES : ∃ u, mg "MOST_NODES" = some u ∧ RelV (.int 40) u
  g_MOST_SIGNS : ∃ u, mg "MOST_SIGNS" = some u ∧ RelV (.int 400) u
  g_MOST_ABOVE : ∃ u, mg "MOST_ABOVE" = some u ∧ RelV (.int 20) u
  g_MOST_OPEN_ABOVE : ∃ u, mg "MOST_OPEN_ABOVE" = some u ∧ RelV (.int 8) u
  g_MOST_LETTERS : ∃ u, mg "MOST_LETTERS" = some u ∧ RelV (.int 8) u
  g_KIND_OF_SIGN : ∃ u, mg "KIND_OF_SIGN" = some u ∧ RelV (.ref kd) u
  dk : KDict K w kd es n
  kv : KDct K w kd (SX.S [118]) (.str "value")
  km : KDct K w kd (SX.S [63]) (.str "maybe")
  kl : KDct K w kd (SX.S [91]) (.str "list")
  kr : KDct K w kd (SX.S [123]) (.str "record")
abbrev FnM (K : PySem.W.Frag) (x qual : Str) (st : Stmt) (f : Addr) (fd : FuncData) : Prop := FunD K x qual (defArgs st) (defBody st) (defScope st) [] [] f fd
section
variable {P : Program} {w : World} {K : PySem.W.Frag} {mg : Str → Option Value} {base : Heap} {f : Addr} {fd : FuncData} {C kd : Addr} {es : Array DictEntry} {n : Nat}
variable {c : RC} {H0 H : Hp} {r : RS} {ca : List Addr} {σ : L2.St} {te : TE}
theorem v_signs (T : Rx K w mg c.C kd es n) (h : RdC c H0 H r ca) (v : Val te σ H (.ref c.p)) : Val (tFld K te "signs") σ H (.str (SX.S r.cs)) := val_fld v h.ins T.cls T.f_signs rfl
theorem v_at (T : Rx K w mg c.C kd es n) (h : RdC c H0 H r ca) (v : Val te σ H (.ref c.p)) : Val (tFld K te "at") σ H (.int (r.at_ : Nat)) := val_fld v h.ins T.cls T.f_at rfl
theorem v_kinds (T : Rx K w mg c.C kd es n) (h : RdC c H0 H r ca) (v : Val te σ H (.ref c.p)) : Val (tFld K te "kinds") σ H (.ref c.kA) := val_fld v h.ins T.cls T.f_kinds rfl
theorem v_parents (T : Rx K w mg c.C kd es n) (h : RdC c H0 H r ca) (v : Val te σ H (.ref c.p)) : Val (tFld K te "parents") σ H (.ref c.pA) := val_fld v h.ins T.cls T.f_parents rfl
theorem v_names (T : Rx K w mg c.C kd es n) (h : RdC c H0 H r ca) (v : Val te σ H (.ref c.p)) : Val (tFld K te "names") σ H (.ref c.nA) := val_fld v h.ins T.cls T.f_names rfl
theorem v_children (T : Rx K w mg c.C kd es n) (h : RdC c H0 H r ca) (v : Val te σ H (.ref c.p)) : Val (tFld K te "children") σ H (.ref c.cA) := val_fld v h.ins T.cls T.f_children rfl
theorem v_begins (T : Rx K w mg c.C kd es n) (h : RdC c H0 H r ca) (v : Val te σ H (.ref c.p)) : Val (tFld K te "begins") σ H (.ref c.bA) := val_fld v h.ins T.cls T.f_begins rfl
theorem v_ends (T : Rx K w mg c.C kd es n) (h : RdC c H0 H r ca) (v : Val te σ H (.ref c.p)) : Val (tFld K te "ends") σ H (.ref c.eA) := val_fld v h.ins T.cls T.f_ends rfl
theorem step_at (T : Rx K w mg c.C kd es n) (h : RdC c H0 H r ca) {D : Ends} (v : Val te σ H (.ref c.p)) (q : ∀ H', RdC c H0 H' { r with at_ := r.at_ + 1 } ca → D.nx σ H') : sFldAug K te (tC (.int 1)) rAdd "at" D σ H :=
  st_aug v h.ins T.cls T.f_at rfl val_c (z := .int ((r.at_ + 1 : Nat) : Int)) (fun Q q => ⟨(r.at_ : Int), 1, rfl, rfl, q⟩) (by show 8 < 1000; decide) (by
    have e : putF "at" (.int ((r.at_ + 1 : Nat) : Int)) (c.fs r) = c.fs { r with at_ := r.at_ + 1 } := by simp [RC.fs, putF]; decide
    rw [e]
    exact q _ (h.setAt (r.at_ + 1)))
def spNext (C : Addr) : L2.Sp := fun vs H Q _ => ∃ c H0 r, c.C = C ∧ RdAt c H0 H r ∧ vs = [.ref c.p] ∧ r.cs.length ≤ 400 ∧ Q (sgn r) H
theorem ok_next (T : Rx K w mg C kd es n) (F : FnM K "_next_sign" "SchemaReader._next_sign" s_SchemaReader__next_sign f fd) : FnOk P w K mg base CX0 1 f fd ["self"] (spNext C) := by
  refine F.ok sc_SchemaReader__next_sign (fun vs H Q E ⟨c, H0, r, _, _, e, _⟩ => by subst e; rfl) fun cdv A outer s H vs Q E hr h => ⟨_, PSs.nox (pss_cons (ps_if (PW.pt (pw_and (pt_cmpR op_lt (pe_fld (pv 0) rfl) (pe_callB call_len_str rfl T.z_len (by decide +kernel) (pa_cons (pe_fld (pv 0) rfl) pa_nil)) (nomark _)) (pw_and1 (pt_cmpR op_lt (pe_fld (pv 0) rfl) (pe_gc rfl T.g_MOST_SIGNS) (nomark _))))) (pss_one (ps_ret (pe_ix ix_str (pe_fld (pv 0) rfl) (pe_fld (pv 0) rfl) (fun _ _ => rfl)))) pss_nil)
      (pss_one (ps_ret pe_str))), ?_⟩
  obtain ⟨c, H0, r, rfl, ⟨ca, h⟩, rfl, hl, q⟩ := h
  have v0 : Val (tVar 0) [some (.ref c.p)] H (.ref c.p) := val_var rfl
  by_cases z : r.at_ < r.cs.length
  · refine st_seq (st_yes (ans_and (ans_lt (v_at T h v0) (val_lenS (v_signs T h v0) (sl (S_le (by omega)))) ?_) (ans_lt (v_at T h v0) val_c ?_)) ?_)
    · rw [SX.S_len]; exact decide_eq_true (by omega)
    · exact decide_eq_true (by omega)
    · refine st_ret (v := sgn r) (val_op (v_signs T h v0) (v_at T h v0) fun Q q => ⟨SX.S r.cs, r.at_, r.cs[r.at_], rfl, rfl, sl (S_le (by omega)), ?_, ?_⟩) q
      · show atI r.cs (r.at_ : Nat) = _
        exact atI_nat (List.getElem?_eq_getElem z)
      · unfold sgn at q; rw [List.getElem?_eq_getElem z] at q; exact q
  · refine st_seq (st_no (ans_and0 (ans_lt (v_at T h v0) (val_lenS (v_signs T h v0) (sl (S_le (by omega)))) ?_)) ?_)
    · rw [SX.S_len]; exact decide_eq_false (by omega)
    · refine st_next ?_
      dsimp only
      refine st_ret (v := sgn r) ?_ q
      have e : sgn r = .str (SX.S []) := by unfold sgn; rw [List.getElem?_eq_none (by omega)]; rfl
      rw [e]; exact val_c
def spTake (C : Addr) : L2.Sp := fun vs H Q _ => ∃ c H0 r x, c.C = C ∧ RdAt c H0 H r ∧ vs = [.ref c.p, .str (SX.S [x])] ∧ r.cs.length ≤ 400 ∧ r.cs[r.at_]? = some x ∧ ∀ H', RdAt c H0 H' { r with at_ := r.at_ + 1 } → Q .non H'
theorem vh_next (T : Rx K w mg C kd es n) {tr : TE} (h : RdAt c H0 H r) (hC : c.C = C) (v : Val tr σ H (.ref c.p)) (hl : r.cs.length ≤ 400) : Val (tMeth C "_next_sign" (spNext C) [] E0 tr tNil) σ H (sgn r) := fun Q q => by
  obtain ⟨ca, h⟩ := h
  subst hC
  exact vh_meth v h.ins rfl va_nil (PV := fun v H' => v = sgn r ∧ H' = H) (fun Q q => ⟨c, H0, r, rfl, ⟨ca, h⟩, rfl, hl, q _ _ ⟨rfl, rfl⟩⟩) Q fun v H' ⟨e1, e2⟩ => by subst e1 e2; exact q
theorem sgn_some {x : Nat} (h : r.cs[r.at_]? = some x) : sgn r = .str (SX.S [x]) := by unfold sgn; rw [h]; rfl
theorem ok_take (T : Rx K w mg C kd es n) (m__next_sign : C8.Met P w K mg base 1 C "_next_sign" (spNext C) []) (F : FnM K "_take" "SchemaReader._take" s_SchemaReader__take f fd) : FnOk P w K mg base CX0 2 f fd ["self", "sign"] (spTake C) := by
  refine F.ok sc_SchemaReader__take (fun vs H Q E ⟨c, H0, r, x, _, _, e, _⟩ => by subst e; rfl) fun cdv A outer s H vs Q E hr h => ⟨_, PSs.nox (pss_cons (ps_if (pt_cmpR op_ne (C8.pe_mt0 m__next_sign hr (by first | decide | omega) (pv 0)) (pv 1) (nomark _)) (pss_one ps_never) pss_nil)
      (pss_one (ps_fldaug (pv 0) pe_int in_add))), ?_⟩
  obtain ⟨c, H0, r, x, rfl, h, rfl, hl, hx, q⟩ := h
  have v0 : Val (tVar 0) [some (.ref c.p), some (.str (SX.S [x]))] H (.ref c.p) := val_var rfl
  refine st_seq (st_no (ans_ne (vh_next T h rfl v0 hl) (val_var rfl) ?_ ?_) (st_next ?_))
  · rw [sgn_some hx]; rfl
  · rw [sgn_some hx]; simp
  · obtain ⟨ca, h⟩ := h
    dsimp only
    exact step_at T h v0 fun H' h' => q H' ⟨ca, h'⟩
theorem val_orT {ta tb : TE} (h : Val ta σ H (.bl true)) : Val (tOrV ta tb) σ H (.bl true) := fun Q q => h _ ⟨true, rfl, by rw [if_pos rfl]; exact q⟩
theorem val_orF {ta tb : TE} {v : V} (h : Val ta σ H (.bl false)) (h2 : Val tb σ H v) : Val (tOrV ta tb) σ H v := fun Q q => h _ ⟨false, rfl, by rw [if_neg Bool.false_ne_true]; exact h2 _ q⟩
def kOf (x : Nat) : Option Str := if x = 118 then some "value" else if x = 63 then some "maybe" else if x = 91 then some "list" else if x = 123 then some "record" else none
theorem Rx.kof (T : Rx K w mg C kd es n) {x : Nat} {s : Str} (h : kOf x = some s) : KDct K w kd (SX.S [x]) (.str s) := by
  unfold kOf at h
  split at h
  · rename_i e; cases h; subst e; exact T.kv
  · split at h
    · rename_i e; cases h; subst e; exact T.km
    · split at h
      · rename_i e; cases h; subst e; exact T.kl
      · split at h
        · rename_i e; cases h; subst e; exact T.kr
        · cases h
theorem S1_eq {x y : Nat} : (SX.S [x] = SX.S [y]) ↔ x = y := ⟨fun h => by have := SX.S_inj h; simpa using this, fun h => by rw [h]⟩
theorem S1_dec {x y : Nat} : decide (V.str (SX.S [x]) = V.str (SX.S [y])) = decide (x = y) := by
  by_cases h : x = y
  · subst h; simp
  · rw [decide_eq_false h]
    exact decide_eq_false fun e => h (S1_eq.mp (V.str.inj e))
def spCan (C : Addr) : L2.Sp := fun vs H Q _ => ∃ c H0 r x s above opn, c.C = C ∧ RdAt c H0 H r ∧ vs = [.ref c.p, .str (SX.S [x]), .int ((above : Nat) : Int), .int ((opn : Nat) : Int)] ∧ kOf x = some s ∧ r.kinds.length < 40 ∧ (x = 118 → vals r.kinds < 12) ∧ (x ≠ 118 → above < 20) ∧ (x ≠ 118 → x ≠ 123 → opn < 8) ∧ Q (.bl true) H
theorem ok_can (T : Rx K w mg C kd es n) (F : FnM K "_can_begin" "SchemaReader._can_begin" s_SchemaReader__can_begin f fd) : FnOk P w K mg base CX0 1 f fd ["self", "sign", "above", "open_above"] (spCan C) := by
  refine F.ok sc_SchemaReader__can_begin (fun vs H Q E ⟨c, H0, r, x, s, a, o, _, _, e, _⟩ => by subst e; rfl) fun cdv A outer s H vs Q E hr h => ⟨_, PSs.nox (pss_cons (ps_if (PW.pt (pw_or (pt_cmpR (op_notIn_kd T.dk) (pv 1) (pe_gc rfl T.g_KIND_OF_SIGN) (by rfl)) (pw_or1 (pt_cmpR op_eq (pe_callB call_len_seq rfl T.z_len (by decide +kernel) (pa_cons (pe_fld (pv 0) rfl) pa_nil)) (pe_gc rfl T.g_MOST_NODES) (nomark _))))) (pss_one (ps_ret pe_bl)) pss_nil)
      (pss_cons (ps_if (pt_cmpR op_eq (pv 1) pe_str (nomark _)) (pss_one (ps_ret (pe_cmpR op_lt (pe_bm PySem.F.plainAttrs_list PySem.F.slot_list_count PySem.F.type_list_count mt_countS (pe_fld (pv 0) rfl) (pa_cons pe_str pa_nil)) (pe_gc rfl T.g_MOST_LEAVES) (nomark _)))) pss_nil)
      (pss_cons (ps_if (pt_cmpR op_eq (pv 2) (pe_gc rfl T.g_MOST_ABOVE) (nomark _)) (pss_one (ps_ret pe_bl)) pss_nil)
      (pss_one (ps_ret (pe_or (pe_cmpR op_eq (pv 1) pe_str (nomark _)) (pe_one (pe_cmpR op_lt (pv 3) (pe_gc rfl T.g_MOST_OPEN_ABOVE) (nomark _))))))))), ?_⟩
  obtain ⟨c, H0, r, x, s, above, opn, rfl, ⟨ca, h⟩, rfl, hk, hn, h1, h2, h3, q⟩ := h
  have v0 : Val (tVar 0) [some (.ref c.p), some (.str (SX.S [x])), some (.int (above : Int)), some (.int (opn : Int))] H (.ref c.p) := val_var rfl
  obtain ⟨es', n', u, k1, k2, k3, k4⟩ := T.kof hk
  have eK : (V.int (((r.kinds.map V.str).length : Nat) : Int) = V.int 40) → False := fun e => by
    have := V.int.inj e
    simp at this
    omega
  refine st_seq (st_no (ans_or (ans_cmp (val_var rfl) val_c fun Q q => ⟨_, _, rfl, rfl, k3, q⟩) (ans_eq (val_lenL (v_kinds T h v0) h.kk) val_c rfl (decide_eq_false eK))) (st_next ?_))
  dsimp only
  by_cases hx : x = 118
  · refine st_seq (st_yes (ans_eq (val_var rfl) val_c rfl ?_) (st_ret (v := .bl true) ?_ q))
    · exact S1_dec.trans (decide_eq_true hx)
    · refine val_op (x := .int (vals r.kinds : Nat)) (y := .int 12) ?_ val_c fun Q q => ⟨_, _, rfl, rfl, ?_⟩
      · exact fun Q q => v_kinds T h v0 _ ⟨.inl ⟨rfl, _, SqL.of h.kk⟩, c.kA, r.kinds, "value", rfl, rfl, SqL.of h.kk, q⟩
      · dsimp only; rw [decide_eq_true (by have := h1 hx; omega : ((vals r.kinds : Nat) : Int) < 12)]; exact q
  · have hab := h2 hx
    refine st_seq (st_no (ans_eq (val_var rfl) val_c rfl ?_) (st_next ?_))
    · exact S1_dec.trans (decide_eq_false hx)
    dsimp only
    refine st_seq (st_no (ans_eq (val_var rfl) val_c rfl (decide_eq_false fun e => ?_)) (st_next ?_))
    · have := V.int.inj e; omega
    dsimp only
    refine st_ret (v := .bl true) ?_ q
    by_cases hr : x = 123
    · refine val_orT (val_op (val_var rfl) val_c fun Q q => ⟨rfl, ?_⟩)
      rw [show decide (V.str (SX.S [x]) = V.str (Str.ofString "{")) = true from S1_dec.trans (decide_eq_true hr)]; exact q
    · refine val_orF (val_op (val_var rfl) val_c fun Q q => ⟨rfl, ?_⟩) (val_op (val_var rfl) val_c fun Q q => ⟨_, _, rfl, rfl, ?_⟩)
      · rw [show decide (V.str (SX.S [x]) = V.str (Str.ofString "{")) = false from S1_dec.trans (decide_eq_false hr)]; exact q
      · dsimp only; rw [decide_eq_true (by have := h3 hx hr; omega : ((opn : Nat) : Int) < 8)]; exact q
theorem st_appN {ta : TE} {p : Addr} {xs : List V} {D : Ends} (ha : Val ta σ H (.ref p)) (hp : H p = some (.lst xs)) (hl : xs.length < sizeLine) (q : ∀ a, H a = none → D.nx σ (upd (upd H a (.lst [])) p (.lst (xs ++ [.ref a])))) : tDrop (tBM K "list" rAppend ta (tCons (tLst tNil) tNil)) D σ H :=
  ha _ ⟨.inl ⟨rfl, _, SqL.of hp⟩, Nat.zero_le _, fun a hq => ⟨p, xs, .ref a, rfl, rfl, by rw [upd_ne fun z => by subst z; rw [hp] at hq; cases hq]; exact hp, hl, q a hq⟩⟩
def spAdd (C : Addr) : L2.Sp := fun vs H Q _ => ∃ (c : RC) (H0 : Hp) (r : RS) (k : Str) (p : Int) (x : Option Str), c.C = C ∧ RdAt c H0 H r ∧ vs = [.ref c.p, .str k, .int p, nV x] ∧ r.wf ∧ r.kinds.length < 1000 ∧ (0 ≤ p → p.toNat < r.kinds.length) ∧ ∀ H', RdAt c H0 H' (r.add k p x) → Q (.int r.kinds.length) H'
theorem ok_add (T : Rx K w mg C kd es n) (F : FnM K "_add_node" "SchemaReader._add_node" s_SchemaReader__add_node f fd) : FnOk P w K mg base CX0 1 f fd ["self", "kind", "parent", "name"] (spAdd C) := by
  refine F.ok sc_SchemaReader__add_node (fun vs H Q E ⟨c, H0, r, k, p, x, _, _, e, _⟩ => by subst e; rfl) fun cdv A outer s H vs Q E hr h => ⟨_, PSs.nox (pss_cons (ps_set (i := 4) sc_SchemaReader__add_node.nd rfl (by first | exact Or.inl rfl | exact Or.inr rfl) (pe_callB call_len_seq rfl T.z_len (by decide +kernel) (pa_cons (pe_fld (pv 0) rfl) pa_nil)))
      (pss_cons (ps_expr (pe_bm PySem.F.plainAttrs_list PySem.F.slot_list_append PySem.F.type_list_append mt_append (pe_fld (pv 0) rfl) (pa_cons (pv 1) pa_nil)))
      (pss_cons (ps_expr (pe_bm PySem.F.plainAttrs_list PySem.F.slot_list_append PySem.F.type_list_append mt_append (pe_fld (pv 0) rfl) (pa_cons (pv 2) pa_nil)))
      (pss_cons (ps_expr (pe_bm PySem.F.plainAttrs_list PySem.F.slot_list_append PySem.F.type_list_append mt_append (pe_fld (pv 0) rfl) (pa_cons (pv 3) pa_nil)))
      (pss_cons (ps_expr (pe_bm PySem.F.plainAttrs_list PySem.F.slot_list_append PySem.F.type_list_append mt_append (pe_fld (pv 0) rfl) (pa_cons (pe_lst pa_nil) pa_nil)))
      (pss_cons (ps_expr (pe_bm PySem.F.plainAttrs_list PySem.F.slot_list_append PySem.F.type_list_append mt_append (pe_fld (pv 0) rfl) (pa_cons (pe_fld (pv 0) rfl) pa_nil)))
      (pss_cons (ps_expr (pe_bm PySem.F.plainAttrs_list PySem.F.slot_list_append PySem.F.type_list_append mt_append (pe_fld (pv 0) rfl) (pa_cons (pe_fld (pv 0) rfl) pa_nil)))
      (pss_cons (ps_if (pt_cmpR op_ge (pv 2) pe_int (nomark _)) (pss_one (ps_expr (pe_bm PySem.F.plainAttrs_list PySem.F.slot_list_append PySem.F.type_list_append mt_append (pe_ix ix_list (pe_fld (pv 0) rfl) (pv 2) (fun _ _ => rfl)) (pa_cons (pv 4) pa_nil)))) pss_nil)
      (pss_one (ps_ret (pv 4))))))))))), ?_⟩
  obtain ⟨c, H0, r, k, p, x, rfl, ⟨ca, h⟩, rfl, wf, hn, hp, q⟩ := h
  have big : ∀ {m : Nat}, m < 1000 → m < sizeLine := fun h => Nat.lt_of_lt_of_le h (by decide)
  have v0 : ∀ H, Val (tVar 0) [some (.ref c.p), some (.str k), some (.int p), some (nV x), some (.int (r.kinds.length : Nat))] H (.ref c.p) := fun H => val_var rfl
  refine st_seq (st_set (v := .int (r.kinds.length : Nat)) ?_ ?_)
  · have z := val_lenL (K := K) (v_kinds T h (te := tVar 0) (σ := [some (.ref c.p), some (.str k), some (.int p), some (nV x), none]) (val_var rfl)) h.kk
    rw [List.length_map] at z
    exact z
  dsimp only
  show tSeq _ _ _ [some (.ref c.p), some (.str k), some (.int p), some (nV x), some (.int (r.kinds.length : Nat))] _
  refine st_seq (st_app (v_kinds T h (v0 _)) h.kk (val_var rfl) (by rw [List.length_map]; exact big hn) ?_)
  dsimp only
  have h1 := h.putK (r.kinds ++ [k])
  rw [List.map_append] at h1
  refine st_seq (st_app (v_parents T h1 (v0 _)) h1.pp (val_var rfl) (by rw [List.length_map]; exact big (by rw [wf.p]; exact hn)) ?_)
  dsimp only
  have h2 := h1.putP (r.parents ++ [p])
  rw [List.map_append] at h2
  refine st_seq (st_app (v_names T h2 (v0 _)) h2.nn (val_var rfl) (by rw [List.length_map]; exact big (by rw [wf.n]; exact hn)) ?_)
  dsimp only
  have h3 := h2.putN (r.names ++ [x])
  rw [List.map_append] at h3
  have hca : ca.length = r.kinds.length := h3.cl.trans wf.c
  refine st_seq (st_appN (v_children T h3 (v0 _)) h3.cc (by rw [List.length_map, hca]; exact big hn) fun a hq => ?_)
  have h4 := h3.newC hq
  rw [List.map_append] at h4
  dsimp only
  refine st_seq (st_app (v_begins T h4 (v0 _)) h4.bb (v_at T h4 (v0 _)) (by rw [List.length_map]; exact big (by rw [wf.b]; exact hn)) ?_)
  dsimp only
  have h4 := h4.putB (r.begins ++ [r.at_])
  rw [show (r.begins ++ [r.at_]).map nI = r.begins.map nI ++ [V.int (r.at_ : Nat)] by simp [nI]] at h4
  refine st_seq (st_app (v_ends T h4 (v0 _)) h4.ee (v_at T h4 (v0 _)) (by rw [List.length_map]; exact big (by rw [wf.e]; exact hn)) ?_)
  dsimp only
  have h4 := h4.putE (r.ends ++ [r.at_])
  rw [show (r.ends ++ [r.at_]).map nI = r.ends.map nI ++ [V.int (r.at_ : Nat)] by simp [nI]] at h4
  by_cases hp0 : 0 ≤ p
  · have hpn := hp hp0
    obtain ⟨pn, rfl⟩ := Int.eq_ofNat_of_zero_le hp0
    rw [Int.toNat_natCast] at hpn
    have hpc : pn < ca.length := by omega
    have e1 : (ca ++ [a])[pn]? = some ca[pn] := by rw [List.getElem?_append_left hpc]; exact List.getElem?_eq_getElem hpc
    have hpr : pn < r.children.length := by rw [wf.c]; exact hpn
    have e2 : (r.children ++ [[]])[pn]? = some r.children[pn] := by rw [List.getElem?_append_left hpr]; exact List.getElem?_eq_getElem hpr
    have e3 := h4.ch pn _ _ e1 e2
    have h5 := h4.addC e1 e2 r.kinds.length
    rw [List.map_append] at h5
    refine st_seq (st_yes (ans_cmp (val_var rfl) val_c fun Q q => ⟨_, _, rfl, rfl, ?_⟩) (st_app (val_op (v_children T h4 (v0 _)) (val_var rfl) fun Q q => ⟨_, _, (pn : Int), .ref ca[pn], rfl, rfl, SqL.of h4.cc, ?_, q⟩) e3 (val_var rfl) ?_ ?_))
    · dsimp only; rw [decide_eq_true hp0]; exact q
    · refine atI_nat ?_
      rw [List.getElem?_map, e1]; rfl
    · rw [List.length_map]
      exact big (Nat.lt_of_le_of_lt (wf.l _ (List.getElem_mem hpr)) hn)
    · dsimp only
      refine st_ret (val_var rfl) (q _ ⟨ca ++ [a], ?_⟩)
      have e : addCh r.children pn r.kinds.length ++ [[]] = (r.children ++ [[]]).modify pn (· ++ [r.kinds.length]) := by
        unfold addCh
        rw [if_pos hp0, Int.toNat_natCast, modify_append_left _ _ _ _ hpr]
      unfold RS.add
      rw [e]
      exact h5
  · refine st_seq (st_no (ans_cmp (val_var rfl) val_c fun Q q => ⟨_, _, rfl, rfl, ?_⟩) (st_next ?_))
    · dsimp only; rw [decide_eq_false hp0]; exact q
    dsimp only
    refine st_ret (val_var rfl) (q _ ⟨ca ++ [a], ?_⟩)
    have e : addCh r.children p r.kinds.length = r.children := if_neg hp0
    unfold RS.add
    rw [e]
    exact h4
end
end Lw
set_option Elab.async false
set_option linter.all false
set_option maxRecDepth 100000
set_option autoImplicit false
set_option maxHeartbeats 4000000
namespace Lw
open PySem PySem.Spec PyProof.Rows L2 DL
section
variable {P : Program} {w : World} {K : PySem.W.Frag} {mg : Str → Option Value} {base : Heap} {f : Addr} {fd : FuncData} {C kd : Addr} {es : Array DictEntry} {n : Nat}
variable {c : RC} {H0 H : Hp} {r : RS} {ca : List Addr} {σ : L2.St} {te ta tb tc : TE} {D : Ends} {ts : TS} {tt : TT}
theorem st_whileB (W : Nat → L2.St → Hp → Prop) (m : Nat) (w0 : W m σ H) (hs : ∀ m σ H, W m σ H → ∃ b, Ans tt σ H b ∧ (b = true → ∀ N : L2.St → Hp → Prop, (∀ m' σ' H', m' < m → W m' σ' H' → N σ' H') → ts { D with nx := N, ct := N, bk := D.nx } σ H) ∧ (b = false → D.nx σ H)) : tWhile tt ts D σ H := by
  refine ⟨W, ⟨m, w0⟩, fun m σ H w => ?_⟩
  obtain ⟨b, h1, h2, h3⟩ := hs m σ H w
  refine h1 _ ?_
  cases b with
  | true => rw [if_pos rfl]; exact ⟨fun σ' H' => ∃ m', m' < m ∧ W m' σ' H', fun _ _ q => q, h2 rfl _ fun m' σ' H' l q => ⟨m', l, q⟩⟩
  | false => rw [if_neg Bool.false_ne_true]; exact h3 rfl
abbrev rLeS : R2 := fun x y H Q => ∃ i j, x = .str i ∧ y = .str j ∧ Q (.bl (!decide (j.cps.toList < i.cps.toList))) H
theorem ans_chainS {a y z : List Nat} {b : Bool} (ha : Val ta σ H (.str (SX.S a))) (hb : Val tb σ H (.str (SX.S y))) (hc : Val tc σ H (.str (SX.S z))) (hd : ((!decide (y < a)) && (!decide (z < y))) = b) : Ans (tTest (tChain rLeS rLeS ta tb tc)) σ H b := fun Q q => by
  refine ha _ (hb _ ⟨_, _, rfl, rfl, _, rfl, ?_⟩)
  show if (!decide (y < a)) = true then _ else _
  cases e : (!decide (y < a)) with
  | true =>
    rw [if_pos rfl]
    rw [e] at hd
    refine hc _ ⟨_, _, rfl, rfl, b, ?_, q⟩
    show V.bl (!decide (z < y)) = _
    rw [← hd]; rfl
  | false =>
    rw [if_neg Bool.false_ne_true]
    rw [e] at hd
    exact ⟨b, by rw [← hd]; rfl, q⟩
theorem lt1 {x y : Nat} : ([x] < [y]) ↔ x < y := by
  rw [List.cons_lt_cons_iff]; simp
/-- a name of a field: one to eight small letters -/
structure NmOk (s : Str) : Prop where
  ne : s.cps.toList ≠ []
  le : s.cps.toList.length ≤ 8
  az : ∀ x ∈ s.cps.toList, 97 ≤ x ∧ x ≤ 122
theorem drop_get {l : List Nat} {i : Nat} {x : Nat} {m : List Nat} (h : l.drop i = x :: m) : l[i]? = some x ∧ l.drop (i + 1) = m := by
  constructor
  · have := List.getElem?_drop (xs := l) (i := i) (j := 0)
    rw [h] at this
    simpa using this.symm
  · rw [← List.drop_drop, h]; rfl
theorem drop_app {l : List Nat} {i : Nat} {p m : List Nat} (h : l.drop i = p ++ m) : l.drop (i + p.length) = m ∧ ∀ j (hj : j < p.length), l[i + j]? = some p[j] := by
  constructor
  · rw [← List.drop_drop, h, List.drop_left]
  · intro j hj
    have := List.getElem?_drop (xs := l) (i := i) (j := j)
    rw [h, List.getElem?_append_left hj, List.getElem?_eq_getElem hj] at this
    exact this.symm
theorem cut_name {l nm m : List Nat} {i : Nat} (h : l.drop i = nm ++ m) (hne : nm ≠ []) : cutS (SX.S l) (some (i : Int)) (some ((i + nm.length : Nat) : Int)) = SX.S nm := by
  have hl : i + nm.length ≤ l.length := by
    have e := congrArg List.length h
    rw [List.length_drop, List.length_append] at e
    have : 0 < nm.length := List.length_pos_iff.mpr hne
    omega
  unfold cutS
  rw [HT.sIx_nat, HT.sIx_nat, SX.S_len, Nat.min_eq_left (show i ≤ l.length by omega), Nat.min_eq_left hl]
  show SX.S ((l.drop i).take (i + nm.length - i)) = _
  rw [Nat.add_sub_cancel_left, h, List.take_left']
  rfl
theorem vh_take (T : Rx K w mg C kd es n) {tr tx : TE} {x : Nat} (h : RdAt c H0 H r) (hC : c.C = C) (v : Val tr σ H (.ref c.p)) (vx : Val tx σ H (.str (SX.S [x]))) (hl : r.cs.length ≤ 400) (hx : r.cs[r.at_]? = some x) : ValH (tMeth C "_take" (spTake C) [] E0 tr (tCons tx tNil)) σ H fun v H' => v = .non ∧ RdAt c H0 H' { r with at_ := r.at_ + 1 } := by
  obtain ⟨ca, h⟩ := h
  subst hC
  exact vh_meth v h.ins rfl (va_cons vx va_nil) fun Q q => ⟨c, H0, r, x, rfl, ⟨ca, h⟩, rfl, hl, hx, fun H' h' => q _ _ ⟨rfl, h'⟩⟩
def spName (C : Addr) : L2.Sp := fun vs H Q _ => ∃ (c : RC) (H0 : Hp) (r : RS) (td : Addr) (kvs : List (Key × V)) (nm : Str) (rest : List Nat), c.C = C ∧ RdAt c H0 H r ∧ vs = [.ref c.p, .ref td] ∧ H0 td = some (.dK kvs) ∧ valV kvs (.inr nm) = none ∧ r.cs.length ≤ 400 ∧ NmOk nm ∧ r.cs.drop r.at_ = nm.cps.toList ++ 58 :: rest ∧ ∀ H', RdAt c H0 H' { r with at_ := r.at_ + (nm.cps.toList.length + 1) } → Q (.str nm) H'
theorem ok_name (T : Rx K w mg C kd es n) (m__next_sign : C8.Met P w K mg base 1 C "_next_sign" (spNext C) []) (m__take : C8.Met P w K mg base 2 C "_take" (spTake C) []) (F : FnM K "_read_name" "SchemaReader._read_name" s_SchemaReader__read_name f fd) : FnOk P w K mg base CX0 3 f fd ["self", "taken"] (spName C) := by
  refine F.ok sc_SchemaReader__read_name (fun vs H Q E ⟨c, H0, r, td, kvs, nm, rest, _, _, e, _⟩ => by subst e; rfl) fun cdv A outer s H vs Q E hr h => ⟨_, PSs.nox (pss_cons (ps_set (i := 2) sc_SchemaReader__read_name.nd rfl (by first | exact Or.inl rfl | exact Or.inr rfl) (pe_fld (pv 0) rfl))
      (pss_cons (ps_while PassesOwn.never (PW.pt (pw_and (pt_cmpR op_lt (pe_op op_sub (pe_fld (pv 0) rfl) (pv 2)) (pe_gc rfl T.g_MOST_LETTERS) (nomark _)) (pw_and1 (pt_chain op_le_str op_le_str pe_str (C8.pe_mt0 m__next_sign hr (by first | decide | omega) (pv 0)) pe_str)))) (pss_one (ps_fldaug (pv 0) pe_int in_add)))
      (pss_cons (ps_set (i := 3) sc_SchemaReader__read_name.nd rfl (by first | exact Or.inl rfl | exact Or.inr rfl) (pe_slice sl_str (pe_fld (pv 0) rfl) (po_some (pv 2)) (po_some (pe_fld (pv 0) rfl))))
      (pss_cons (ps_if (PW.pt (pw_or (pt_cmpR op_eq (pv 3) pe_str (nomark _)) (pw_or1 (pt_cmp (pc_din (hu_of hr) (pv 3) (pv 1)))))) (pss_one ps_never) pss_nil)
      (pss_cons (ps_expr (C8.pe_mt m__take hr (by first | decide | omega) (pv 0) (pa_cons pe_str pa_nil)))
      (pss_one (ps_ret (pv 3)))))))), ?_⟩
  obtain ⟨c, H0, r, td, kvs, nm, rest, rfl, ⟨ca, h⟩, rfl, hd, hv, hl, ok, ht, q⟩ := h
  obtain ⟨t1, t2⟩ := drop_app ht
  obtain ⟨t3, t4⟩ := drop_get t1
  refine st_seq (st_set (v := .int (r.at_ : Nat)) (v_at T h (val_var rfl)) ?_)
  show tSeq _ _ _ [some (.ref c.p), some (.ref td), some (.int (r.at_ : Nat)), none] _
  have v0 : ∀ H, Val (tVar 0) [some (.ref c.p), some (.ref td), some (.int (r.at_ : Nat)), none] H (.ref c.p) := fun H => val_var rfl
  refine st_seq (st_whileB (fun m σ H' => ∃ i, m = nm.cps.toList.length - i ∧ i ≤ nm.cps.toList.length ∧ σ = [some (.ref c.p), some (.ref td), some (.int (r.at_ : Nat)), none] ∧ RdC c H0 H' { r with at_ := r.at_ + i } ca) nm.cps.toList.length ⟨0, rfl, Nat.zero_le _, rfl, h⟩ ?_)
  rintro m σ H1 ⟨i, rfl, hi, rfl, h1⟩
  have k8 := ok.le
  have nx := vh_next T ⟨ca, h1⟩ rfl (v0 H1) hl
  have sub8 : Val (tOp (rI0 fun i j => .int (i - j)) (tFld K (tVar 0) "at") (tVar 2)) [some (.ref c.p), some (.ref td), some (.int (r.at_ : Nat)), none] H1 (.int (i : Nat)) := val_op (v_at T h1 (v0 _)) (val_var rfl) fun Q q => ⟨_, _, rfl, rfl, by
    show Q (.int (((r.at_ + i : Nat) : Int) - (r.at_ : Nat))) _
    rw [show (((r.at_ + i : Nat) : Int) - (r.at_ : Nat)) = (i : Int) by omega]; exact q⟩
  by_cases hlt : i < nm.cps.toList.length
  · have e := sgn_some (r := { r with at_ := r.at_ + i }) (t2 i hlt)
    rw [e] at nx
    obtain ⟨a1, a2⟩ := ok.az _ (List.getElem_mem hlt)
    refine ⟨true, ans_and (ans_lt sub8 val_c (decide_eq_true (by omega))) (ans_chainS (a := [97]) (z := [122]) val_c nx val_c ?_), fun _ N hN => ?_, fun z => by cases z⟩
    · rw [decide_eq_false (fun z => by have := lt1.mp z; omega), decide_eq_false (fun z => by have := lt1.mp z; omega)]; rfl
    · exact step_at T h1 (v0 _) fun H' h' => hN _ _ _ (by omega : nm.cps.toList.length - (i + 1) < nm.cps.toList.length - i) ⟨i + 1, rfl, hlt, rfl, h'⟩
  · have ei : i = nm.cps.toList.length := by omega
    subst ei
    have e := sgn_some (r := { r with at_ := r.at_ + nm.cps.toList.length }) t3
    rw [e] at nx
    refine ⟨false, ?_, fun z => absurd z Bool.false_ne_true, fun _ => ?_⟩
    · have := ans_and2 (ans_lt (b := decide ((nm.cps.toList.length : Int) < 8)) sub8 val_c rfl) (ans_chainS (a := [97]) (z := [122]) (b := false) val_c nx val_c (by rfl))
      rw [Bool.and_false] at this
      exact this
    dsimp only
    refine st_seq (st_set (v := .str nm) (fun Q q => v_signs T h1 (v0 _) _ (val_var rfl _ ⟨_, rfl, v_at T h1 (v0 _) _ ⟨_, rfl, ⟨_, rfl, sl (S_le (show r.cs.length ≤ 10000000 by omega)), ?_⟩⟩⟩)) ?_)
    · show Q (.str (cutS (SX.S r.cs) (some ((r.at_ : Nat) : Int)) (some ((r.at_ + nm.cps.toList.length : Nat) : Int)))) H1
      rw [cut_name ht ok.ne, SX.S_tl]; exact q
    show tSeq _ _ _ [some (.ref c.p), some (.ref td), some (.int (r.at_ : Nat)), some (.str nm)] _
    refine st_seq (st_no (ans_or (ans_eq (val_var rfl) val_c rfl (decide_eq_false fun z => ?_)) (fun Q q => ?_)) (st_next ?_))
    · have z' : nm = SX.S [] := V.str.inj z
      exact ok.ne (by rw [z'])
    · refine ⟨_, rfl, ⟨_, rfl, td, _, rfl, DGet.k (k := .inr nm) (h1.keep _ _ hd), _, rfl, ?_⟩⟩
      rw [hv]; exact q
    dsimp only
    refine st_seq (st_dropH (vh_take T ⟨ca, h1⟩ rfl (val_var rfl) (x := 58) val_c hl t3) fun v H' ⟨e1, h2⟩ => ?_)
    exact st_ret (val_var rfl) (q H' h2)
end
end Lw
set_option Elab.async false
set_option linter.all false
set_option maxRecDepth 100000
set_option autoImplicit false
set_option maxHeartbeats 4000000
namespace Lw
open PySem PySem.Spec PyProof.Rows L2 DL
mutual
def okr : Tr → Prop
  | .v => True
  | .o _ t => okr t
  | .r fs => fs ≠ [] ∧ (fs.map (·.1)).Nodup ∧ (∀ x ∈ fs.map (·.1), NmOk x) ∧ okrs fs
def okrs : List (Str × Tr) → Prop
  | [] => True
  | (_, t) :: r => okr t ∧ okrs r
end
theorem okrs_mem : ∀ {fs : List (Str × Tr)} {s : Str} {t : Tr}, okrs fs → (s, t) ∈ fs → okr t
  | [], _, _, _, h => by cases h
  | (s', t') :: r, s, t, h, m => by
    rcases List.mem_cons.mp m with e | m
    · cases e; exact h.1
    · exact okrs_mem h.2 m
theorem dps_mem : ∀ {fs : List (Str × Tr)} {s : Str} {t : Tr}, (s, t) ∈ fs → dp t ≤ dps fs
  | [], _, _, h => by cases h
  | (s', t') :: r, s, t, m => by
    rcases List.mem_cons.mp m with e | m
    · cases e; simp only [dps]; omega
    · have := dps_mem m; simp only [dps]; omega
theorem ops_mem : ∀ {fs : List (Str × Tr)} {s : Str} {t : Tr}, (s, t) ∈ fs → op t ≤ ops fs
  | [], _, _, h => by cases h
  | (s', t') :: r, s, t, m => by
    rcases List.mem_cons.mp m with e | m
    · cases e; simp only [ops]; omega
    · have := ops_mem m; simp only [ops]; omega
/-- what the reader can read at its place: a tree that keeps the limits -/
structure CanT (r : RS) (t : Tr) (above opn : Nat) : Prop where
  wf : r.wf
  ok : okr t
  len : r.cs.length ≤ 400
  nodes : r.kinds.length + sz t ≤ 40
  vals : vals r.kinds + lv t ≤ 12
  ab : above + dp t ≤ 20
  on : opn + op t ≤ 8
structure CanF (r : RS) (fs : List (Str × Tr)) (above opn : Nat) : Prop where
  wf : r.wf
  ne : fs ≠ []
  nd : (fs.map (·.1)).Nodup
  nm : ∀ x ∈ fs.map (·.1), NmOk x
  ok : okrs fs
  len : r.cs.length ≤ 400
  nodes : r.kinds.length + szs fs ≤ 40
  vals : vals r.kinds + lvs fs ≤ 12
  ab : above + dps fs ≤ 20
  on : opn + ops fs ≤ 8
def spNode (C : Addr) (N : Nat) : L2.Sp := fun vs H Q _ => ∃ (c : RC) (H0 : Hp) (r : RS) (t : Tr) (p : Int) (x : Option Str) (above opn : Nat) (rest : List Nat), c.C = C ∧ RdAt c H0 H r ∧ vs = [.ref c.p, .int p, nV x, .int (above : Nat), .int (opn : Nat)] ∧ dp t < N ∧ CanT r t above opn ∧ (0 ≤ p → p.toNat < r.kinds.length) ∧ r.cs.drop r.at_ = tx t ++ rest ∧ ∀ H', RdAt c H0 H' (r.node t p x) → Q .non H'
def spFields (C : Addr) (N : Nat) : L2.Sp := fun vs H Q _ => ∃ (c : RC) (H0 : Hp) (r : RS) (fs : List (Str × Tr)) (p : Nat) (above opn : Nat) (rest : List Nat), c.C = C ∧ RdAt c H0 H r ∧ vs = [.ref c.p, .int (p : Nat), .int (above : Nat), .int (opn : Nat)] ∧ dps fs < N ∧ CanF r fs above opn ∧ p < r.kinds.length ∧ r.cs.drop r.at_ = tl fs rest ∧ ∀ H', RdAt c H0 H' (r.flds fs p ((TL.joinL [32] (txs fs)).length + 1)) → Q .non H'
/-- the taken names -/
def kvF (fs : List (Str × Tr)) : List (Key × V) := fs.map fun f => (.inr f.1, .bl true)
theorem kvF_none {s : Str} : ∀ {fs : List (Str × Tr)}, s ∉ fs.map (·.1) → valV (kvF fs) (.inr s) = none
  | [], _ => rfl
  | (a, t) :: r, h => by
    simp only [List.map_cons, List.mem_cons, not_or] at h
    show valV ((.inr a, .bl true) :: kvF r) (.inr s) = none
    rw [valV_neg fun e => h.1 (Sum.inr.inj e).symm]
    exact kvF_none h.2
theorem kvF_put {s : Str} {t : Tr} {fs : List (Str × Tr)} (h : s ∉ fs.map (·.1)) : putK (kvF fs) (.inr s) (.bl true) = kvF (fs ++ [(s, t)]) := by
  unfold putK
  rw [valV_any, kvF_none h]
  simp [kvF]
section
variable {P : Program} {w : World} {K : PySem.W.Frag} {mg : Str → Option Value} {base : Heap} {f : Addr} {fd : FuncData} {C kd : Addr} {es : Array DictEntry} {n : Nat}
variable {c : RC} {H0 H : Hp} {r : RS} {ca : List Addr} {σ : L2.St} {te ta tb tc td ty tv : TE} {D : Ends} {ts : TS} {tt : TT}
theorem RdAt.newO (h : RdAt c H0 H r) {q : Addr} {o : HO} (hq : H q = none) : RdAt c (upd H0 q o) (upd H q o) r := h.imp fun _ h => h.newO hq
theorem RdAt.chO (h : RdAt c H0 H r) {q : Addr} {o u : HO} (e : H0 q = some u) : RdAt c (upd H0 q o) (upd H q o) r := h.imp fun _ h => h.chO e
theorem RdAt.less (h : RdAt c H0 H r) {H1 : Hp} (e : ∀ a o, H1 a = some o → H0 a = some o) : RdAt c H1 H r := h.imp fun _ h => h.less e
theorem st_dput {a : Addr} {kvs : List (Key × V)} {s : Str} {v : V} (hv : Val tv σ H v) (hd : Val td σ H (.ref a)) (hy : Val ty σ H (.str s)) (e : H a = some (.dK kvs)) (hl : kvs.length < sizeLine) (q : D.nx σ (upd H a (.dK (putK kvs (.inr s) v)))) : sDPut td ty tv D σ H :=
  hv _ (hd _ (hy _ ⟨a, _, rfl, DPut.k (k := .inr s) e hl, q⟩))
theorem vh_name (T : Rx K w mg C kd es n) {tr tx : TE} {tdA : Addr} {kvs : List (Key × V)} {nm : Str} {rest : List Nat} (h : RdAt c H0 H r) (hC : c.C = C) (v : Val tr σ H (.ref c.p)) (vx : Val tx σ H (.ref tdA)) (hd : H0 tdA = some (.dK kvs)) (hv : valV kvs (.inr nm) = none) (hl : r.cs.length ≤ 400) (ok : NmOk nm)
    (ht : r.cs.drop r.at_ = nm.cps.toList ++ 58 :: rest) : ValH (tMeth C "_read_name" (spName C) [] E0 tr (tCons tx tNil)) σ H fun v H' => v = .str nm ∧ RdAt c H0 H' { r with at_ := r.at_ + (nm.cps.toList.length + 1) } := by
  obtain ⟨ca, h⟩ := h
  subst hC
  exact vh_meth v h.ins rfl (va_cons vx va_nil) fun Q q => ⟨c, H0, r, tdA, kvs, nm, rest, rfl, ⟨ca, h⟩, rfl, hd, hv, hl, ok, ht, fun H' h' => q _ _ ⟨rfl, h'⟩⟩
theorem vh_node {N : Nat} {tr t1 t2 t3 t4 : TE} {t : Tr} {p : Int} {x : Option Str} {above opn : Nat} {rest : List Nat} (h : RdAt c H0 H r) (v : Val tr σ H (.ref c.p)) (v1 : Val t1 σ H (.int p)) (v2 : Val t2 σ H (nV x)) (v3 : Val t3 σ H (.int (above : Nat))) (v4 : Val t4 σ H (.int (opn : Nat)))
    (hN : dp t < N) (k : CanT r t above opn) (hp : 0 ≤ p → p.toNat < r.kinds.length) (ht : r.cs.drop r.at_ = tx t ++ rest) : ValH (tMeth c.C "_read_node" (spNode c.C N) [] E0 tr (tCons t1 (tCons t2 (tCons t3 (tCons t4 tNil))))) σ H fun v H' => v = .non ∧ RdAt c H0 H' (r.node t p x) := by
  obtain ⟨ca, h⟩ := h
  exact vh_meth v h.ins rfl (va_cons v1 (va_cons v2 (va_cons v3 (va_cons v4 va_nil)))) fun Q q => ⟨c, H0, r, t, p, x, above, opn, rest, rfl, ⟨ca, h⟩, rfl, hN, k, hp, ht, fun H' h' => q _ _ ⟨rfl, h'⟩⟩
theorem val_dnew : ValH tDNewK σ H fun v H' => ∃ a, H a = none ∧ v = .ref a ∧ H' = upd H a (.dK []) := fun Q q a h => q _ _ ⟨a, h, rfl, rfl⟩
theorem vals_append (a b : List Str) : vals (a ++ b) = vals a + vals b := List.count_append ..
theorem ok_fields (T : Rx K w mg C kd es n) {N : Nat} (m__next_sign : C8.Met P w K mg base 1 C "_next_sign" (spNext C) []) (m__take : C8.Met P w K mg base 2 C "_take" (spTake C) []) (m__read_name : C8.Met P w K mg base 3 C "_read_name" (spName C) [])
    (m__read_node : C8.Met P w K mg base (2 * N + 4) C "_read_node" (spNode C N) []) (F : FnM K "_read_fields" "SchemaReader._read_fields" s_SchemaReader__read_fields f fd) : FnOk P w K mg base CX0 (2 * N + 4 + 1) f fd ["self", "node", "above", "open_above"] (spFields C N) := by
  refine F.ok sc_SchemaReader__read_fields (fun vs H Q E ⟨c, H0, r, fs, p, a, o, rest, _, _, e, _⟩ => by subst e; rfl) fun cdv A outer s H vs Q E hr h => ⟨_, PSs.nox (pss_cons (ps_set (i := 4) sc_SchemaReader__read_fields.nd rfl (by first | exact Or.inl rfl | exact Or.inr rfl) pe_dnewK)
      (pss_cons (ps_set (i := 5) sc_SchemaReader__read_fields.nd rfl (by first | exact Or.inl rfl | exact Or.inr rfl) pe_bl)
      (pss_cons (ps_while PassesOwn.never (pt_val (pv 5)) (pss_cons (ps_set (i := 6) sc_SchemaReader__read_fields.nd rfl (by first | exact Or.inl rfl | exact Or.inr rfl) (C8.pe_mt m__read_name hr (by first | decide | omega) (pv 0) (pa_cons (pv 4) pa_nil)))
      (pss_cons (ps_dput (hu_of hr) (pv 4) (pv 6) pe_bl rfl)
      (pss_cons (ps_expr (C8.pe_mt m__read_node hr (by first | decide | omega) (pv 0) (pa_cons (pv 1) (pa_cons (pv 6) (pa_cons (pv 2) (pa_cons (pv 3) pa_nil))))))
      (pss_cons (ps_set (i := 5) sc_SchemaReader__read_fields.nd rfl (by first | exact Or.inl rfl | exact Or.inr rfl) (pe_cmpR op_eq (C8.pe_mt0 m__next_sign hr (by first | decide | omega) (pv 0)) pe_str (nomark _)))
      (pss_one (ps_if (pt_val (pv 5)) (pss_one (ps_fldaug (pv 0) pe_int in_add)) pss_nil)))))))
      (pss_one (ps_expr (C8.pe_mt m__take hr (by first | decide | omega) (pv 0) (pa_cons pe_str pa_nil))))))), ?_⟩
  obtain ⟨c, H0, r, fs, p, above, opn, rest, rfl, h, rfl, hN, k, hp, ht, q⟩ := h
  refine st_seq (st_setH val_dnew ?_)
  rintro _ _ ⟨td, hq, rfl, rfl⟩
  dsimp only
  refine st_seq (st_set (v := .bl true) val_c ?_)
  show tSeq _ _ _ [some (.ref c.p), some (.int (p : Nat)), some (.int (above : Nat)), some (.int (opn : Nat)), some (.ref td), some (.bl true), none] _
  have h0 : H0 td = none := by
    obtain ⟨ca, h⟩ := h
    cases e : H0 td with
    | none => rfl
    | some o => rw [h.keep _ _ e] at hq; cases hq
  have hin := h.newO (o := .dK (kvF [])) hq
  have kd0 := k
  refine st_seq (st_whileB (fun m σ H' =>
      (∃ dn s t todo L o, fs = dn ++ (s, t) :: todo ∧ m = todo.length + 1 ∧ σ = [some (.ref c.p), some (.int (p : Nat)), some (.int (above : Nat)), some (.int (opn : Nat)), some (.ref td), some (.bl true), o] ∧ RdAt c (upd H0 td (.dK (kvF dn))) H' (r.flds dn p L) ∧
        r.cs.drop (r.at_ + L) = tl ((s, t) :: todo) rest ∧ L + (TL.joinL [32] (txs ((s, t) :: todo))).length = (TL.joinL [32] (txs fs)).length ∧ L = flen dn) ∨
      (∃ o, m = 0 ∧ σ = [some (.ref c.p), some (.int (p : Nat)), some (.int (above : Nat)), some (.int (opn : Nat)), some (.ref td), some (.bl false), o] ∧ RdAt c (upd H0 td (.dK (kvF fs))) H' (r.flds fs p (TL.joinL [32] (txs fs)).length) ∧
        r.cs.drop (r.at_ + (TL.joinL [32] (txs fs)).length) = 125 :: rest)) fs.length ?_ ?_)
  · cases fs with
    | nil => exact absurd rfl k.ne
    | cons f0 todo =>
      obtain ⟨s, t⟩ := f0
      exact .inl ⟨[], s, t, todo, 0, none, rfl, rfl, rfl, by rw [flds_nil]; exact hin, ht, Nat.zero_add _, rfl⟩
  rintro m σ H1 (⟨dn, s, t, todo, L, o, e, rfl, rfl, h1, t1, t2, hLd⟩ | ⟨o, rfl, rfl, h1, t1⟩)
  · refine ⟨true, ans_val (val_var rfl), fun _ N' hN' => ?_, fun z => absurd z.symm Bool.false_ne_true⟩
    have hs : s ∉ dn.map (·.1) := by
      have z := k.nd
      rw [e, List.map_append, List.nodup_append] at z
      exact fun m => z.2.2 s m s (by simp) rfl
    have hfm : (s, t) ∈ fs := by rw [e]; simp
    have nmo : NmOk s := k.nm s (List.mem_map.mpr ⟨_, hfm, rfl⟩)
    have hdl : dn.length ≤ szs fs := by
      have z1 := szs_append dn ((s, t) :: todo)
      rw [← e] at z1
      have z2 : ∀ l : List (Str × Tr), l.length ≤ szs l := fun l => by
        induction l with
        | nil => exact Nat.le_refl _
        | cons a l ih => obtain ⟨a1, a2⟩ := a; have := sz_pos a2; simp [szs]; omega
      have := z2 dn
      omega
    have hd : upd H0 td (.dK (kvF dn)) td = some (.dK (kvF dn)) := upd_same
    obtain ⟨rest', hr1, hr2⟩ : ∃ rest', r.cs.drop (r.at_ + L) = s.cps.toList ++ 58 :: (tx t ++ rest') ∧ ((todo = [] ∧ rest' = 125 :: rest) ∨ (∃ f2 tt, todo = f2 :: tt ∧ rest' = 32 :: tl (f2 :: tt) rest)) := by
      cases todo with
      | nil => exact ⟨_, by rw [t1, tl_one], .inl ⟨rfl, rfl⟩⟩
      | cons f2 tt => exact ⟨_, by rw [t1, tl_two], .inr ⟨f2, tt, rfl, rfl⟩⟩
    obtain ⟨u1, u2⟩ := drop_app hr1
    obtain ⟨u3, u4⟩ := drop_get u1
    -- the name
    refine st_seq (st_setH (vh_name T h1 rfl (val_var rfl) (val_var rfl) hd (kvF_none hs) k.len nmo hr1) ?_)
    rintro _ H2 ⟨rfl, h2⟩
    show tSeq _ _ _ [some (.ref c.p), some (.int (p : Nat)), some (.int (above : Nat)), some (.int (opn : Nat)), some (.ref td), some (.bl true), some (.str s)] _
    have hk2 : H2 td = some (.dK (kvF dn)) := by obtain ⟨ca, h2⟩ := h2; exact h2.keep _ _ hd
    refine st_seq (st_dput val_c (val_var rfl) (val_var rfl) hk2 (by unfold kvF; rw [List.length_map]; have := k.nodes; exact Nat.lt_of_le_of_lt (by omega : dn.length ≤ 40) (by decide)) ?_)
    have h3 := h2.chO (o := .dK (kvF (dn ++ [(s, t)]))) hd
    rw [upd_upd] at h3
    rw [kvF_put (t := t) hs]
    dsimp only
    -- its node
    have hlv : lvs fs = lvs dn + (lv t + lvs todo) := by rw [e, lvs_append]; rfl
    have hsz : szs fs = szs dn + (sz t + szs todo) := by rw [e, szs_append]; rfl
    have hdp := dps_mem hfm
    have hop := ops_mem hfm
    have kc : CanT { r.flds dn p L with at_ := r.at_ + L + (s.cps.toList.length + 1) } t above opn := by
      refine ⟨(k.wf.flds dn p L).at _, okrs_mem k.ok hfm, k.len, ?_, ?_, ?_, ?_⟩
      · show (r.kinds ++ kds dn).length + sz t ≤ 40
        rw [List.length_append, kds_len]; have := k.nodes; omega
      · show vals (r.kinds ++ kds dn) + lv t ≤ 12
        rw [vals_append, kds_vals]; have := k.vals; omega
      · have := k.ab; omega
      · have := k.on; omega
    refine st_seq (st_dropH (vh_node (N := N) (x := some s) (p := (p : Nat)) h3 (val_var rfl) (val_var rfl) (val_var rfl) (val_var rfl) (val_var rfl) (by omega) kc (fun _ => ?_) (rest := rest') ?_) ?_)
    · show ((p : Nat) : Int).toNat < (r.kinds ++ kds dn).length
      rw [Int.toNat_natCast, List.length_append]; omega
    · show r.cs.drop (r.at_ + L + (s.cps.toList.length + 1)) = _
      rw [← Nat.add_assoc]; exact u4
    rintro _ H4 ⟨_, h4⟩
    replace h4 : RdAt c (upd H0 td (.dK (kvF (dn ++ [(s, t)])))) H4 (r.flds (dn ++ [(s, t)]) p (L + (s.cps.toList.length + 1) + (tx t).length)) := by
      rw [← flds_node k.wf hp dn s t L (s.cps.toList.length + 1) hLd rfl]; exact h4
    dsimp only
    have u4' : r.cs.drop (r.at_ + (L + (s.cps.toList.length + 1) + (tx t).length)) = rest' := by
      have := (drop_app (p := tx t) (m := rest') (by exact u4)).1
      rw [← this]; congr 1; omega
    have fe : fs = (dn ++ [(s, t)]) ++ todo := by rw [e]; simp
    rcases hr2 with ⟨rfl, rfl⟩ | ⟨f2, tt, rfl, rfl⟩
    · rw [List.append_nil] at fe
      rw [jl_one] at t2
      have hL : L + (s.cps.toList.length + 1) + (tx t).length = (TL.joinL [32] (txs fs)).length := by omega
      rw [hL, ← fe] at h4
      rw [hL] at u4'
      have nx := vh_next T h4 rfl (val_var rfl : Val (tVar 0) [some (.ref c.p), some (.int (p : Nat)), some (.int (above : Nat)), some (.int (opn : Nat)), some (.ref td), some (.bl true), some (.str s)] H4 _) k.len
      rw [sgn_some (r := r.flds fs p (TL.joinL [32] (txs fs)).length) (drop_get u4').1] at nx
      refine st_seq (st_set (v := .bl false) (val_op nx val_c fun Q q => ⟨rfl, ?_⟩) ?_)
      · rw [show decide (V.str (SX.S [125]) = V.str (Str.ofString " ")) = false by decide]; exact q
      dsimp only
      refine st_no (ans_val (val_var rfl)) (st_next ?_)
      exact hN' 0 _ _ (by simp) (.inr ⟨_, rfl, rfl, h4, u4'⟩)
    · rw [jl_two] at t2
      have nx := vh_next T h4 rfl (val_var rfl : Val (tVar 0) [some (.ref c.p), some (.int (p : Nat)), some (.int (above : Nat)), some (.int (opn : Nat)), some (.ref td), some (.bl true), some (.str s)] H4 _) k.len
      obtain ⟨w1, w2⟩ := drop_get u4'
      rw [sgn_some (r := r.flds (dn ++ [(s, t)]) p (L + (s.cps.toList.length + 1) + (tx t).length)) w1] at nx
      refine st_seq (st_set (v := .bl true) (val_op nx val_c fun Q q => ⟨rfl, ?_⟩) ?_)
      · rw [show decide (V.str (SX.S [32]) = V.str (Str.ofString " ")) = true by decide]; exact q
      dsimp only
      obtain ⟨ca4, h4⟩ := h4
      refine st_yes (ans_val (val_var rfl)) (step_at T h4 (val_var rfl) fun H5 h5 => ?_)
      obtain ⟨s2, t2'⟩ := f2
      exact hN' (tt.length + 1) _ _ (by simp) (.inl ⟨dn ++ [(s, t)], s2, t2', tt, L + (s.cps.toList.length + 1) + (tx t).length + 1, _, fe, rfl, rfl, ⟨ca4, h5⟩, w2, by omega, by rw [flen_append, ← hLd]; simp [flen]; omega⟩)
  · refine ⟨false, ans_val (val_var rfl), fun z => absurd z Bool.false_ne_true, fun _ => ?_⟩
    dsimp only
    obtain ⟨t3, t4⟩ := drop_get t1
    refine st_dropH (vh_take T h1 rfl (val_var rfl) (x := 125) val_c k.len t3) fun v H' ⟨_, h2⟩ => ?_
    refine q H' ?_
    have h3 := h2.less (H1 := H0) fun a u e => by
      have na : a ≠ td := fun z => by subst z; rw [h0] at e; cases e
      rw [upd_ne na]; exact e
    exact h3
end
end Lw
set_option Elab.async false
set_option linter.all false
set_option maxRecDepth 100000
set_option autoImplicit false
set_option maxHeartbeats 4000000
/-! Y7: a state kept at any number of addresses; a part of it lent on; a cell of it read and written; new cells lent with an older one. -/
namespace DL
open PySem PySem.Spec PyProof.Rows L2
variable {S S' : Type}
/-- the addresses, as a list -/
structure ClN (z : Cl S) : Prop where
  ex : ∃ l : List Addr, ∀ p, z.ads p ↔ p ∈ l
section
variable {P : Program} {w : World} {K : PySem.W.Frag} {mg : Str → Option Value} {base : Heap} {x qual : Str} {params : Arguments} {body : List Stmt} {scope : Scope} {f : Addr} {fd : FuncData} {N ps : List Str} {n : Nat} {Kd : Cl S → Prop} {C : CnY S}
theorem good_lendN {F H : Hp} {es : List D} {vs : List V} {l : List Addr} (x : Ex F H) (r : Reps F es vs) (hl : ∀ a ∈ l, ∃ o, H a = some o) : Good ⟨F, H, fun j => l[j]?⟩ F H (vs.map some) (es.map .sh) := by
  have G := good_args x r
  refine ⟨G.ff, G.fh, fun _ _ e _ => e, fun p ⟨j, e⟩ => hl p (List.mem_of_getElem? e), G.nw, G.len, fun i e he => ?_, fun i j p e e' h1 h2 m1 m2 h3 h4 => G.dj i j p e e' h1 h2 m1 m2 h3 h4⟩
  obtain ⟨d, v, rfl, h1, h2⟩ := reps_slots r i e he
  exact ⟨_, h1, v, rfl, h2⟩
theorem runYN (hn : ∀ z, Kd z → ClN z) {vs : List V} {H : Hp} {Q : VK} {E : XK} {m : Nat} {t : TS} (h : spY Kd C vs H Q E)
    (hb : ∀ z k es R, Kd z → C k es R → SY z t ((.ref z.hd :: es).map En.sh ++ List.replicate m .un) k ⟨fun _ k' => R .non k', fun d _ k' => R d k'⟩) : t { nx := fun _ Hz => Q .non Hz, rt := Q } (vs.map some ++ List.replicate m none) H := by
  obtain ⟨z, F0, k0, es, ws, R, hK, rfl, x0, fz, hat, rs, hC, q⟩ := h
  obtain ⟨l, hab⟩ := (hn z hK).ex
  have Gd := (good_lendN (es := .ref z.hd :: es) (vs := .ref z.hd :: ws) (l := l) x0 ⟨_, _, rfl, rfl, rs⟩ fun a m => z.has H k0 a hat ((hab a).mpr m)).start m
  have G : GY z _ F0 H _ _ k0 := ⟨Gd, fun p hp => noSlot_nm sh_nmY, fz, fun p hp => .inl (by
    obtain ⟨j, hj, e⟩ := List.getElem_of_mem ((hab p).mp hp)
    exact ⟨j, by show l[j]? = some p; rw [List.getElem?_eq_getElem hj, e]⟩), hat⟩
  have fin : ∀ {k' F' H' σ' Γ'}, GY z ⟨F0, H, fun j => l[j]?⟩ F' H' σ' Γ' k' → Ex F0 F' → StY z F0 H F' H' := fun {k' F' H' σ' Γ'} G' x' => by
    refine ⟨x', G'.g.fh, fun p o n1 e => G'.g.hh p o e fun ⟨j, y⟩ => ?_, G'.f, G'.g.nw⟩
    exact n1 ((hab p).mpr (List.mem_of_getElem? y))
  exact hb z k0 es R hK hC _ F0 H _ G _ (fun Γ' k' F' H' σ' p G' x' => q .non .non k' F' H' p (fin G' x') G'.at_ rfl) fun v d Γ' k' F' H' σ' p G' x' r => q v d k' F' H' p (fin G' x') G'.at_ r
theorem fn_okYN (hn : ∀ z, Kd z → ClN z) (F : FunD K x qual params body scope [] [] f fd) (S' : FnScope N ps scope) (hlen : ∀ k es R, C k es R → es.length + 1 = ps.length)
    (hb : ∀ (cdv : Value) (A : Around) (out : List Env) (s : Shared) (H : Hp) (E : XK), Room n (A.deeper (envOfC qual scope s.heap.objs.size f cdv)) →
      ∃ t, PSs (cxOf CX0 P w K mg base N qual scope f cdv A out s H E).nox body t ∧
        ∀ z k es R, Kd z → C k es R → SY z t ((.ref z.hd :: es).map En.sh ++ List.replicate (N.length - ps.length) .un) k ⟨fun _ k' => R .non k', fun d _ k' => R d k'⟩) :
    FnOk P w K mg base CX0 (n + 1) f fd ps (spY Kd C) := by
  have ln : ∀ vs H Q E, spY Kd C vs H Q E → vs.length = ps.length := fun vs H Q E ⟨z, F, k, es, ws, R, _, e, _, _, _, rs, hC, _⟩ => by rw [e, List.length_cons, rs.length]; exact hlen _ _ _ hC
  refine F.ok S' ln fun cdv A out s H vs Q E hr h => ?_
  obtain ⟨t, h1, h3⟩ := hb cdv A out s H E hr
  refine ⟨_, PSs.nox h1, ?_⟩
  show t _ (vs.map some ++ List.replicate (N.length - vs.length) none) H
  rw [ln vs H Q E h]
  exact runYN hn h h3
end
/-- z' is a part of z: get reads it off, put puts it back -/
structure Lens (z : Cl S) (z' : Cl S') (get : S → S') (put : S → S' → S) : Prop where
  sub : ∀ a, z'.ads a → z.ads a
  g : ∀ H k, z.at_ H k → z'.at_ H (get k)
  p : ∀ H H' k k', z.at_ H k → z'.at_ H' k' → (∀ a, z.ads a → ¬ z'.ads a → H' a = H a) → z.at_ H' (put k k')
section
variable {K : PySem.W.Frag} {z : Cl S} {z' : Cl S'} {Kd : Cl S' → Prop} {Γ : List En} {k : S} {ta : TA} {i : Nat} {es : List D} {R : D → S → Prop} {R' : D → S' → Prop} {P : PoY S} {get : S → S'} {put : S → S' → S}
/-- a call that is lent a part -/
theorem ey_callS {C : CnY S'} (L : Lens z z' get put) (hk : Kd z') (hi : Γ[i]? = some (.sh (.ref z'.hd))) (ha : EaP ta Γ es) (hc : C (get k) es R') (hR : ∀ d k', R' d k' → R d (put k k')) : EvY z (tCall (spY Kd C) [] E0 (tCons (tVar i) ta)) Γ k R := fun c F H σ G Q q => by
  obtain ⟨u, h1, h2⟩ := G.g.en i _ hi
  obtain ⟨v, e1, e2⟩ := h2
  have ev : v = .ref z'.hd := e2
  subst ev
  refine ⟨_, by rw [h1, e1], ha c F H σ G.g _ fun vs F1 H1 S1 r1 => ?_⟩
  have G1 := G.step S1
  show spY Kd C ((.ref z'.hd :: vs) ++ []) H1 Q E0
  rw [List.append_nil]
  refine ⟨z', F1, get k, es, vs, R', hk, rfl, S1.fh, fun a m => G1.f a (L.sub a m), L.g H1 k G1.at_, r1, hc, fun w d k' F' H' hr St hat r => ?_⟩
  have fa2 : ∀ a, z.ads a → F' a = none := fun a m => by
    by_cases y : z'.ads a
    · exact St.fa a y
    · obtain ⟨o, eo⟩ := G1.hs m
      cases e : F' a with
      | none => rfl
      | some u =>
        rcases St.nw a (by rw [e]; exact Option.some_ne_none _) with h | h
        · exact absurd (G1.f a m) h
        · rw [eo] at h; cases h
  have St2 : StY z F1 H1 F' H' := ⟨St.f, St.fh, fun p o n e => St.keep p o (fun m => n (L.sub p m)) e, fa2, St.nw⟩
  have hz : z.at_ H' (put k k') := L.p H1 H' k k' G1.at_ hat fun a m n => by
    obtain ⟨o, eo⟩ := G1.hs m
    rw [eo]; exact St.keep a o n eo
  exact q w d _ F' H' (hR d k' hr) (G1.call St2 hz) (S1.f.trans St.f) r
/-- x[n] of a cell -/
theorem ey_cell {p : Addr} {n : Int} {v : Int} {xs : List V} (hi : Γ[i]? = some (.sh (.ref p))) (hx : ∀ H, z.at_ H k → H p = some (.lst xs)) (hv : atI xs n = some (.int v)) (hR : R (.int v) k) : EvY z (tOp (rIxL K) (tVar i) (tC (.int n))) Γ k R := fun c F H σ G Q q => by
  obtain ⟨u, h1, h2⟩ := G.g.en i _ hi
  obtain ⟨w, e1, e2⟩ := h2
  have ev : w = .ref p := e2
  subst ev
  exact ⟨_, by rw [h1, e1], p, xs, n, .int v, rfl, rfl, .inl (.inl (hx H G.at_)), hv, q _ _ k F H hR G (Ex.refl F) rfl⟩
/-- x[n] = v -/
theorem sy_setC {te : TE} {p : Addr} {n : Int} {j : Nat} {xs : List V} {R1 : D → S → Prop} (hi : Γ[i]? = some (.sh (.ref p))) (hv : EvY z te Γ k R1) (hs : ∀ d k', R1 d k' → ∃ (m : Int) (k2 : S), d = .int m ∧ (∀ H, z.at_ H k' → z.ads p) ∧ (∀ H, z.at_ H k' → H p = some (.lst xs)) ∧ ixN xs.length n = some j ∧ (∀ H, z.at_ H k' → z.at_ (upd H p (.lst (xs.set j (.int m)))) k2) ∧ P.nx Γ k2) : SY z (tAsg te (gSub (tVar i) (tC (.int n)) rSetL)) Γ k P := fun c F H σ G E e1 e2 => hv c F H σ G _ fun v d k' F' H' hr G' x r => by
  obtain ⟨m, k2, rfl, hp, hx, hj, hk, hn⟩ := hs d k' hr
  have ev : v = .int m := r
  subst ev
  obtain ⟨v0, e0, r0⟩ := G'.g.sh hi
  have r0' : v0 = .ref p := r0
  subst r0'
  exact ⟨_, e0, p, _, n, j, rfl, rfl, hx H' G'.at_, hj, e1 Γ k2 F' _ σ hn (G'.wr (p := p) (hp H' G'.at_) (hk H' G'.at_)) x⟩
end
end DL
set_option Elab.async false
set_option linter.all false
set_option maxRecDepth 100000
set_option maxHeartbeats 4000000
/-! T2: trees with the numbers of their nodes, as data; the three lists that are changed while a tree is drawn. -/
namespace DL
open PySem PySem.Spec PyProof.Rows L2
structure S5 where
  b : Addr
  c : Addr
  t : S3
  l : Int
  n : Int
def cell5 (a b c : Addr) : Cl S5 where
  hd := a
  ads := fun p => p = a ∨ p = b ∨ p = c
  at_ := fun H k => k.b = b ∧ k.c = c ∧ a ≠ b ∧ a ≠ c ∧ b ≠ c ∧ H a = some (.lst [.int k.t.p, .int k.t.x, .int k.t.y]) ∧ H b = some (.lst [.int k.l]) ∧ H c = some (.lst [.int k.n])
  hh := .inl rfl
  loc := fun H H' s e h => ⟨h.1, h.2.1, h.2.2.1, h.2.2.2.1, h.2.2.2.2.1, by rw [← e a (.inl rfl)]; exact h.2.2.2.2.2.1, by rw [← e b (.inr (.inl rfl))]; exact h.2.2.2.2.2.2.1, by rw [← e c (.inr (.inr rfl))]; exact h.2.2.2.2.2.2.2⟩
  has := fun H s p h e => by
    rcases e with e | e | e
    · exact ⟨_, e ▸ h.2.2.2.2.2.1⟩
    · exact ⟨_, e ▸ h.2.2.2.2.2.2.1⟩
    · exact ⟨_, e ▸ h.2.2.2.2.2.2.2⟩
def K5 : Cl S5 → Prop := fun z => ∃ a b c, z = cell5 a b c
theorem K5.n (z : Cl S5) (h : K5 z) : ClN z := by
  obtain ⟨a, b, c, rfl⟩ := h
  exact ⟨[a, b, c], fun p => by simp [cell5]⟩
theorem lens53 (a b c : Addr) : Lens (cell5 a b c) (cell3 a) (fun k => k.t) (fun k t => { k with t := t }) where
  sub := fun p e => .inl e
  g := fun H k h => h.2.2.2.2.2.1
  p := fun H H' k k' h h' e => ⟨h.1, h.2.1, h.2.2.1, h.2.2.2.1, h.2.2.2.2.1, h', by rw [e b (.inr (.inl rfl)) (fun q => h.2.2.1 q.symm)]; exact h.2.2.2.2.2.2.1, by rw [e c (.inr (.inr rfl)) (fun q => h.2.2.2.1 q.symm)]; exact h.2.2.2.2.2.2.2⟩
end DL
namespace Lw
open PySem PySem.Spec PyProof.Rows L2 DL
mutual
def trN : Tr → Nat → D
  | .v, n => .tup [.str "value", .int (n : Nat), .tup [], .tup []]
  | .o l t, n => .tup [.str (if l then "list" else "maybe"), .int (n : Nat), .tup [], .tup [trN t (n + 1)]]
  | .r fs, n => .tup [.str "record", .int (n : Nat), .tup (fs.map fun p => .str p.1), .tup (trNs fs (n + 1))]
def trNs : List (Str × Tr) → Nat → List D
  | [], _ => []
  | (_, t) :: r, k => trN t k :: trNs r (k + sz t)
end
theorem trNs_append : ∀ (a b : List (Str × Tr)) (k : Nat), trNs (a ++ b) k = trNs a k ++ trNs b (k + szs a)
  | [], b, k => by simp [trNs, szs]
  | (s, t) :: r, b, k => by
    simp only [List.cons_append, trNs, szs, trNs_append r b]
    rw [Nat.add_assoc]
theorem trNs_len : ∀ (a : List (Str × Tr)) (k : Nat), (trNs a k).length = a.length
  | [], _ => rfl
  | (s, t) :: r, k => by simp only [trNs, List.length_cons, trNs_len r]
/-- a drawn name: a letter and some of seven -/
def nmS (b k : Nat) : Str := SX.S ((97 + b % 26) :: [113, 119, 101, 114, 116, 121, 117].take k)
theorem nmS_ok (b k : Nat) : NmOk (nmS b k) := by
  have e : (nmS b k).cps.toList = (97 + b % 26) :: [113, 119, 101, 114, 116, 121, 117].take k := (by simp [SX.S, nmS])
  refine ⟨by rw [e]; simp, ?_, ?_⟩
  · rw [e, List.length_cons, List.length_take]
    have : min k 7 ≤ 7 := Nat.min_le_right _ _
    simp only [List.length_cons, List.length_nil]; omega
  · rw [e]
    intro x hx
    rcases List.mem_cons.mp hx with rfl | hx
    · omega
    · have := List.mem_of_mem_take hx
      simp only [List.mem_cons, List.not_mem_nil, or_false] at this
      rcases this with rfl | rfl | rfl | rfl | rfl | rfl | rfl <;> decide
def nmsW : Nat → List Nat → List Str
  | _, [] => []
  | b, k :: ks => nmS b k :: nmsW (b + 1) ks
theorem nmsW_snoc : ∀ (b : Nat) (ks : List Nat) (k : Nat), nmsW b (ks ++ [k]) = nmsW b ks ++ [nmS (b + ks.length) k]
  | b, [], k => rfl
  | b, j :: ks, k => by
    simp only [List.cons_append, nmsW, nmsW_snoc (b + 1) ks k, List.length_cons]
    rw [show b + 1 + ks.length = b + (ks.length + 1) by omega]
theorem nmsW_len : ∀ (b : Nat) (ks : List Nat), (nmsW b ks).length = ks.length
  | _, [] => rfl
  | b, k :: ks => by simp only [nmsW, List.length_cons, nmsW_len (b + 1) ks]
theorem nmsW_mem : ∀ (b : Nat) (ks : List Nat) (s : Str), s ∈ nmsW b ks → ∃ i k, i < ks.length ∧ s = nmS (b + i) k
  | _, [], s, h => nomatch h
  | b, k :: ks, s, h => by
    rcases List.mem_cons.mp h with rfl | h
    · exact ⟨0, k, by simp, rfl⟩
    · obtain ⟨i, j, h1, h2⟩ := nmsW_mem (b + 1) ks s h
      exact ⟨i + 1, j, by simp only [List.length_cons]; omega, by rw [h2, show b + 1 + i = b + (i + 1) by omega]⟩
theorem nmS_hd {b k c j : Nat} (h : nmS b k = nmS c j) : b % 26 = c % 26 := by
  have := congrArg (fun s : Str => s.cps.toList) h
  have e1 : (nmS b k).cps.toList = (97 + b % 26) :: [113, 119, 101, 114, 116, 121, 117].take k := (by simp [SX.S, nmS])
  have e2 : (nmS c j).cps.toList = (97 + c % 26) :: [113, 119, 101, 114, 116, 121, 117].take j := (by simp [SX.S, nmS])
  rw [e1, e2] at this
  injection this with q _
  omega
theorem nmsW_nd : ∀ (b : Nat) (ks : List Nat), ks.length ≤ 26 → (nmsW b ks).Nodup
  | _, [], _ => .nil
  | b, k :: ks, h => by
    simp only [List.length_cons] at h
    refine List.nodup_cons.mpr ⟨fun m => ?_, nmsW_nd (b + 1) ks (by omega)⟩
    obtain ⟨i, j, h1, h2⟩ := nmsW_mem (b + 1) ks _ m
    have := nmS_hd h2
    omega
theorem nmsW_ok (b : Nat) (ks : List Nat) : ∀ s ∈ nmsW b ks, NmOk s := fun s h => by
  obtain ⟨i, j, _, rfl⟩ := nmsW_mem b ks s h
  exact nmS_ok _ _
end Lw
set_option Elab.async false
set_option linter.all false
set_option maxRecDepth 100000
set_option maxHeartbeats 4000000
namespace Lw
open PySem PySem.Spec PyProof.Rows L2 DL
local macro_rules | `(tactic| walk_at "sd") => `(tactic| first
  | assumption
  | exact .inl ⟨by decide, by decide⟩ | exact ⟨by decide, by decide, by decide⟩ | exact ⟨by decide, by decide⟩
  | (show (0 : Int) < _; first | decide | omega) | exact ⟨by omega, by omega⟩ | exact .inl ⟨by omega, by omega⟩ | exact .inr ⟨by omega, by omega⟩ | exact .inr ⟨by decide, by decide⟩ | omega)
local macro_rules | `(tactic| walk_at "ep") => `(tactic| first
  | exact ep_int | exact ep_str | exact ep_bl | exact ep_non | exact ep_ref | exact ep_ty
  | exact ep_var rfl
  | (refine' ep_ixM (.inr rfl) ?ka ?kr; (case ka => walk_at "ep"); (case kr => exact rfl))
  | (refine' ep_ixM (.inl rfl) ?ka ?kr; (case ka => walk_at "ep"); (case kr => exact rfl))
  | (refine' ep_op ?ka ?kb rd_I0i; (case ka => walk_at "ep"); (case kb => walk_at "ep"))
  | (refine' ep_op ?ka ?kb rd_I0b; (case ka => walk_at "ep"); (case kb => walk_at "ep"))
  | (refine' ep_op ?ka ?kb (rd_Ii ?sd); (case ka => walk_at "ep"); (case kb => walk_at "ep"); (case sd => walk_at "sd"))
  | (refine' ep_op ?ka ?kb rd_eqI; (case ka => walk_at "ep"); (case kb => walk_at "ep"))
  | (refine' ep_op ?ka ?kb rd_eqS; (case ka => walk_at "ep"); (case kb => walk_at "ep"))
  | (refine' ep_op ?ka ?kb rd_neI; (case ka => walk_at "ep"); (case kb => walk_at "ep"))
  | (refine' ep_op ?ka ?kb rd_neS; (case ka => walk_at "ep"); (case kb => walk_at "ep")))
local macro_rules | `(tactic| walk_at "et") => `(tactic| first
  | (refine' et_test ?ka; (case ka => walk_at "ep"))
  | (refine' et_not ?ka; (case ka => walk_at "et"))
  | (refine' et_and ?ka fun _ => ?kb; (case ka => walk_at "et"); (case kb => walk_at "et"))
  | (refine' et_or ?ka fun _ => ?kb; (case ka => walk_at "et"); (case kb => walk_at "et")))
theorem sc__law_tree : FnScope ["tape", "left", "opens", "deep", "count", "spot", "way", "many", "begin_here", "titles", "at", "sign", "below", "title"] ["tape", "left", "opens", "deep", "count"] (defScope s__law_tree) := ⟨rfl, rfl, rfl, by decide +kernel, rfl, by decide +kernel, by decide +kernel⟩
def C_tree (N : Nat) : CnY S5 := fun k es R => ∃ n opens deep l spot : Nat, es = [.ref k.b, .int opens, .int deep, .ref k.c] ∧ SpS k.t n ∧ n + S deep ≤ 1000000000 ∧ deep < N ∧ k.l = (l : Nat) ∧ l ≤ 100 ∧ k.n = (spot : Nat) ∧ spot + S deep ≤ 100000 ∧
  R = fun d k' => ∃ (t : Tr) (l' : Nat), d = trN t spot ∧ SpS k'.t (n + S deep) ∧ k'.b = k.b ∧ k'.c = k.c ∧ k'.n = ((spot + sz t : Nat) : Int) ∧ k'.l = ((l' : Nat) : Int) ∧ lv t + l' ≤ 1 + l ∧ dp t ≤ deep ∧ op t ≤ opens ∧ okr t ∧ sz t ≤ S deep
theorem okrs_app : ∀ {fs : List (Str × Tr)} {s : Str} {t : Tr}, okrs fs → okr t → okrs (fs ++ [(s, t)])
  | [], _, _, _, h => ⟨h, trivial⟩
  | (_, _) :: _, _, _, h1, h => ⟨h1.1, okrs_app h1.2 h⟩
theorem lvp : ∀ t : Tr, okr t → 1 ≤ lv t
  | .v, _ => Nat.le_refl _
  | .o _ t, h => lvp t h
  | .r [], h => absurd rfl h.1
  | .r ((s, t) :: r), h => by
    have := lvp t h.2.2.2.1
    show 1 ≤ lv t + lvs r
    omega
theorem sz_S : ∀ d : Nat, 1 ≤ S d
  | 0 => Nat.le_refl _
  | d + 1 => by show 1 ≤ 10 + 4 * S d; omega
section
variable {P : Program} {w : World} {K : PySem.W.Frag} {mg : Str → Option Value} {base : Heap} {f : Addr} {fd : FuncData}
theorem ok_tree (T : Tx mg) (c__law_next : Cal P w K mg base 1 "_law_next" (spY K3 C_next)) (F : FnP K "_law_tree" s__law_tree f fd) (kf : PySem.W.keepIn K (.ref f) = true) (mf : mg "_law_tree" = some (.ref f)) (bf : Binds K fd ["tape", "left", "opens", "deep", "count"] []) :
    ∀ N : Nat, FnOk P w K mg base CX0 (N + 2) f fd ["tape", "left", "opens", "deep", "count"] (spY K5 (C_tree N))
  | 0 => fn_noneY fun k es R ⟨_, _, _, _, _, _, _, _, h, _⟩ => absurd h (Nat.not_lt_zero _)
  | N + 1 => by
    have ih := ok_tree T c__law_next F kf mf bf N
    have c__law_tree : Cal P w K mg base (N + 2) "_law_tree" (spY K5 (C_tree N)) := ⟨f, fd, _, ih, mf, kf, bf⟩
    refine fn_okYN K5.n F sc__law_tree (fun k es R ⟨n, o, d, l, s, h, _⟩ => by subst h; rfl) fun cdv A outer s H E hr => ⟨_, (pss_cons (ps_par (i := 5) (j := 6) rfl sc__law_tree.nd rfl rfl (by decide) rfl rfl (pa_cons (pe_ix ix_list (pv 4) pe_int (fun _ _ => rfl)) (pa_cons (pe_c c__law_next hr (by first | decide | omega) rfl (pa_cons (pv 0) (pa_cons pe_int pa_nil))) pa_nil)) (by rfl))
      (pss_cons (ps_asg (pe_op op_add (pv 5) pe_int) (pg_sub (pv 4) pe_int set_list))
      (pss_cons (ps_if (PW.pt (pw_and (pt_cmpR op_gt (pv 3) pe_int (nomark _)) (pw_and (pt_cmpR op_lt (pv 6) pe_int (nomark _)) (pw_and1 (pt_cmpR op_gt (pv 2) pe_int (nomark _)))))) (pss_one (ps_ret (pe_tup (pa_cons (pe_ix ix_list (pe_lst (pa_cons pe_str (pa_cons pe_str (pa_cons pe_str pa_nil)))) (pe_op op_mod (pv 6) pe_int) (fun _ _ => rfl)) (pa_cons (pv 5) (pa_cons (pe_tup pa_nil) (pa_cons (pe_tup (pa_cons (pe_c c__law_tree hr (by first | decide | omega) rfl (pa_cons (pv 0) (pa_cons (pv 1) (pa_cons (pe_op op_sub (pv 2) pe_int) (pa_cons (pe_op op_sub (pv 3) pe_int) (pa_cons (pv 4) pa_nil)))))) pa_nil)) pa_nil))))))) pss_nil)
      (pss_cons (ps_if (PW.pt (pw_or (pt_cmpR op_eq (pv 3) pe_int (nomark _)) (pw_or1 (pt_cmpR op_lt (pv 6) pe_int (nomark _))))) (pss_one (ps_ret (pe_tup (pa_cons pe_str (pa_cons (pv 5) (pa_cons (pe_tup pa_nil) (pa_cons (pe_tup pa_nil) pa_nil))))))) pss_nil)
      (pss_cons (ps_par (i := 7) (j := 8) rfl sc__law_tree.nd rfl rfl (by decide) rfl rfl (pa_cons (pe_callB (call_min2 rfl) rfl T.z_min (by decide +kernel) (pa_cons (pe_op op_add pe_int (pe_c c__law_next hr (by first | decide | omega) rfl (pa_cons (pv 0) (pa_cons pe_int pa_nil)))) (pa_cons (pe_op op_add pe_int (pe_ix ix_list (pv 1) pe_int (fun _ _ => rfl))) pa_nil))) (pa_cons (pe_c c__law_next hr (by first | decide | omega) rfl (pa_cons (pv 0) (pa_cons pe_int pa_nil))) pa_nil)) (by rfl))
      (pss_cons (ps_asg (pe_op op_add (pe_op op_sub (pe_ix ix_list (pv 1) pe_int (fun _ _ => rfl)) (pv 7)) pe_int) (pg_sub (pv 1) pe_int set_list))
      (pss_cons (ps_set (i := 9) sc__law_tree.nd rfl (by first | exact Or.inl rfl | exact Or.inr rfl) (pe_lst pa_nil))
      (pss_cons (ps_for PassesOwn.never rfl (pi_range1 rfl T.z_range (pa_cons (pv 7) pa_nil)) (pg_name (i := 10) sc__law_tree.nd rfl (by first | exact Or.inl rfl | exact Or.inr rfl)) (pss_cons (ps_set (i := 11) sc__law_tree.nd rfl (by first | exact Or.inl rfl | exact Or.inr rfl) (pe_ix ix_str pe_str (pe_op op_mod (pe_op op_add (pv 8) (pv 10)) pe_int) (fun _ _ => rfl)))
      (pss_one (ps_expr (pe_bm PySem.F.plainAttrs_list PySem.F.slot_list_append PySem.F.type_list_append mt_append (pv 9) (pa_cons (pe_op op_add_str (pv 11) (pe_slice sl_str pe_str po_none (po_some (pe_c c__law_next hr (by first | decide | omega) rfl (pa_cons (pv 0) (pa_cons pe_int pa_nil)))))) pa_nil))))))
      (pss_cons (ps_setLc (i := 12) (own := [("title", 13)]) (g := (gName 13)) (tt := tYes) rfl sc__law_tree.nd rfl rfl (sw_true rfl rfl rfl (by decide +kernel)) (pi_list (pv 9)) (blkOk_by (own := [("title", 13)]) (N := ["tape", "left", "opens", "deep", "count", "spot", "way", "many", "begin_here", "titles", "at", "sign", "below", "title"]) (sc := defScope s__law_tree) (by decide +kernel)) (fun _ _ _ _ _ => (pg_name (i := 13) sc__law_tree.nd rfl (Or.inl rfl))) (fun _ _ _ _ _ => pts_nil) (fun _ _ _ _ _ => (pe_c c__law_tree hr (by first | decide | omega) rfl (pa_cons (pv 0) (pa_cons (pv 1) (pa_cons (pv 2) (pa_cons (pe_op op_sub (pv 3) pe_int) (pa_cons (pv 4) pa_nil))))))))
      (pss_one (ps_ret (pe_tup (pa_cons pe_str (pa_cons (pv 5) (pa_cons (pe_callTy call_tuple_of rfl T.z_tuple (by decide +kernel) (pa_cons (pv 9) pa_nil)) (pa_cons (pe_callTy call_tuple_of rfl T.z_tuple (by decide +kernel) (pa_cons (pv 12) pa_nil)) pa_nil)))))))))))))))), ?_⟩
    rintro z k es R ⟨a, b, c, rfl⟩ ⟨n, opens, deep, l, spot, rfl, hs, hn, hd, hl, hl1, hsp, hsp1, rfl⟩
    obtain ⟨kb, kc, kt, kl, kn⟩ := k
    have hl : kl = (l : Nat) := hl
    have hsp : kn = (spot : Nat) := hsp
    subst hl hsp
    have hs : SpS kt n := hs
    show SY (cell5 a b c) _ [.sh (.ref a), .sh (.ref kb), .sh (.int opens), .sh (.int deep), .sh (.ref kc), .un, .un, .un, .un, .un, .un, .un, .un, .un] ⟨kb, kc, kt, (l : Nat), (spot : Nat)⟩ _
    have nx : ∀ {Γ : List En} {k : S5} {m : Int} {nn : Nat} {ta : TA} {R : D → S5 → Prop}, Γ[0]? = some (.sh (.ref a)) → EaP ta Γ [.int m] → SpS k.t nn → nn ≤ 1000000000 → 1 ≤ m → m < 1073741824 → (∀ r t', 0 ≤ r → r < m → SpS t' (nn + 1) → R (.int r) { k with t := t' }) → EvY (cell5 a b c) (tCall (spY K3 C_next) [] E0 (tCons (tVar 0) ta)) Γ k R := fun {Γ k m nn ta R} hi ha hs hn h1 h2 hR => ey_callS (lens53 a b c) ⟨a, rfl⟩ hi ha ⟨m, nn, rfl, hs, hn, h1, h2, rfl⟩ fun d k' ⟨r, e, h3, h4, h5⟩ => by subst e; exact hR r k' h3 h4 h5
    have hS0 := sz_S deep
    refine SY.seq (M := fun Γ' k' => ∃ (way : Nat) (t' : S3), Γ' = [.sh (.ref a), .sh (.ref kb), .sh (.int opens), .sh (.int deep), .sh (.ref kc), .sh (.int (spot : Nat)), .sh (.int way), .un, .un, .un, .un, .un, .un, .un] ∧ k' = ⟨kb, kc, t', (l : Nat), (spot : Nat)⟩ ∧ way < 10 ∧ SpS t' (n + 1)) (sy_par (R1 := fun d k' => d = .int (spot : Nat) ∧ k' = ⟨kb, kc, kt, (l : Nat), (spot : Nat)⟩) (ey_cell (p := kc) (xs := [.int (spot : Nat)]) rfl (fun H h => by have q2 : kc = c := h.2.1; rw [q2]; exact h.2.2.2.2.2.2.2) rfl ⟨rfl, rfl⟩) fun x k' ⟨e1, e2⟩ => by
      subst e1 e2
      exact nx rfl (ea_cons ep_int ea_nil) hs (by omega) (by decide) (by decide) fun r t' g0 g1 h => ⟨r.toNat, t', by rw [show r = ((r.toNat : Nat) : Int) by omega]; rfl, rfl, by omega, h⟩) ?_
    rintro _ _ ⟨way, t1, rfl, rfl, hw, hs1⟩
    refine SY.seq (M := fun Γ' k' => Γ' = [.sh (.ref a), .sh (.ref kb), .sh (.int opens), .sh (.int deep), .sh (.ref kc), .sh (.int (spot : Nat)), .sh (.int way), .un, .un, .un, .un, .un, .un, .un] ∧ k' = ⟨kb, kc, t1, (l : Nat), ((spot + 1 : Nat) : Int)⟩) (sy_setC (p := kc) (xs := [.int (spot : Nat)]) (j := 0) (R1 := fun d k' => d = .int ((spot : Int) + 1) ∧ k' = ⟨kb, kc, t1, (l : Nat), (spot : Nat)⟩) rfl (ey_p (ep_op (ep_var rfl) ep_int rd_I0i) ⟨rfl, rfl⟩) fun d k' ⟨e1, e2⟩ => by
      subst e1 e2
      refine ⟨(spot : Int) + 1, ⟨kb, kc, t1, (l : Nat), ((spot + 1 : Nat) : Int)⟩, rfl, fun H h => .inr (.inr h.2.1), fun H h => by have q2 : kc = c := h.2.1; rw [q2]; exact h.2.2.2.2.2.2.2, rfl, fun H h => ?_, rfl, rfl⟩
      obtain ⟨q1, q2, q3, q4, q5, q6, q7, q8⟩ := h
      have q2 : kc = c := q2
      subst q2
      exact ⟨q1, rfl, q3, q4, q5, by rw [upd_ne q4]; exact q6, by rw [upd_ne q5]; exact q7, upd_same⟩) ?_
    rintro _ _ ⟨rfl, rfl⟩
    refine sy_guard (v := decide ((deep : Int) > 0) && (decide ((way : Int) < 6) && decide ((opens : Int) > 0))) (by walk_at "et") (fun ho => ?_) (fun ho => ?_)
    · have ho2 : 0 < deep ∧ way < 6 ∧ 0 < opens := by simp at ho; omega
      obtain ⟨dq, rfl⟩ : ∃ dq, deep = dq + 1 := ⟨deep - 1, by omega⟩
      obtain ⟨oq, rfl⟩ : ∃ oq, opens = oq + 1 := ⟨opens - 1, by omega⟩
      have hS : S (dq + 1) = 10 + 4 * S dq := rfl
      have ed : EvP (tOp (rI0 fun i j => V.int (i - j)) (tVar 3) (tC (.int 1))) [.sh (.ref a), .sh (.ref kb), .sh (.int ((oq + 1 : Nat) : Int)), .sh (.int ((dq + 1 : Nat) : Int)), .sh (.ref kc), .sh (.int (spot : Nat)), .sh (.int way), .un, .un, .un, .un, .un, .un, .un] (.int (dq : Nat)) := EvP.cast (ep_op (ep_var rfl) ep_int rd_I0i) (by congr 1; omega)
      have eo : EvP (tOp (rI0 fun i j => V.int (i - j)) (tVar 2) (tC (.int 1))) [.sh (.ref a), .sh (.ref kb), .sh (.int ((oq + 1 : Nat) : Int)), .sh (.int ((dq + 1 : Nat) : Int)), .sh (.ref kc), .sh (.int (spot : Nat)), .sh (.int way), .un, .un, .un, .un, .un, .un, .un] (.int (oq : Nat)) := EvP.cast (ep_op (ep_var rfl) ep_int rd_I0i) (by congr 1; omega)
      obtain ⟨isl, hk⟩ : ∃ isl : Bool, ([D.str "list", .str "list", .str "maybe"] : List D)[way % 3]? = some (.str (if isl then "list" else "maybe")) := by
        rcases (show way % 3 = 0 ∨ way % 3 = 1 ∨ way % 3 = 2 by omega) with h | h | h <;> rw [h]
        · exact ⟨true, rfl⟩
        · exact ⟨true, rfl⟩
        · exact ⟨false, rfl⟩
      refine sy_ret (R := fun d k' => ∃ (t : Tr) (l' : Nat), d = trN (.o isl t) spot ∧ SpS k'.t (n + 1 + S dq) ∧ k'.b = kb ∧ k'.c = kc ∧ k'.n = ((spot + 1 + sz t : Nat) : Int) ∧ k'.l = ((l' : Nat) : Int) ∧ lv t + l' ≤ 1 + l ∧ dp t ≤ dq ∧ op t ≤ oq ∧ okr t ∧ sz t ≤ S dq)
        (ey_tup (R' := fun ds k' => ∃ (t : Tr) (l' : Nat), ds = [.str (if isl then "list" else "maybe"), .int (spot : Nat), .tup [], .tup [trN t (spot + 1)]] ∧ SpS k'.t (n + 1 + S dq) ∧ k'.b = kb ∧ k'.c = kc ∧ k'.n = ((spot + 1 + sz t : Nat) : Int) ∧ k'.l = ((l' : Nat) : Int) ∧ lv t + l' ≤ 1 + l ∧ dp t ≤ dq ∧ op t ≤ oq ∧ okr t ∧ sz t ≤ S dq)
          (eay_consP (ep_op (x := .lst [.str "list", .str "list", .str "maybe"]) (y := .int ((way % 3 : Nat) : Int)) (EvF.p (ef_lst (ea_cons ep_str (ea_cons ep_str (ea_cons ep_str ea_nil))) (by show 3 ≤ sizeLine; decide))) (EvP.cast (ep_op (ep_var rfl) ep_int (rd_Ii (by decide))) (by congr 1)) (rd_ixL (atI_nat hk))) (eay_consP (ep_var rfl) (eay_consP (ep_tup ea_nil (Nat.zero_le _))
          (eay_cons (R1 := fun d k' => ∃ (t : Tr) (l' : Nat), d = .tup [trN t (spot + 1)] ∧ SpS k'.t (n + 1 + S dq) ∧ k'.b = kb ∧ k'.c = kc ∧ k'.n = ((spot + 1 + sz t : Nat) : Int) ∧ k'.l = ((l' : Nat) : Int) ∧ lv t + l' ≤ 1 + l ∧ dp t ≤ dq ∧ op t ≤ oq ∧ okr t ∧ sz t ≤ S dq)
            (ey_tup (R' := fun ds k' => ∃ (t : Tr) (l' : Nat), ds = [trN t (spot + 1)] ∧ SpS k'.t (n + 1 + S dq) ∧ k'.b = kb ∧ k'.c = kc ∧ k'.n = ((spot + 1 + sz t : Nat) : Int) ∧ k'.l = ((l' : Nat) : Int) ∧ lv t + l' ≤ 1 + l ∧ dp t ≤ dq ∧ op t ≤ oq ∧ okr t ∧ sz t ≤ S dq)
              (eay_cons (ey_call ⟨a, b, c, rfl⟩ rfl (ea_cons (ep_var rfl) (ea_cons eo (ea_cons ed (ea_cons (ep_var rfl) ea_nil)))) ⟨n + 1, oq, dq, l, spot + 1, rfl, hs1, by omega, by omega, rfl, hl1, rfl, by omega, rfl⟩) fun x k' ⟨t, l', e, q⟩ => eay_nil ⟨t, l', by rw [e], q⟩) fun ds k' ⟨t, l', e, q⟩ => ⟨by rw [e]; show 1 ≤ sizeLine; decide, t, l', by rw [e], q⟩)
            fun x k' ⟨t, l', e, q⟩ => eay_nil ⟨t, l', by rw [e], q⟩)))) fun ds k' ⟨t, l', e, q⟩ => ⟨by rw [e]; show 4 ≤ sizeLine; decide, t, l', by rw [e]; rfl, q⟩) ?_
      rintro d k' ⟨t, l', e, h1, h2, h3, h4, h5, h6, h7, h8, h9, h10⟩
      refine ⟨.o isl t, l', e, h1.mono (by omega), h2, h3, by rw [h4]; show _ = ((spot + (sz t + 1) : Nat) : Int); congr 1; omega, h5, h6, ?_, ?_, h9, ?_⟩
      · show dp t + 1 ≤ dq + 1; omega
      · show op t + 1 ≤ oq + 1; omega
      · show sz t + 1 ≤ S (dq + 1); omega
    refine sy_guard (v := decide ((deep : Int) = 0) || decide ((way : Int) < 7)) (by walk_at "et") (fun hb => ?_) (fun hb => ?_)
    · exact sy_retP (d := trN .v spot) (ep_tup (ea_cons ep_str (ea_cons (ep_var rfl) (ea_cons (ep_tup ea_nil (Nat.zero_le _)) (ea_cons (ep_tup ea_nil (Nat.zero_le _)) ea_nil)))) (by show 4 ≤ sizeLine; decide)) ⟨.v, l, rfl, hs1.mono (by omega), rfl, rfl, rfl, rfl, Nat.le_refl _, Nat.zero_le _, Nat.zero_le _, trivial, hS0⟩
    have hd0 : deep ≠ 0 := fun z => by subst z; simp at hb
    obtain ⟨dq, rfl⟩ : ∃ dq, deep = dq + 1 := ⟨deep - 1, by omega⟩
    have hS : S (dq + 1) = 10 + 4 * S dq := rfl
    have hSq := sz_S dq
    have ed : ∀ {Γ : List En}, Γ[3]? = some (.sh (.int ((dq + 1 : Nat) : Int))) → EvP (tOp (rI0 fun i j => V.int (i - j)) (tVar 3) (tC (.int 1))) Γ (.int (dq : Nat)) := fun h => EvP.cast (ep_op (ep_var h) ep_int rd_I0i) (by congr 1; omega)
    have rl : ∀ {Γ : List En} {t' : S3} {l0 s0 : Int} {R : D → S5 → Prop}, Γ[1]? = some (.sh (.ref kb)) → R (.int l0) ⟨kb, kc, t', l0, s0⟩ → EvY (cell5 a b c) (tOp (rIxL K) (tVar 1) (tC (.int 0))) Γ ⟨kb, kc, t', l0, s0⟩ R := fun {Γ t' l0 s0 R} h1 hR => ey_cell (p := kb) (xs := [.int l0]) h1 (fun H h => by have q1 : kb = b := h.1; rw [q1]; exact h.2.2.2.2.2.2.1) rfl hR
    refine SY.seq (M := fun Γ' k' => ∃ (many bg : Nat) (t' : S3), Γ' = [.sh (.ref a), .sh (.ref kb), .sh (.int opens), .sh (.int ((dq + 1 : Nat) : Int)), .sh (.ref kc), .sh (.int (spot : Nat)), .sh (.int way), .sh (.int many), .sh (.int bg), .un, .un, .un, .un, .un] ∧ k' = ⟨kb, kc, t', (l : Nat), ((spot + 1 : Nat) : Int)⟩ ∧ 1 ≤ many ∧ many ≤ 3 ∧ many ≤ 1 + l ∧ SpS t' (n + 3)) (sy_par (R1 := fun d k' => ∃ (many : Nat) (t' : S3), d = .int many ∧ k' = ⟨kb, kc, t', (l : Nat), ((spot + 1 : Nat) : Int)⟩ ∧ 1 ≤ many ∧ many ≤ 3 ∧ many ≤ 1 + l ∧ SpS t' (n + 2))
      (ey_cb (R' := fun ds k' => ∃ (r : Int) (t' : S3), ds = [.int (1 + r), .int (1 + (l : Nat))] ∧ 0 ≤ r ∧ r < 3 ∧ k' = ⟨kb, kc, t', (l : Nat), ((spot + 1 : Nat) : Int)⟩ ∧ SpS t' (n + 2)) (eay_cons (R1 := fun d k' => ∃ (r : Int) (t' : S3), d = .int (1 + r) ∧ 0 ≤ r ∧ r < 3 ∧ k' = ⟨kb, kc, t', (l : Nat), ((spot + 1 : Nat) : Int)⟩ ∧ SpS t' (n + 2)) (ey_opP ep_int (nx rfl (ea_cons ep_int ea_nil) hs1 (by omega) (by decide) (by decide) fun r t' g0 g1 h => ⟨_, rd_I0i, r, t', rfl, g0, g1, rfl, h⟩))
        fun x k' ⟨r, t', e1, g0, g1, e2, h⟩ => eay_cons (R1 := fun d k2 => d = .int (1 + (l : Nat)) ∧ k2 = k') (by subst e2; exact ey_opP ep_int (rl rfl ⟨_, rd_I0i, rfl, rfl⟩)) fun y k2 ⟨e3, e4⟩ => eay_nil ⟨r, t', by rw [e1, e3], g0, g1, e4 ▸ e2, h⟩)
        fun ds k' ⟨r, t', e, g0, g1, e2, h⟩ => by
          subst e
          refine ⟨_, rc_int2 (f := fun i j => if j < i then j else i), (if (1 + (l : Int)) < 1 + r then 1 + (l : Int) else 1 + r).toNat, t', ?_, e2, ?_, ?_, ?_, h⟩
          · show D.int (if (1 + (l : Int)) < 1 + r then 1 + (l : Int) else 1 + r) = _
            congr 1; split <;> omega
          · split <;> omega
          · split <;> omega
          · split <;> omega)
      fun x k' ⟨many, t', e1, e2, m1, m3, ml, h⟩ => by
        subst e1 e2
        exact nx rfl (ea_cons ep_int ea_nil) h (by omega) (by decide) (by decide) fun r t2 g0 g1 h2 => ⟨many, r.toNat, t2, by rw [show r = ((r.toNat : Nat) : Int) by omega]; rfl, rfl, m1, m3, ml, h2⟩) ?_
    rintro _ _ ⟨many, bg, t2, rfl, rfl, m1, m3, ml, hs2⟩
    obtain ⟨l1, el1⟩ : ∃ l1 : Nat, l1 + many = l + 1 := ⟨l + 1 - many, by omega⟩
    refine SY.seq (M := fun Γ' k' => Γ' = [.sh (.ref a), .sh (.ref kb), .sh (.int opens), .sh (.int ((dq + 1 : Nat) : Int)), .sh (.ref kc), .sh (.int (spot : Nat)), .sh (.int way), .sh (.int many), .sh (.int bg), .un, .un, .un, .un, .un] ∧ k' = ⟨kb, kc, t2, (l1 : Nat), ((spot + 1 : Nat) : Int)⟩) (sy_setC (p := kb) (xs := [.int (l : Nat)]) (j := 0) (R1 := fun d k' => d = .int (l1 : Nat) ∧ k' = ⟨kb, kc, t2, (l : Nat), ((spot + 1 : Nat) : Int)⟩) rfl
      (ey_opL (R1 := fun d k' => d = .int ((l : Nat) - (many : Nat) : Int) ∧ k' = ⟨kb, kc, t2, (l : Nat), ((spot + 1 : Nat) : Int)⟩) (ey_opL (R1 := fun d k' => d = .int (l : Nat) ∧ k' = ⟨kb, kc, t2, (l : Nat), ((spot + 1 : Nat) : Int)⟩) (rl rfl ⟨rfl, rfl⟩) fun x k' ⟨e1, e2⟩ => by subst e1; exact ⟨_, _, ep_var rfl, rd_I0i, rfl, e2⟩) fun x k' ⟨e1, e2⟩ => by subst e1; exact ⟨_, _, ep_int, rd_I0i, by congr 1; omega, e2⟩) fun d k' ⟨e1, e2⟩ => by
      subst e1 e2
      refine ⟨(l1 : Nat), ⟨kb, kc, t2, (l1 : Nat), ((spot + 1 : Nat) : Int)⟩, rfl, fun H h => .inr (.inl h.1), fun H h => by have q1 : kb = b := h.1; rw [q1]; exact h.2.2.2.2.2.2.1, rfl, fun H h => ?_, rfl, rfl⟩
      obtain ⟨q1, q2, q3, q4, q5, q6, q7, q8⟩ := h
      have q1 : kb = b := q1
      subst q1
      exact ⟨rfl, q2, q3, q4, q5, by rw [upd_ne q3]; exact q6, upd_same, by rw [upd_ne (fun e => q5 e.symm)]; exact q8⟩) ?_
    rintro _ _ ⟨rfl, rfl⟩
    refine qy_asgF (ds := []) (ef_lst ea_nil (Nat.zero_le _)) ?_
    show SY (cell5 a b c) _ [.sh (.ref a), .sh (.ref kb), .sh (.int opens), .sh (.int ((dq + 1 : Nat) : Int)), .sh (.ref kc), .sh (.int (spot : Nat)), .sh (.int way), .sh (.int many), .sh (.int bg), .own [], .un, .un, .un, .un] _ _
    refine SY.seq (M := fun Γ' k' => ∃ (ks : List Nat) (e10 e11 : En) (t' : S3), Γ' = [.sh (.ref a), .sh (.ref kb), .sh (.int opens), .sh (.int ((dq + 1 : Nat) : Int)), .sh (.ref kc), .sh (.int (spot : Nat)), .sh (.int way), .sh (.int many), .sh (.int bg), .own ((nmsW bg ks).map D.str), e10, e11, .un, .un] ∧ k' = ⟨kb, kc, t', (l1 : Nat), ((spot + 1 : Nat) : Int)⟩ ∧ ks.length = many ∧ SpS t' (n + 6))
      (sy_for (fun xs i Γ' k' => xs = rgD 0 (many : Int).toNat ∧ ∃ (ks : List Nat) (e10 e11 : En) (t' : S3), Γ' = [.sh (.ref a), .sh (.ref kb), .sh (.int opens), .sh (.int ((dq + 1 : Nat) : Int)), .sh (.ref kc), .sh (.int (spot : Nat)), .sh (.int way), .sh (.int many), .sh (.int bg), .own ((nmsW bg ks).map D.str), e10, e11, .un, .un] ∧ k' = ⟨kb, kc, t', (l1 : Nat), ((spot + 1 : Nat) : Int)⟩ ∧ ks.length = i ∧ i ≤ many ∧ SpS t' (n + 3 + i)) (wiy_p (wi_rng1 (n := (many : Int)) (ea_cons (ep_var rfl) ea_nil) (by omega) (by omega)) ⟨rfl, [], _, _, t2, rfl, rfl, rfl, Nat.zero_le _, hs2⟩) ?_ ?_) ?_
    · rintro xs i d _ _ hx ⟨rfl, ks, e10, e11, t3, rfl, rfl, hks, hi, hs3⟩
      have hil : i < many := by
        have := (List.getElem?_eq_some_iff.mp hx).1
        rw [rgD_len] at this; omega
      have edd : d = .int (i : Nat) := by
        rw [rgD_get (by omega)] at hx
        have := (Option.some.inj hx).symm
        rw [this]; congr 1; omega
      subst edd
      refine ⟨_, gty_name, ?_⟩
      show SY (cell5 a b c) _ [.sh (.ref a), .sh (.ref kb), .sh (.int opens), .sh (.int ((dq + 1 : Nat) : Int)), .sh (.ref kc), .sh (.int (spot : Nat)), .sh (.int way), .sh (.int many), .sh (.int bg), .own ((nmsW bg ks).map D.str), .sh (.int (i : Nat)), e11, .un, .un] _ _
      have abc : ∀ x : Nat, x < 26 → atI ("abcdefghijklmnopqrstuvwxyz" : Str).cps.toList (x : Nat) = some (97 + x) := by decide +kernel
      refine qy_asgP (d := .str ⟨#[97 + (bg + i) % 26]⟩) (ep_op ep_str (EvP.cast (ep_op (ep_op (ep_var rfl) (ep_var rfl) rd_I0i) ep_int (rd_Ii (by decide))) (y := .int (((bg + i) % 26 : Nat) : Int)) (by congr 1)) (rd_ixStr (by decide +kernel) (abc _ (Nat.mod_lt _ (by decide))))) ?_
      show SY (cell5 a b c) _ [.sh (.ref a), .sh (.ref kb), .sh (.int opens), .sh (.int ((dq + 1 : Nat) : Int)), .sh (.ref kc), .sh (.int (spot : Nat)), .sh (.int way), .sh (.int many), .sh (.int bg), .own ((nmsW bg ks).map D.str), .sh (.int (i : Nat)), .sh (.str ⟨#[97 + (bg + i) % 26]⟩), .un, .un] _ _
      have cuts : ∀ r : Nat, r < 8 → cutS ("qwertyu" : Str) none (some (r : Int)) = SX.S ([113, 119, 101, 114, 116, 121, 117].take r) := by decide +kernel
      refine sy_app (.inl rfl) (R := fun d k' => ∃ (r : Nat) (t' : S3), d = .str (nmS (bg + i) r) ∧ k' = ⟨kb, kc, t', (l1 : Nat), ((spot + 1 : Nat) : Int)⟩ ∧ SpS t' (n + 3 + i + 1)) (ey_opP (ep_var rfl) (ey_slTo ep_str (by decide +kernel) (R1 := fun d k' => ∃ (r : Nat) (t' : S3), d = .int (r : Nat) ∧ r < 8 ∧ k' = ⟨kb, kc, t', (l1 : Nat), ((spot + 1 : Nat) : Int)⟩ ∧ SpS t' (n + 3 + i + 1)) (nx rfl (ea_cons ep_int ea_nil) hs3 (by omega) (by decide) (by decide) fun r t' g0 g1 h => ⟨r.toNat, t', by rw [show r = ((r.toNat : Nat) : Int) by omega]; rfl, by omega, rfl, h⟩) ?_)) ?_ ?_
      · rintro x k' ⟨r, t', rfl, hr8, e, h⟩
        refine ⟨(r : Nat), rfl, .str (nmS (bg + i) r), ?_, r, t', rfl, e, h⟩
        rw [cuts r hr8]
        have e1 : nmS (bg + i) r = (⟨#[97 + (bg + i) % 26]⟩ : Str) ++ SX.S ([113, 119, 101, 114, 116, 121, 117].take r) := by
          show _ = SX.S [97 + (bg + i) % 26] ++ SX.S _
          rw [SX.S_cat]; rfl
        rw [e1]
        refine rd_addS ?_
        have e3 : (SX.S ([113, 119, 101, 114, 116, 121, 117].take r)).length ≤ 7 := by
          rw [SX.S_len, List.length_take]
          exact Nat.min_le_right _ _
        exact Nat.le_trans (Nat.add_le_add (Nat.le_refl 1) e3) (by rw [sizeLine_eq]; decide)
      · rw [List.length_map, nmsW_len, hks, sizeLine_eq]; omega
      · rintro d k' ⟨r, t', rfl, rfl, h⟩
        have e : (nmsW bg ks).map D.str ++ [D.str (nmS (bg + i) r)] = (nmsW bg (ks ++ [r])).map D.str := by rw [nmsW_snoc, hks, List.map_append]; rfl
        rw [e]
        exact ⟨rfl, ks ++ [r], .sh (.int (i : Nat)), .sh (.str ⟨#[97 + (bg + i) % 26]⟩), t', rfl, rfl, by rw [List.length_append, hks]; rfl, hil, h⟩
    · rintro xs Γ' k' ⟨rfl, ks, e10, e11, t3, rfl, rfl, hks, hi, hs3⟩
      rw [rgD_len] at hks hs3
      exact ⟨ks, e10, e11, t3, rfl, rfl, by omega, hs3.mono (by omega)⟩
    rintro _ _ ⟨ks, e10, e11, t3, rfl, rfl, hks, hs3⟩
    refine sy_frz (i := 9) rfl ?_
    show SY (cell5 a b c) _ [.sh (.ref a), .sh (.ref kb), .sh (.int opens), .sh (.int ((dq + 1 : Nat) : Int)), .sh (.ref kc), .sh (.int (spot : Nat)), .sh (.int way), .sh (.int many), .sh (.int bg), .sh (.lst ((nmsW bg ks).map D.str)), e10, e11, .un, .un] _ _
    have hln : (nmsW bg ks).length = many := by rw [nmsW_len, hks]
    refine SY.seq (M := fun Γ' k' => ∃ (fs : List (Str × Tr)) (t' : S3) (l' : Nat), Γ' = [.sh (.ref a), .sh (.ref kb), .sh (.int opens), .sh (.int ((dq + 1 : Nat) : Int)), .sh (.ref kc), .sh (.int (spot : Nat)), .sh (.int way), .sh (.int many), .sh (.int bg), .sh (.lst ((nmsW bg ks).map D.str)), e10, e11, .own (trNs fs (spot + 1)), .un] ∧ k' = ⟨kb, kc, t', (l' : Nat), ((spot + 1 + szs fs : Nat) : Int)⟩ ∧ fs.map (·.1) = nmsW bg ks ∧ lvs fs + l' ≤ many + l1 ∧ dps fs ≤ dq ∧ ops fs ≤ opens ∧ okrs fs ∧ szs fs ≤ many * S dq ∧ SpS t' (n + 6 + many * S dq))
      (sy_asgFY (efy_lc (fun xs i acc ki => xs = (nmsW bg ks).map D.str ∧ ∃ (fs : List (Str × Tr)) (t' : S3) (l' : Nat), acc = trNs fs (spot + 1) ∧ ki = ⟨kb, kc, t', (l' : Nat), ((spot + 1 + szs fs : Nat) : Int)⟩ ∧ fs.map (·.1) = (nmsW bg ks).take i ∧ fs.length = i ∧ i ≤ many ∧ lvs fs + l' ≤ i + l1 ∧ dps fs ≤ dq ∧ ops fs ≤ opens ∧ okrs fs ∧ szs fs ≤ i * S dq ∧ SpS t' (n + 6 + i * S dq) ∧ l' ≤ 100) rfl (wiy_p (wi_list (ep_var rfl)) ⟨rfl, [], t3, l1, rfl, rfl, rfl, rfl, Nat.zero_le _, by simp [lvs], by simp [dps], by simp [ops], trivial, by simp [szs], by simpa using hs3, by omega⟩) ?_) ?_) ?_
    · rintro xs i x acc _ hx ⟨rfl, fs, t4, l', rfl, rfl, hnm, hfl, hi, hlv, hdp, hop, hok, hsz, hs4, hl'⟩
      have hil : i < many := by
        have := (List.getElem?_eq_some_iff.mp hx).1
        rw [List.length_map, hln] at this; exact this
      have hin : i < (nmsW bg ks).length := by omega
      have ex : x = .str (nmsW bg ks)[i] := by
        rw [List.getElem?_map, List.getElem?_eq_getElem hin] at hx
        exact (Option.some.inj hx).symm
      subst ex
      have hbud : i * S dq ≤ 2 * S dq := Nat.mul_le_mul_right _ (by omega)
      refine ⟨by rw [trNs_len, hfl, sizeLine_eq]; omega, _, fun v k' => v = true ∧ k' = ⟨kb, kc, t4, (l' : Nat), ((spot + 1 + szs fs : Nat) : Int)⟩, gv_name (by simp), sv1, rfl, ety_p et_yes ⟨rfl, rfl⟩, ?_, ?_⟩
      · rintro k2 ⟨_, rfl⟩
        refine EvY.imp (ey_call ⟨a, b, c, rfl⟩ rfl (ea_cons (ep_var rfl) (ea_cons (ep_var rfl) (ea_cons (ed rfl) (ea_cons (ep_var rfl) ea_nil)))) ⟨n + 6 + i * S dq, opens, dq, l', spot + 1 + szs fs, rfl, hs4, by omega, by omega, rfl, hl', rfl, by omega, rfl⟩) ?_
        rintro d k3 ⟨t, l2, rfl, h1, h2, h3, h4, h5, h6, h7, h8, h9, h10⟩
        have hp1 := lvp t h9
        obtain ⟨kb3, kc3, kt3, kl3, kn3⟩ := k3
        have h2 : kb3 = kb := h2
        have h3 : kc3 = kc := h3
        have h4 : kn3 = ((spot + 1 + szs fs + sz t : Nat) : Int) := h4
        have h5 : kl3 = ((l2 : Nat) : Int) := h5
        subst h2 h3 h4 h5
        refine ⟨rfl, fs ++ [((nmsW bg ks)[i], t)], kt3, l2, ?_, ?_, ?_, by rw [List.length_append, hfl]; rfl, hil, ?_, ?_, ?_, ?_, ?_, ?_, by omega⟩
        · rw [trNs_append]; rfl
        · rw [szs_append]
          show S5.mk kb3 kc3 kt3 (l2 : Nat) ((spot + 1 + szs fs + sz t : Nat) : Int) = S5.mk kb3 kc3 kt3 (l2 : Nat) (((spot + 1 + (szs fs + (sz t + 0)) : Nat)) : Int)
          rw [show spot + 1 + szs fs + sz t = spot + 1 + (szs fs + (sz t + 0)) by omega]
        · rw [List.map_append, hnm, List.take_succ, List.getElem?_eq_getElem hin]; rfl
        · rw [lvs_append]; show lvs fs + (lv t + 0) + l2 ≤ _; omega
        · rw [dps_append]; show max (dps fs) (max (dp t) 0) ≤ _; omega
        · rw [ops_append]; show max (ops fs) (max (op t) 0) ≤ _; omega
        · exact okrs_app hok h9
        · rw [szs_append, Nat.add_mul]; show szs fs + (sz t + 0) ≤ _; omega
        · have h1 : SpS kt3 (n + 6 + i * S dq + S dq) := h1
          exact h1.mono (by rw [Nat.add_mul]; omega)
      · rintro k2 ⟨h, _⟩; cases h
    · rintro ds k' ⟨xs, rfl, fs, t4, l', rfl, rfl, hnm, hfl, hi, hlv, hdp, hop, hok, hsz, hs4, hl'⟩
      rw [List.length_map, hln] at hnm hfl hlv hsz hs4
      rw [List.take_of_length_le (by omega)] at hnm
      exact ⟨fs, t4, l', rfl, rfl, hnm, hlv, hdp, hop, hok, hsz, hs4⟩
    rintro _ _ ⟨fs, t4, l', rfl, rfl, hnm, hlv, hdp, hop, hok, hsz, hs4⟩
    refine sy_frz (i := 12) rfl ?_
    have hbud : many * S dq ≤ 3 * S dq := Nat.mul_le_mul_right _ m3
    have hfl : fs.length = many := by have := congrArg List.length hnm; rwa [List.length_map, hln] at this
    refine sy_retP (d := trN (.r fs) spot) (ep_tup (ea_cons ep_str (ea_cons (ep_var rfl) (ea_cons (x := .tup (fs.map fun p => .str p.1)) (EvP.cast (ep_cb (ea_cons (x := .lst ((nmsW bg ks).map D.str)) (ep_var rfl) ea_nil) rc_tuple) (by rw [← hnm, List.map_map]; rfl)) (ea_cons (ep_cb (ea_cons (x := .lst (trNs fs (spot + 1))) (ep_var rfl) ea_nil) rc_tuple) ea_nil)))) (by show 4 ≤ sizeLine; decide)) ⟨.r fs, l', rfl, hs4.mono (by omega), rfl, rfl, ?_, rfl, ?_, ?_, hop, ⟨?_, ?_, ?_, hok⟩, ?_⟩
    · show ((spot + 1 + szs fs : Nat) : Int) = ((spot + (szs fs + 1) : Nat) : Int); congr 1; omega
    · show lvs fs + l' ≤ _; omega
    · show dps fs + 1 ≤ _; omega
    · intro z; subst z; simp at hfl; omega
    · rw [hnm]; exact nmsW_nd _ _ (by omega)
    · rw [hnm]; exact nmsW_ok _ _
    · show szs fs + 1 ≤ _; omega
end
end Lw
set_option Elab.async false
set_option linter.all false
set_option maxRecDepth 100000
set_option autoImplicit false
set_option maxHeartbeats 4000000
/-! NT2: enumerate over a tuple; an int looked for in a list of ints. -/
namespace DL
open PySem PySem.Spec PyProof.Rows L2
/-- a tuple's items, each in a new pair behind its number -/
def ItET (K : PySem.W.Frag) (tp : Addr) : It where
  go := fun n H => ∃ (xs : List V) (y : V), SqT K H tp xs ∧ xs[n]? = some y
  yld := fun n H r H' => ∃ q y, r = .ref q ∧ H q = none ∧ H' = upd H q (.tup [.int (n : Nat), y]) ∧ ∀ xs, SqT K H tp xs → xs[n]? = some y
  stop := fun n H => ∃ xs : List V, SqT K H tp xs ∧ xs.length = n
theorem enumT_turn {P : Program} {w : World} {K : PySem.W.Frag} {es : List Expr} {ctx : Nat} {ps : Pos} (tp en ti : Addr) :
    Turn P w K (.Tuple es ctx ps) (ItET K tp) [en, ti] en (fun n h => (∃ o, IsEnum h en ti ((n : Nat) : Int) o) ∧ h.IsTupleIter ti tp n ∧ en ≠ ti) where
  mem := List.mem_cons_self
  obj := fun n h ⟨⟨o, he⟩, ⟨ob, e1, _, e2⟩, _⟩ b hb => by
    rcases List.mem_cons.mp hb with z | z
    · subst z; exact ⟨_, he, nofun⟩
    · obtain rfl := List.mem_singleton.mp z
      exact ⟨ob, e1, fun v q => by rw [e2] at q; exact nomatch q⟩
  keep := fun n h h' ⟨⟨o, he⟩, hi, d⟩ k => ⟨⟨o, k en List.mem_cons_self _ he⟩, hi.at fun ob e => k ti (List.mem_cons_of_mem _ List.mem_cons_self) ob e, d⟩
  item := by
    intro X eP ew eK calm n pins s σ H E I fr st hg
    subst eP ew eK
    obtain ⟨⟨o, he⟩, hti, dif⟩ := st
    obtain ⟨xs, y, hx, hy⟩ := hg
    obtain ⟨vs, rel, isT, _⟩ := I.tuple hx
    have isT' : s.heap.IsTuple tp vs.toArray := isT
    obtain ⟨oT, gT, cT, _⟩ := id isT'
    have n1 : en ≠ tp := fun z => by
      subst z
      have he' : s.heap.get? en = some _ := he
      rw [he'] at gT
      cases gT
      exact nomatch (show Value.type "enumerate" = Value.type "tuple" from cT)
    have n2 : tp ≠ ti := fun z => by
      subst z
      obtain ⟨o2, g2, c2, _⟩ := hti
      rw [gT] at g2
      cases g2
      rw [cT] at c2
      exact nomatch c2
    have le1 : en < s.heap.objs.size := Heap.lt_size he
    have le2 : ti < s.heap.objs.size := by obtain ⟨_, g, _⟩ := hti; exact Heap.lt_size g
    have dr := Draws.tuple (prog := X.prog) (w := X.w) (A := X.A.in1) (show X.A.in1.handled = none from I.ok.hd calm) ti tp n2 vs.toArray
    have lt : n < vs.toArray.size := by
      have := (List.getElem?_eq_some_iff.mp hy).1
      rw [List.size_toArray, ← rel.length]; exact this
    refine wpAny_pyNext_enum_itemD dr he ⟨hti, isT'⟩ lt dif (by simp [dif, n1]) fun u h1 tk hu ho hst hT _ hk => ⟨_, rfl, ?_⟩
    have hu' : vs[n]? = some u := by simpa using hu
    have ru : RelV y u := by
      obtain ⟨u2, q1, q2⟩ := rel.get hy
      rw [hu'] at q1; cases q1; exact q2
    refine wpAny_letOwnedTupleGo_enum (s := { s with heap := h1, toks := tk + 1 }) ho fun h2 he2 sb => ?_
    have new : ObjOk X.prog X.w (upd H s.heap.objs.size (.tup [.int (n : Nat), y])) h2 s.heap.objs.size (.tup [.int (n : Nat), y]) :=
      ⟨by show 2 ≤ sizeLine; decide, _, .cons ⟨tk, rfl⟩ (.cons ru .nil), _, (sb.2 _ (Nat.ne_of_gt le1)).trans hT, rfl, _, rfl⟩
    have J := I.turnedNew (t' := tk + 1) (ch := [en, ti]) (fun b ob hb q => (sb.2 b fun z => hb (by simp [z])).trans (hk b ob (fun z => hb (by simp [z])) (fun z => hb (by simp [z])) q)) fr (Nat.le_refl _) new
    refine ⟨.ref s.heap.objs.size, _, J, rfl, ⟨_, y, rfl, I.hok.fresh (Nat.le_refl _), rfl, fun ys hys => by rw [I.tuple_inj hys hx]; exact hy⟩, ⟨⟨u, ?_⟩, hst.1.at fun ob q => (sb.2 ti dif.symm).trans q, dif⟩, fun b hb => ?_⟩
    · rw [Int.natCast_succ]; exact he2
    · have lb : b < s.heap.objs.size := by
        rcases List.mem_cons.mp hb with z | z
        · rw [z]; exact le1
        · rw [List.mem_singleton.mp z]; exact le2
      rw [upd_ne (Nat.ne_of_lt lb)]
      exact (fr b hb).1
  done := by
    intro X eP ew eK calm n pins s σ H E I fr st hg
    subst eP ew eK
    obtain ⟨⟨o, he⟩, hti, dif⟩ := st
    obtain ⟨xs, hx, hn⟩ := hg
    obtain ⟨vs, rel, isT, _⟩ := I.tuple hx
    have isT' : s.heap.IsTuple tp vs.toArray := isT
    obtain ⟨oT, gT, cT, _⟩ := id isT'
    have n2 : tp ≠ ti := fun z => by
      subst z
      obtain ⟨o2, g2, c2, _⟩ := hti
      rw [gT] at g2
      cases g2
      rw [cT] at c2
      exact nomatch c2
    have dr := Draws.tuple (prog := X.prog) (w := X.w) (A := X.A.in1) (show X.A.in1.handled = none from I.ok.hd calm) ti tp n2 vs.toArray
    have en' : n = vs.toArray.size := by rw [List.size_toArray, ← rel.length]; exact hn.symm
    subst en'
    refine wpAny_pyNext_enum_endD dr he ⟨hti, isT'⟩ fun h1 eb => ⟨rfl, ?_⟩
    obtain ⟨f0, f1, f2, f3, f4, f5⟩ := fr ti (by simp)
    exact I.turned (t' := s.toks) (fun b ob hb q => eb b ob hb q) f0 f1 f3 f4 f5
  self := fun A n s Q E ⟨⟨_, he⟩, _⟩ q => wpAny_pyIter_enum he q
end DL
namespace PySem
open AutoSeq1 (wpAny_loadPart')
/-- enumerate(v) of what begins so -/
theorem enumNew1 {v : Value} {ob : Obj} {Z : Heap → Prop} (B : Begins v ob Z) : Meets (Builtin.«enumerate.__new__» ⟨[.type "enumerate", v], []⟩) (fun _ R st => Z st.heap ∧
      R (.ok (.ret (.ref (st.heap.push ob).objs.size))) { st with heap := (st.heap.push ob).push { cls := .type "enumerate", data := .fields #[.none, .bool false, .ref st.heap.objs.size, rawInt 0, .none, .none] } }) :=
  .of_wp fun prog w A R st hz => by
    obtain ⟨hp, gs, dn, tk, sy⟩ := st
    obtain ⟨z, fin⟩ := hz
    have hsub := sub_enumerate
    have it0 : ∀ {A1 : Around} {E1 Q1 : Value → Shared → Prop}, Q1 (.ref hp.objs.size) ⟨hp.push ob, gs, dn, tk, sy⟩ → wpAny (model prog w) A1 (pyIter v) Q1 E1 ⟨hp, gs, dn, tk, sy⟩ := fun q => B.iter prog w _ _ ⟨hp, gs, dn, tk, sy⟩ _ z q
    wp_walk using it0
    refine wpAny_stack_any fun _ => wpAny_pure ?_
    split
    · rename_i cl _ _ _ _ _
      cases (cl == Value.type "enumerate") <;> (wp_walk using it0; exact ⟨_, rfl, fin⟩)
    · wp_walk using it0
      exact ⟨_, rfl, fin⟩
end PySem
namespace DL
open PySem PySem.Spec PyProof.Rows L2
theorem enumT_call {prog : Program} {w : World} {A : Around} {E : Value → Shared → Prop} {st : Shared} {tp : Addr} {vs : Array Value} {Q : Value → Shared → Prop} (isT : st.heap.IsTuple tp vs)
    (h : ∀ h', IsEnum h' (st.heap.objs.size + 1) st.heap.objs.size 0 .none → h'.IsTupleIter st.heap.objs.size tp 0 → (∀ b o, st.heap.get? b = some o → h'.get? b = some o) → Q (.ref (st.heap.objs.size + 1)) { st with heap := h' }) :
    wpAny (model prog w) A (call (.type "enumerate") [.ref tp]) Q E st := by
  refine callType_new F.called_enumerate (by decide) (F.typeCall_enumerate_1 _) (F.newCall_enumerate_1 _) (fun obj => F.args_object_init_2 obj _) F.entry_enumerate_new (enumNew1 (begins_tuple tp vs)) ⟨isT, ?_⟩
  have sz : (st.heap.push { cls := .type "tuple_iterator", data := .fields #[.ref tp, .int 0 0] }).objs.size = st.heap.objs.size + 1 := Heap.size_push ..
  show _ ∧ _
  rw [sz]
  have ie : IsEnum ((st.heap.push { cls := .type "tuple_iterator", data := .fields #[.ref tp, .int 0 0] }).push { cls := .type "enumerate", data := .fields #[.none, .bool false, .ref st.heap.objs.size, rawInt 0, .none, .none] }) (st.heap.objs.size + 1) st.heap.objs.size 0 .none := by
    have q := Heap.get?_push_size (st.heap.push { cls := .type "tuple_iterator", data := .fields #[.ref tp, .int 0 0] }) (o := { cls := .type "enumerate", data := .fields #[.none, .bool false, .ref st.heap.objs.size, rawInt 0, .none, .none] }) rfl
    rw [sz] at q
    exact q
  exact ⟨⟨_, ie, rfl⟩, h _ ie ⟨_, Heap.get?_push_of_some _ (Heap.get?_push_size _ rfl), rfl, rfl⟩ fun b o q => Heap.get?_push_of_some _ (Heap.get?_push_of_some _ q)⟩
def iEnumT (K : PySem.W.Frag) (ta : TA) : TI := fun σ H R => ta σ H fun vs H1 => ∃ tp xs, vs = [.ref tp] ∧ SqT K H1 tp xs ∧ R (ItET K tp) H1
theorem pi_enumT {X : Cx} {e : Expr} {ta : TA} {p pos tpos : Pos} {elts : List Expr} {kk : Nat} (hg : Gl X "enumerate") (hm : X.mg "enumerate" = none) (ha : PA X [e] ta) (hs : starEach [e] X.env = [(false, eval e X.env)] := by rfl) :
    PI X (.Tuple elts kk tpos) (.Call (.Name "enumerate" p) [e] [] pos) (iEnumT X.K ta) := by
  constructor
  intro pins s σ H R I h
  refine Call_ (ld_blt I hg hm boot_enumerate (PyProof.Rows.callWith_type1 (thn (ha.run pos pins s σ H _ I h) ?_) hs rfl))
  rintro us s1 ⟨vs, H1, I1, r1, tp, xs, rfl, hx, q⟩
  obtain ⟨u, rfl, ru⟩ := vals1 r1
  cases ru
  obtain ⟨its, _, isT, _⟩ := I1.tuple hx
  refine enumT_call (show s1.heap.IsTuple tp its.toArray from isT) fun h1 e1 e2 keep => wpAny_pyIter_enum e1 ?_
  refine ⟨s1.heap.objs.size + 1, [s1.heap.objs.size + 1, s1.heap.objs.size], _, _, H1, rfl, I1.kept (t' := s1.toks) keep, enumT_turn tp _ _, ⟨⟨_, e1⟩, e2, Nat.succ_ne_self _⟩, fun b hb => ?_, q⟩
  have le : s1.heap.objs.size ≤ b := by
    rcases List.mem_cons.mp hb with z | z
    · rw [z]; exact Nat.le_succ _
    · rw [List.mem_singleton.mp z]; exact Nat.le_refl _
  exact I1.fpOk le (I1.hok.fresh le)
theorem walk_enumT {K : PySem.W.Frag} {tp : Addr} {xs : List V} : Walk (ItET K tp) xs.length (fun H => SqT K H tp xs) (YPair (fun i => some (.int (i : Nat))) (fun i => xs[i]?)) := by
  refine ⟨fun i _ hi q => ⟨xs, xs[i], q, by simp [hi]⟩, fun _ q => ⟨xs, q, rfl⟩, fun i H v H' _ q y => ?_⟩
  obtain ⟨T, x, h1, h2, h3, h4⟩ := y
  exact ⟨T, _, x, h1, h2, h3, rfl, h4 xs q⟩
section
variable {K : PySem.W.Frag} {Γ : List En} {ds : List D}
theorem wi_enumT {ta : TA} (h : EaP ta Γ [.tup ds]) : WiP (iEnumT K ta) Γ (enD ds) := fun c F H σ G R k => h c F H σ G _ fun vs F1 H1 S1 r1 => by
  obtain ⟨v, _, rfl, ⟨a, xs, rfl, ha, r⟩, rfl⟩ := r1
  refine ⟨a, xs, rfl, .inl (.inl (S1.fh _ _ ha)), k _ F1 H1 (fun H => SqT K H a xs) _ S1 (by rw [enD_len, ← r.length]; exact walk_enumT) (fun H2 e => .inl (.inl (e _ _ ha))) fun i H1' v H2 F2 hi x1 x2 y => ?_⟩
  obtain ⟨T, p, q, rfl, hT, rfl, hp, hq⟩ := y
  obtain ⟨d, hd, rd⟩ := r.get' hq
  rw [enD_len] at hi
  refine ⟨_, .tup [.int (i : Nat), d], by simp [enD, hi]; exact (List.getElem?_eq_some_iff.mp hd).2, Stp.new x2 _ hT, T, _, rfl, upd_same, _, _, rfl, ?_, _, _, rfl, (rd.mono x1).mono (Stp.new x2 (HO.tup [p, q]) hT).f, rfl⟩
  exact (Option.some.inj hp).symm
theorem inV_int (x : Int) : ∀ ys : List Int, inV (.int x) (ys.map V.int) = decide (x ∈ ys)
  | [] => by simp [inV]
  | y :: ys => by
    have q := inV_int x ys
    unfold inV at q ⊢
    rw [List.map_cons, List.any_cons, q]
    show (decide (y = x) || decide (x ∈ ys)) = decide (x ∈ y :: ys)
    by_cases e : x = y
    · subst e; simp
    · have e' : ¬ y = x := fun z => e z.symm
      simp [e, e']
theorem flat_ints : ∀ ys : List Int, (ys.map V.int).all flatV = true
  | [] => rfl
  | _ :: ys => flat_ints ys
theorem rd_inIL {neg : Bool} {a : Int} {ys : List Int} : RD (rIn K neg) (.int a) (.lst (ys.map D.int)) (.bl (if neg then !decide (a ∈ ys) else decide (a ∈ ys))) := fun F H vx vy e rx ry Q k => by
  obtain ⟨p, xs, rfl, hp, rs⟩ := ry
  have ex := rs.ints_eq
  subst ex
  have rx' : vx = .int a := rx
  subst rx'
  exact ⟨p, _, rfl, .inl (.inl (.inl (e _ _ hp))), rfl, flat_ints ys, by rw [inV_int]; exact k _ F H (.refl e) rfl⟩
end
end DL
set_option Elab.async false
set_option linter.all false
set_option maxRecDepth 100000
set_option autoImplicit false
set_option maxHeartbeats 4000000
/-! Y8: zip of a tuple and a list. -/
namespace DL
open PySem PySem.Spec PyProof.Rows L2
/-- the items of the tuple at p and of the list at q, each two in a new pair -/
def ItZM (K : PySem.W.Frag) (p q : Addr) : It where
  go := fun n H => ∃ (us vs : List V) (u v : V), SqT K H p us ∧ SqL K H q vs ∧ us[n]? = some u ∧ vs[n]? = some v
  yld := fun n H r H' => ∃ T u v, r = .ref T ∧ H T = none ∧ H' = upd H T (.tup [u, v]) ∧ (∀ us, SqT K H p us → us[n]? = some u) ∧ ∀ vs, SqL K H q vs → vs[n]? = some v
  stop := fun n H => ∃ us vs : List V, SqT K H p us ∧ SqL K H q vs ∧ us.length = n ∧ vs.length = n
/-- what the zip object looks like between two turns -/
def ZM (p q zo ti tl pi pl : Addr) (n : Nat) (h : Heap) : Prop :=
  ZipSep2 zo ti tl pi pl [pi, p] [pl, q] ∧ IsZip h zo ti tl .none ∧ IsTupOf2 h ti (.ref pi) (.ref pl) ∧ (∃ b c, IsTupOf2 h tl b c) ∧ h.IsTupleIter pi p n ∧ h.IsListIter pl q n
theorem zipM_turn {P : Program} {w : World} {K : PySem.W.Frag} {es : List Expr} {ctx : Nat} {ps : Pos} (p q zo ti tl pi pl : Addr) :
    Turn P w K (.Tuple es ctx ps) (ItZM K p q) [zo, ti, tl, pi, pl] zo (ZM p q zo ti tl pi pl) where
  mem := List.mem_cons_self
  obj := fun n h ⟨_, g1, g2, ⟨b, c, g3⟩, ⟨o4, g4, _, f4⟩, ⟨o5, g5, _, f5⟩⟩ x hx => by
    simp only [List.mem_cons, List.not_mem_nil, or_false] at hx
    rcases hx with rfl | rfl | rfl | rfl | rfl
    · exact ⟨_, g1, nofun⟩
    · exact ⟨_, g2, nofun⟩
    · exact ⟨_, g3, nofun⟩
    · exact ⟨o4, g4, fun v e => by rw [f4] at e; exact nomatch e⟩
    · exact ⟨o5, g5, fun v e => by rw [f5] at e; exact nomatch e⟩
  keep := fun n h h' ⟨g0, g1, g2, ⟨b, c, g3⟩, g4, g5⟩ k => ⟨g0, k zo (by simp) _ g1, k ti (by simp) _ g2, ⟨b, c, k tl (by simp) _ g3⟩, g4.at fun ob e => k pi (by simp) ob e, g5.at fun ob e => k pl (by simp) ob e⟩
  item := by
    intro X eP ew eK calm n pins s σ H E I fr st hg
    subst eP ew eK
    obtain ⟨g0, g1, g2, ⟨b, c, g3⟩, g4, g5⟩ := st
    obtain ⟨us, vs, u, v, hu, hv, eu, ev⟩ := hg
    obtain ⟨xs, rx, isT, _⟩ := I.tuple hu
    obtain ⟨ys, ry, isL, _⟩ := I.list hv
    have isT' : s.heap.IsTuple p xs.toArray := isT
    have isL' : s.heap.IsList q ys.toArray := isL.isList
    have n1 : p ≠ pi := fun z => by
      subst z
      obtain ⟨o1, a1, a2, _⟩ := isT'
      obtain ⟨o2, b1, b2, _⟩ := g4
      rw [a1] at b1
      cases b1
      rw [a2] at b2
      exact nomatch b2
    have n2 : q ≠ pl := fun z => by
      subst z
      obtain ⟨o1, a1, a2, _⟩ := isL'
      obtain ⟨o2, b1, b2, _⟩ := g5
      rw [a1] at b1
      cases b1
      rw [a2] at b2
      exact nomatch b2
    have hh : X.A.in1.handled = none := I.ok.hd calm
    have d1 := Draws.tuple (prog := X.prog) (w := X.w) (A := X.A.in1) hh pi p n1 xs.toArray
    have d2 := Draws.list (prog := X.prog) (w := X.w) (A := X.A.in1) hh pl q n2 ys.toArray
    have l1 : n < xs.toArray.size := by
      have := (List.getElem?_eq_some_iff.mp eu).1
      rw [List.size_toArray, ← rx.length]; exact this
    have l2 : n < ys.toArray.size := by
      have := (List.getElem?_eq_some_iff.mp ev).1
      rw [List.size_toArray, ← ry.length]; exact this
    have z1 : zo < s.heap.objs.size := Heap.lt_size g1
    have z2 : ti < s.heap.objs.size := Heap.lt_size g2
    have z3 : tl < s.heap.objs.size := Heap.lt_size g3
    have z4 : pi < s.heap.objs.size := by obtain ⟨_, e, _⟩ := g4; exact Heap.lt_size e
    have z5 : pl < s.heap.objs.size := by obtain ⟨_, e, _⟩ := g5; exact Heap.lt_size e
    refine wpAny_pyNext_zipD2_item g0 d1 d2 g1 g2 g3 ⟨g4, isT'⟩ ⟨g5, isL'⟩ l1 l2 fun a b' h1 tk ea eb k1 k2 k3 k4 k5 _ kp => ⟨_, rfl, ?_⟩
    have ea' : xs[n]? = some a := by simpa using ea
    have eb' : ys[n]? = some b' := by simpa using eb
    have ra : RelV u a := by
      obtain ⟨a2, q1, q2⟩ := rx.get eu
      rw [ea'] at q1; cases q1; exact q2
    have rb : RelV v b' := by
      obtain ⟨a2, q1, q2⟩ := ry.get ev
      rw [eb'] at q1; cases q1; exact q2
    refine wpAny_letOwnedTupleGo_zip (s := { s with heap := h1, toks := tk }) k1 fun h2 k6 sb => ?_
    have new : ObjOk X.prog X.w (upd H s.heap.objs.size (.tup [u, v])) h2 s.heap.objs.size (.tup [u, v]) :=
      ⟨by show 2 ≤ sizeLine; decide, _, .cons ra (.cons rb .nil), _, (sb.2 _ (Nat.ne_of_gt z1)).trans k5, rfl, _, rfl⟩
    have J := I.turnedNew (t' := tk) (ch := [zo, ti, tl, pi, pl]) (fun x ob hx e => (sb.2 x fun z => hx (by simp [z])).trans (kp x ob (fun z => hx (by simp [z])) (fun z => hx (by simp [z])) (fun z => hx (by simp [z])) (fun z => hx (by simp [z])) e)) fr (Nat.le_refl _) new
    refine ⟨.ref s.heap.objs.size, _, J, rfl, ⟨_, u, v, rfl, I.hok.fresh (Nat.le_refl _), rfl, fun l hl => by rw [I.tuple_inj hl hu]; exact eu, fun l hl => by rw [I.list_inj hl hv]; exact ev⟩, ⟨g0, k6, ?_, ⟨a, b', ?_⟩, ?_, ?_⟩, fun x hx => ?_⟩
    · exact (sb.2 _ g0.TIz).trans (kp _ _ g0.TIz g0.TITO g0.TIi1 g0.TIi2 g2)
    · exact (sb.2 _ g0.TOz).trans k2
    · exact k3.1.at fun ob e => (sb.2 pi g0.zi1.symm).trans e
    · exact k4.1.at fun ob e => (sb.2 pl fun z => g0.zf2 (by rw [z]; exact List.mem_cons_self)).trans e
    · have lt : x < s.heap.objs.size := by
        simp only [List.mem_cons, List.not_mem_nil, or_false] at hx
        rcases hx with rfl | rfl | rfl | rfl | rfl
        · exact z1
        · exact z2
        · exact z3
        · exact z4
        · exact z5
      rw [upd_ne (Nat.ne_of_lt lt)]
      exact (fr x hx).1
  done := by
    intro X eP ew eK calm n pins s σ H E I fr st hg
    subst eP ew eK
    obtain ⟨g0, g1, g2, ⟨b, c, g3⟩, g4, g5⟩ := st
    obtain ⟨us, vs, hu, hv, eu, ev⟩ := hg
    obtain ⟨xs, rx, isT, _⟩ := I.tuple hu
    obtain ⟨ys, ry, isL, _⟩ := I.list hv
    have isT' : s.heap.IsTuple p xs.toArray := isT
    have isL' : s.heap.IsList q ys.toArray := isL.isList
    have n1 : p ≠ pi := fun z => by
      subst z
      obtain ⟨o1, a1, a2, _⟩ := isT'
      obtain ⟨o2, b1, b2, _⟩ := g4
      rw [a1] at b1
      cases b1
      rw [a2] at b2
      exact nomatch b2
    have n2 : q ≠ pl := fun z => by
      subst z
      obtain ⟨o1, a1, a2, _⟩ := isL'
      obtain ⟨o2, b1, b2, _⟩ := g5
      rw [a1] at b1
      cases b1
      rw [a2] at b2
      exact nomatch b2
    have hh : X.A.in1.handled = none := I.ok.hd calm
    have d1 := Draws.tuple (prog := X.prog) (w := X.w) (A := X.A.in1) hh pi p n1 xs.toArray
    have d2 := Draws.list (prog := X.prog) (w := X.w) (A := X.A.in1) hh pl q n2 ys.toArray
    have l1 : n = xs.toArray.size := by rw [List.size_toArray, ← rx.length]; exact eu.symm
    have l2 : n = ys.toArray.size := by rw [List.size_toArray, ← ry.length]; exact ev.symm
    refine wpAny_pyNext_zipD2_end g0 d1 d2 g1 g2 g3 ⟨g4, isT'⟩ ⟨g5, isL'⟩ (Nat.le_of_eq l1) (Nat.le_of_eq l2) (.inl l1) fun h1 tk kp => ⟨rfl, ?_⟩
    exact I.turnedL (t' := tk) (ch := [zo, ti, tl, pi, pl]) (fun x ob hx e => kp x ob (fun z => hx (by simp [z])) (fun z => hx (by simp [z])) (fun z => hx (by simp [z])) (fun z => hx (by simp [z])) e) fr
  self := fun A n s Q E ⟨_, g1, _⟩ k => wpAny_pyIter_zip g1 k
def iZipM (K : PySem.W.Frag) (ta : TA) : TI := fun σ H R => ta σ H fun ws H1 => ∃ p q us vs, ws = [.ref p, .ref q] ∧ SqT K H1 p us ∧ SqL K H1 q vs ∧ R (ItZM K p q) H1
theorem pi_zipM {X : Cx} {e e2 : Expr} {ta : TA} {p pos tpos : Pos} {elts : List Expr} {kk : Nat} (hg : Gl X "zip") (hm : X.mg "zip" = none) (ha : PA X [e, e2] ta)
    (st1 : starEach [e, e2] X.env = (false, eval e X.env) :: starEach [e2] X.env := by rfl) (st2 : (backTo pos (starEach [e2] X.env)).any (·.1) = false := by rfl) :
    PI X (.Tuple elts kk tpos) (.Call (.Name "zip" p) [e, e2] [] pos) (iZipM X.K ta) := by
  constructor
  intro pins s σ H R I h
  refine Call_ (ld_blt I hg hm PyProof.Rows.boot_zip (PyProof.Rows.callWith_type1 (thn (ha.run pos pins s σ H _ I h) ?_) st1 st2))
  rintro us0 s1 ⟨ws, H1, I1, r1, a, b, us, vs, rfl, hu, hv, k⟩
  obtain ⟨c, d, rfl, rc, rd⟩ := Vals.two r1
  cases rc
  cases rd
  obtain ⟨xs, _, isT, _⟩ := I1.tuple hu
  obtain ⟨ys, _, isL, _⟩ := I1.list hv
  have isT' : s1.heap.IsTuple a xs.toArray := isT
  have isL' : s1.heap.IsList b ys.toArray := isL.isList
  have la : a < s1.heap.objs.size := by obtain ⟨_, e, _⟩ := isT'; exact Heap.lt_size e
  have lb : b < s1.heap.objs.size := by obtain ⟨_, e, _⟩ := isL'; exact Heap.lt_size e
  refine zip_begins2 (begins_tuple a xs.toArray) (begins_list b ys.toArray) isT' isL' fun h1 g1 g2 g3 g4 g5 _ kp => wpAny_pyIter_zip g1 ?_
  refine ⟨s1.heap.objs.size + 4, [s1.heap.objs.size + 4, s1.heap.objs.size + 2, s1.heap.objs.size + 3, s1.heap.objs.size, s1.heap.objs.size + 1], _, _, H1, rfl, I1.kept (t' := s1.toks) kp, zipM_turn a b _ _ _ _ _, ⟨zip_sep2 (fun x hx => by rw [List.mem_singleton.mp hx]; exact la) (fun x hx => by rw [List.mem_singleton.mp hx]; exact lb), g1, g2, ⟨_, _, g3⟩, ⟨_, g4, rfl, rfl⟩, ⟨_, g5, rfl, rfl⟩⟩, fun x hx => ?_, k⟩
  have le : s1.heap.objs.size ≤ x := by
    simp only [List.mem_cons, List.not_mem_nil, or_false] at hx
    rcases hx with rfl | rfl | rfl | rfl | rfl
    · exact Nat.le_add_right _ 4
    · exact Nat.le_add_right _ 2
    · exact Nat.le_add_right _ 3
    · exact Nat.le_refl _
    · exact Nat.le_add_right _ 1
  exact I1.fpOk le (I1.hok.fresh le)
theorem walk_zipM {K : PySem.W.Frag} {p q : Addr} {us vs : List V} (hl : us.length = vs.length) : Walk (ItZM K p q) us.length (fun H => SqT K H p us ∧ SqL K H q vs) (YPair (fun i => us[i]?) (fun i => vs[i]?)) := by
  refine ⟨fun i _ hi q => ⟨us, vs, us[i], vs[i]'(by omega), q.1, q.2, by simp [hi], by simp [hl ▸ hi]⟩, fun _ q => ⟨us, vs, q.1, q.2, rfl, hl.symm⟩, fun i H v H' _ q y => ?_⟩
  obtain ⟨T, x, y', h1, h2, h3, h4, h5⟩ := y
  exact ⟨T, x, y', h1, h2, h3, h4 us q.1, h5 vs q.2⟩
section
variable {K : PySem.W.Frag} {Γ : List En} {ds es : List D}
theorem wi_zipM {ta : TA} (h : EaP ta Γ [.tup ds, .lst es]) (hl : ds.length = es.length) : WiP (iZipM K ta) Γ (zpD ds es) := fun c F H σ G R k => h c F H σ G _ fun vs F1 H1 S1 r1 => by
  obtain ⟨v, _, rfl, ⟨a, xs, rfl, ha, r⟩, v2, _, rfl, ⟨b, ys, rfl, hb, r2⟩, rfl⟩ := r1
  have hxy : xs.length = ys.length := by rw [r.length, r2.length]; exact hl
  refine ⟨a, b, xs, ys, rfl, .inl (.inl (S1.fh _ _ ha)), .inl (.inl (S1.fh _ _ hb)), k _ F1 H1 (fun H => SqT K H a xs ∧ SqL K H b ys) _ S1 (by rw [show (zpD ds es).length = xs.length by rw [zpD_len, ← hl, Nat.min_self, r.length]]; exact walk_zipM hxy) (fun H2 e => ⟨.inl (.inl (e _ _ ha)), .inl (.inl (e _ _ hb))⟩) fun i H1' v H2 F2 hi x1 x2 y => ?_⟩
  obtain ⟨T, p, q, rfl, hT, rfl, hp, hq⟩ := y
  obtain ⟨d, hd, rd⟩ := r.get' hp
  obtain ⟨d2, hd2, rd2⟩ := r2.get' hq
  exact ⟨_, _, zpD_get hd hd2, Stp.new x2 _ hT, T, _, rfl, upd_same, _, _, rfl, (rd.mono x1).mono (Stp.new x2 (HO.tup [p, q]) hT).f, _, _, rfl, (rd2.mono x1).mono (Stp.new x2 (HO.tup [p, q]) hT).f, rfl⟩
end
end DL
set_option Elab.async false
set_option linter.all false
set_option maxRecDepth 100000
set_option autoImplicit false
set_option maxHeartbeats 4000000
namespace Lw
open PySem PySem.Spec PyProof.Rows L2 DL
def sg : Tr → Nat
  | .v => 118
  | .o true _ => 91
  | .o false _ => 63
  | .r _ => 123
def bd : Tr → List Nat
  | .v => []
  | .o true t => tx t ++ [93]
  | .o false t => tx t
  | .r fs => TL.joinL [32] (txs fs) ++ [125]
def kS : Tr → Str
  | .v => "value"
  | .o true _ => "list"
  | .o false _ => "maybe"
  | .r _ => "record"
theorem tx_sg : ∀ t : Tr, tx t = sg t :: bd t
  | .v => rfl
  | .o true _ => rfl
  | .o false _ => rfl
  | .r _ => rfl
theorem kOf_sg : ∀ t : Tr, kOf (sg t) = some (kS t)
  | .v => rfl
  | .o true _ => rfl
  | .o false _ => rfl
  | .r _ => rfl
section
variable {P : Program} {w : World} {K : PySem.W.Frag} {mg : Str → Option Value} {base : Heap} {f g : Addr} {fd gd : FuncData} {C kd : Addr} {es : Array DictEntry} {n : Nat}
variable {c : RC} {H0 H : Hp} {r : RS} {ca : List Addr} {σ : L2.St} {te ta tb tc td ty tv : TE} {D : Ends} {ts : TS} {tt : TT}
theorem vh_can {tr t1 t2 t3 : TE} {x : Nat} {s : Str} {above opn : Nat} (h : RdAt c H0 H r) (v : Val tr σ H (.ref c.p)) (v1 : Val t1 σ H (.str (SX.S [x]))) (v2 : Val t2 σ H (.int (above : Nat))) (v3 : Val t3 σ H (.int (opn : Nat))) (hk : kOf x = some s) (h0 : r.kinds.length < 40) (h1 : x = 118 → vals r.kinds < 12) (h2 : x ≠ 118 → above < 20) (h3 : x ≠ 118 → x ≠ 123 → opn < 8) :
    Val (tMeth c.C "_can_begin" (spCan c.C) [] E0 tr (tCons t1 (tCons t2 (tCons t3 tNil)))) σ H (.bl true) := fun Q q => by
  obtain ⟨ca, h⟩ := h
  exact vh_meth v h.ins rfl (va_cons v1 (va_cons v2 (va_cons v3 va_nil))) (PV := fun v H' => v = .bl true ∧ H' = H) (fun Q q => ⟨c, H0, r, x, s, above, opn, rfl, ⟨ca, h⟩, rfl, hk, h0, h1, h2, h3, q _ _ ⟨rfl, rfl⟩⟩) Q fun v H' ⟨e1, e2⟩ => by subst e1 e2; exact q
theorem vh_add {tr t1 t2 t3 : TE} {k : Str} {p : Int} {x : Option Str} (h : RdAt c H0 H r) (v : Val tr σ H (.ref c.p)) (v1 : Val t1 σ H (.str k)) (v2 : Val t2 σ H (.int p)) (v3 : Val t3 σ H (nV x)) (wf : r.wf) (hn : r.kinds.length < 1000) (hp : 0 ≤ p → p.toNat < r.kinds.length) :
    ValH (tMeth c.C "_add_node" (spAdd c.C) [] E0 tr (tCons t1 (tCons t2 (tCons t3 tNil)))) σ H fun v H' => v = .int (r.kinds.length : Nat) ∧ RdAt c H0 H' (r.add k p x) := by
  obtain ⟨ca, h⟩ := h
  exact vh_meth v h.ins rfl (va_cons v1 (va_cons v2 (va_cons v3 va_nil))) fun Q q => ⟨c, H0, r, k, p, x, rfl, ⟨ca, h⟩, rfl, wf, hn, hp, fun H' h' => q _ _ ⟨rfl, h'⟩⟩
theorem vh_fields {N : Nat} {tr t1 t2 t3 : TE} {fs : List (Str × Tr)} {p : Nat} {above opn : Nat} {rest : List Nat} (h : RdAt c H0 H r) (v : Val tr σ H (.ref c.p)) (v1 : Val t1 σ H (.int (p : Nat))) (v2 : Val t2 σ H (.int (above : Nat))) (v3 : Val t3 σ H (.int (opn : Nat)))
    (hN : dps fs < N) (k : CanF r fs above opn) (hp : p < r.kinds.length) (ht : r.cs.drop r.at_ = tl fs rest) : ValH (tMeth c.C "_read_fields" (spFields c.C N) [] E0 tr (tCons t1 (tCons t2 (tCons t3 tNil)))) σ H fun v H' => v = .non ∧ RdAt c H0 H' (r.flds fs p ((TL.joinL [32] (txs fs)).length + 1)) := by
  obtain ⟨ca, h⟩ := h
  exact vh_meth v h.ins rfl (va_cons v1 (va_cons v2 (va_cons v3 va_nil))) fun Q q => ⟨c, H0, r, fs, p, above, opn, rest, rfl, ⟨ca, h⟩, rfl, hN, k, hp, ht, fun H' h' => q _ _ ⟨rfl, h'⟩⟩
theorem val_inc {te : TE} {i : Nat} (h : Val te σ H (.int (i : Nat))) : Val (tOp (rI0 fun i j => .int (i + j)) te (tC (.int 1))) σ H (.int ((i + 1 : Nat) : Int)) := val_op h val_c fun Q q => ⟨_, _, rfl, rfl, q⟩
theorem st_setL {ta ti tv : TE} {p : Addr} {xs : List V} {i : Int} {j : Nat} {v : V} (hv : Val tv σ H v) (ha : Val ta σ H (.ref p)) (hi : Val ti σ H (.int i)) (e : H p = some (.lst xs)) (hj : ixN xs.length i = some j) (q : D.nx σ (upd H p (.lst (xs.set j v)))) : tAsg tv (gSub ta ti rSetL) D σ H := hv _ (ha _ (hi _ ⟨p, xs, i, j, rfl, rfl, e, hj, q⟩))
theorem ixN_nat {n i : Nat} (h : i < n) : ixN n (i : Int) = some i := by
  have q := atI_nat (xs := List.range n) (j := i) (v := i) (by rw [List.getElem?_range h])
  obtain ⟨j, h1, h2⟩ := atI_some q
  rw [List.length_range] at h1
  have hj : j < (List.range n).length := (List.getElem?_eq_some_iff.mp h2).1
  rw [List.length_range] at hj
  rw [List.getElem?_range hj] at h2
  rw [h1]; exact h2
theorem step_end (T : Rx K w mg c.C kd es n) (h : RdC c H0 H r ca) {tr ti : TE} {i : Nat} (v0 : Val tr σ H (.ref c.p)) (v6 : Val ti σ H (.int (i : Nat))) (hi : i < r.ends.length) (q : ∀ H', RdC c H0 H' (r.endAt i r.at_) ca → D.nx σ H') : tAsg (tFld K tr "at") (gSub (tFld K tr "ends") ti rSetL) D σ H := by
  refine st_setL (v_at T h v0) (v_ends T h v0) v6 h.ee (by rw [List.length_map]; exact ixN_nat hi) ?_
  have e : (r.ends.map nI).set i (V.int (r.at_ : Nat)) = (r.ends.set i r.at_).map nI := by rw [List.map_set]; rfl
  rw [e]
  exact q _ (h.putE _)
theorem end_v (wf : r.wf) (p : Int) (x : Option Str) : ({ r.add (kS .v) p x with at_ := r.at_ + 1 } : RS).endAt r.kinds.length (r.at_ + 1) = r.node .v p x := by
  unfold RS.endAt RS.node RS.add
  simp only [RS.mk.injEq]
  exact ⟨trivial, rfl, rfl, rfl, rfl, rfl, rfl, set_mid _ _ _ _ _ wf.e.symm⟩
theorem ok_node (T : Rx K w mg C kd es n) {N : Nat} (m__next_sign : C8.Met P w K mg base 1 C "_next_sign" (spNext C) []) (m__take : C8.Met P w K mg base 2 C "_take" (spTake C) []) (m__can_begin : C8.Met P w K mg base 1 C "_can_begin" (spCan C) []) (m__add_node : C8.Met P w K mg base 1 C "_add_node" (spAdd C) [])
    (m__read_node : C8.Met P w K mg base (2 * N + 4) C "_read_node" (spNode C N) []) (m__read_fields : C8.Met P w K mg base (2 * N + 5) C "_read_fields" (spFields C N) []) (F : FnM K "_read_node" "SchemaReader._read_node" s_SchemaReader__read_node f fd) : FnOk P w K mg base CX0 (2 * N + 5 + 1) f fd ["self", "parent", "name", "above", "open_above"] (spNode C (N + 1)) := by
  refine F.ok sc_SchemaReader__read_node (fun vs H Q E ⟨c, H0, r, t, p, x, a, o, rest, _, _, e, _⟩ => by subst e; rfl) fun cdv A outer s H vs Q E hr h => ⟨_, PSs.nox (pss_cons (ps_set (i := 5) sc_SchemaReader__read_node.nd rfl (by first | exact Or.inl rfl | exact Or.inr rfl) (C8.pe_mt0 m__next_sign hr (by first | decide | omega) (pv 0)))
      (pss_cons (ps_if (pt_not (pt_val (C8.pe_mt m__can_begin hr (by first | decide | omega) (pv 0) (pa_cons (pv 5) (pa_cons (pv 3) (pa_cons (pv 4) pa_nil)))))) (pss_one ps_never) pss_nil)
      (pss_cons (ps_set (i := 6) sc_SchemaReader__read_node.nd rfl (by first | exact Or.inl rfl | exact Or.inr rfl) (C8.pe_mt m__add_node hr (by first | decide | omega) (pv 0) (pa_cons (pe_ix ix_kdict (pe_gc rfl T.g_KIND_OF_SIGN) (pv 5) (fun _ _ => rfl)) (pa_cons (pv 1) (pa_cons (pv 2) pa_nil)))))
      (pss_cons (ps_fldaug (pv 0) pe_int in_add)
      (pss_cons (ps_if (pt_cmpR op_eq (pv 5) pe_str (nomark _)) (pss_one (ps_expr (C8.pe_mt m__read_fields hr (by first | decide | omega) (pv 0) (pa_cons (pv 6) (pa_cons (pe_op op_add (pv 3) pe_int) (pa_cons (pv 4) pa_nil)))))) (pss_one (ps_if (pt_cmpR op_ne (pv 5) pe_str (nomark _)) (pss_one (ps_expr (C8.pe_mt m__read_node hr (by first | decide | omega) (pv 0) (pa_cons (pv 6) (pa_cons pe_non (pa_cons (pe_op op_add (pv 3) pe_int) (pa_cons (pe_op op_add (pv 4) pe_int) pa_nil))))))) pss_nil)))
      (pss_cons (ps_if (pt_cmpR op_eq (pv 5) pe_str (nomark _)) (pss_one (ps_expr (C8.pe_mt m__take hr (by first | decide | omega) (pv 0) (pa_cons pe_str pa_nil)))) pss_nil)
      (pss_one (ps_asg (pe_fld (pv 0) rfl) (pg_sub (pe_fld (pv 0) rfl) (pv 6) set_list))))))))), ?_⟩
  obtain ⟨c, H0, r, t, p, x, above, opn, rest, rfl, h, rfl, hN, k, hp, ht, q⟩ := h
  rw [tx_sg, List.cons_append] at ht
  obtain ⟨t1, t2⟩ := drop_get ht
  have hsz := sz_pos t
  have hnd := k.nodes
  have hvl := k.vals
  have hab := k.ab
  have hon := k.on
  have nx := vh_next T h rfl (val_var rfl : Val (tVar 0) [some (.ref c.p), some (.int p), some (nV x), some (.int (above : Nat)), some (.int (opn : Nat)), none, none] H _) k.len
  rw [sgn_some t1] at nx
  refine st_seq (st_set nx ?_)
  show tSeq _ _ _ [some (.ref c.p), some (.int p), some (nV x), some (.int (above : Nat)), some (.int (opn : Nat)), some (.str (SX.S [sg t])), none] _
  refine st_seq (st_no ((ans_not (ans_val (vh_can h (val_var rfl) (val_var rfl) (val_var rfl) (val_var rfl) (kOf_sg t) (by omega) ?_ ?_ ?_))).to rfl) (st_next ?_))
  · cases t with
    | v => intro _; simp only [lv] at hvl; omega
    | o b t => cases b <;> intro z <;> simp [sg] at z
    | r fs => intro z; simp [sg] at z
  · cases t with
    | v => intro z; exact absurd rfl z
    | o b t => intro _; simp only [dp] at hab; omega
    | r fs => intro _; simp only [dp] at hab; omega
  · cases t with
    | v => intro z; exact absurd rfl z
    | o b t => intro _ _; simp only [op] at hon; omega
    | r fs => intro _ z; exact absurd rfl z
  dsimp only
  refine st_seq (st_setH (vh_add h (val_var rfl) (val_op val_c (val_var rfl) fun Q q => ⟨kd, _, _, rfl, rfl, T.kof (kOf_sg t), q⟩) (val_var rfl) (val_var rfl) k.wf (by omega) hp) ?_)
  rintro _ H1 ⟨rfl, ca, h1⟩
  show tSeq _ _ _ [some (.ref c.p), some (.int p), some (nV x), some (.int (above : Nat)), some (.int (opn : Nat)), some (.str (SX.S [sg t])), some (.int (r.kinds.length : Nat))] _
  refine st_seq (step_at T h1 (val_var rfl) fun H2 h2 => ?_)
  dsimp only
  have h2' : RdAt c H0 H2 { r.add (kS t) p x with at_ := r.at_ + 1 } := ⟨ca, h2⟩
  have eqS : ∀ {a : Nat} {b : Bool} {H : Hp}, decide (sg t = a) = b → Ans (tTest (tOp rEq (tVar 5) (tC (.str (SX.S [a]))))) [some (.ref c.p), some (.int p), some (nV x), some (.int (above : Nat)), some (.int (opn : Nat)), some (.str (SX.S [sg t])), some (.int (r.kinds.length : Nat))] H b := fun {a b H} e => ans_eq (val_var rfl) val_c rfl (S1_dec.trans e)
  have neS : ∀ {a : Nat} {b : Bool} {H : Hp}, (!decide (sg t = a)) = b → Ans (tTest (tOp rNe (tVar 5) (tC (.str (SX.S [a]))))) [some (.ref c.p), some (.int p), some (nV x), some (.int (above : Nat)), some (.int (opn : Nat)), some (.str (SX.S [sg t])), some (.int (r.kinds.length : Nat))] H b := fun {a b H} e => ans_ne (val_var rfl) val_c rfl ((congrArg (! ·) S1_dec).trans e)
  have wf2 := k.wf.add (kS t) p x (r.at_ + 1)
  cases t with
  | v =>
    refine st_seq (st_no (eqS (a := 123) rfl) (st_no (neS (a := 118) rfl) (st_next ?_)))
    dsimp only
    refine st_seq (st_no (eqS (a := 91) rfl) (st_next ?_))
    dsimp only
    refine step_end T h2 (val_var rfl) (val_var rfl) (by show r.kinds.length < (r.ends ++ [r.at_]).length; rw [List.length_append, k.wf.e]; simp) fun H3 h3 => q H3 ⟨ca, ?_⟩
    rw [← end_v k.wf]; exact h3
  | o b t =>
    refine st_seq (st_no (eqS (a := 123) (by cases b <;> rfl)) (st_yes (neS (a := 118) (by cases b <;> rfl)) ?_))
    have hd2 : r.cs.drop (r.at_ + 1) = tx t ++ ((if b then [93] else []) ++ rest) := by rw [t2]; cases b <;> simp [bd]
    refine st_dropH (vh_node (N := N) (t := t) (x := none) (p := (r.kinds.length : Nat)) h2' (val_var rfl) (val_var rfl) val_c (val_inc (val_var rfl)) (val_inc (val_var rfl)) (by simp only [dp] at hN; omega) ⟨wf2, k.ok, k.len, ?_, ?_, ?_, ?_⟩ (fun _ => ?_) hd2) ?_
    · show (r.kinds ++ [kS (.o b t)]).length + sz t ≤ 40
      simp only [sz] at hnd; rw [List.length_append]; simp only [List.length_singleton]; omega
    · show vals (r.kinds ++ [kS (.o b t)]) + lv t ≤ 12
      simp only [lv] at hvl
      have : vals [kS (.o b t)] = 0 := by cases b <;> rfl
      rw [vals_append]; omega
    · simp only [dp] at hab; omega
    · simp only [op] at hon; omega
    · show ((r.kinds.length : Nat) : Int).toNat < (r.kinds ++ [kS (.o b t)]).length
      rw [Int.toNat_natCast, List.length_append]; simp
    rintro _ H3 ⟨_, h3⟩
    rw [node_o k.wf] at h3
    dsimp only
    cases b with
    | false =>
      obtain ⟨ca3, h3⟩ := h3
      refine st_seq (st_no (eqS (a := 91) rfl) (st_next ?_))
      dsimp only
      refine step_end T h3 (val_var rfl) (val_var rfl) (by show r.kinds.length < (r.ends ++ r.at_ :: Lw.en t (r.at_ + 1)).length; rw [List.length_append, k.wf.e]; simp) fun H4 h4 => q H4 ⟨ca3, ?_⟩
      have e : r.node (.o false t) p x = RS.endAt { cs := r.cs, at_ := r.at_ + 1 + (tx t).length, kinds := r.kinds ++ (kS (.o false t)) :: Lw.kd t, parents := r.parents ++ p :: pa t (r.kinds.length + 1) r.kinds.length, names := r.names ++ x :: nm t none, children := addCh r.children p r.kinds.length ++ [r.kinds.length + 1] :: ch t (r.kinds.length + 1), begins := r.begins ++ r.at_ :: bg t (r.at_ + 1), ends := r.ends ++ r.at_ :: Lw.en t (r.at_ + 1) } r.kinds.length (r.at_ + 1 + (tx t).length) := by
        unfold RS.node RS.endAt
        simp only [RS.mk.injEq]
        refine ⟨trivial, ?_, rfl, rfl, rfl, rfl, rfl, (set_mid _ _ _ _ _ k.wf.e.symm).symm⟩
        simp [tx]; omega
      rw [e]; exact h4
    | true =>
      have hx := (drop_app hd2).1
      refine st_seq (st_yes (eqS (a := 91) rfl) (st_dropH (vh_take T h3 rfl (val_var rfl) (x := 93) val_c k.len (drop_get (m := rest) hx).1) ?_))
      rintro _ H4 ⟨_, ca4, h4⟩
      dsimp only
      refine step_end T h4 (val_var rfl) (val_var rfl) (by show r.kinds.length < (r.ends ++ r.at_ :: Lw.en t (r.at_ + 1)).length; rw [List.length_append, k.wf.e]; simp) fun H5 h5 => q H5 ⟨ca4, ?_⟩
      have e : r.node (.o true t) p x = RS.endAt { cs := r.cs, at_ := r.at_ + 1 + (tx t).length + 1, kinds := r.kinds ++ (kS (.o true t)) :: Lw.kd t, parents := r.parents ++ p :: pa t (r.kinds.length + 1) r.kinds.length, names := r.names ++ x :: nm t none, children := addCh r.children p r.kinds.length ++ [r.kinds.length + 1] :: ch t (r.kinds.length + 1), begins := r.begins ++ r.at_ :: bg t (r.at_ + 1), ends := r.ends ++ r.at_ :: Lw.en t (r.at_ + 1) } r.kinds.length (r.at_ + 1 + (tx t).length + 1) := by
        unfold RS.node RS.endAt
        simp only [RS.mk.injEq]
        refine ⟨trivial, ?_, rfl, rfl, rfl, rfl, rfl, (set_mid _ _ _ _ _ k.wf.e.symm).symm⟩
        simp [tx]; omega
      rw [e]; exact h5
  | r fs =>
    have hd2 : r.cs.drop (r.at_ + 1) = tl fs rest := by rw [t2]; simp [bd, tl]
    obtain ⟨o1, o2, o3, o4⟩ := k.ok
    refine st_seq (st_yes (eqS (a := 123) rfl) (st_dropH (vh_fields (N := N) (fs := fs) h2' (val_var rfl) (val_var rfl) (val_inc (val_var rfl)) (val_var rfl) (by simp only [dp] at hN; omega) ⟨wf2, o1, o2, o3, o4, k.len, ?_, ?_, ?_, ?_⟩ ?_ hd2) ?_))
    · show (r.kinds ++ [kS (.r fs)]).length + szs fs ≤ 40
      simp only [sz] at hnd; rw [List.length_append]; simp only [List.length_singleton]; omega
    · show vals (r.kinds ++ [kS (.r fs)]) + lvs fs ≤ 12
      simp only [lv] at hvl
      have : vals [kS (.r fs)] = 0 := rfl
      rw [vals_append]; omega
    · simp only [dp] at hab; omega
    · simp only [op] at hon; omega
    · show r.kinds.length < (r.kinds ++ [kS (.r fs)]).length
      rw [List.length_append]; simp
    rintro _ H3 ⟨_, h3⟩
    rw [node_r k.wf] at h3
    dsimp only
    obtain ⟨ca3, h3⟩ := h3
    refine st_seq (st_no (eqS (a := 91) rfl) (st_next ?_))
    dsimp only
    refine step_end T h3 (val_var rfl) (val_var rfl) (by show r.kinds.length < (r.ends ++ r.at_ :: ens fs (r.at_ + 1)).length; rw [List.length_append, k.wf.e]; simp) fun H4 h4 => q H4 ⟨ca3, ?_⟩
    have e : r.node (.r fs) p x = RS.endAt { cs := r.cs, at_ := r.at_ + 1 + ((TL.joinL [32] (txs fs)).length + 1), kinds := r.kinds ++ (kS (.r fs)) :: kds fs, parents := r.parents ++ p :: pas fs (r.kinds.length + 1) r.kinds.length, names := r.names ++ x :: nms fs, children := addCh r.children p r.kinds.length ++ cn fs (r.kinds.length + 1) :: chs fs (r.kinds.length + 1), begins := r.begins ++ r.at_ :: bgs fs (r.at_ + 1), ends := r.ends ++ r.at_ :: ens fs (r.at_ + 1) } r.kinds.length (r.at_ + 1 + ((TL.joinL [32] (txs fs)).length + 1)) := by
      unfold RS.node RS.endAt
      simp only [RS.mk.injEq]
      refine ⟨trivial, ?_, rfl, rfl, rfl, rfl, rfl, (set_mid _ _ _ _ _ k.wf.e.symm).symm⟩
      simp [tx]; omega
    rw [e]; exact h4
end
end Lw
set_option Elab.async false
set_option linter.all false
set_option maxRecDepth 100000
set_option autoImplicit false
set_option maxHeartbeats 4000000
namespace Lw
open PySem PySem.Spec PyProof.Rows L2 DL
/-- a method of the class at C as it stands in the text -/
structure MF (K : PySem.W.Frag) (C : Addr) (m qual : Str) (st : Stmt) (ps : List Str) : Prop where
  ex : ∃ f fd, Meth K C m f ∧ FnM K m qual st f fd ∧ Binds K fd ps []
section
variable {P : Program} {w : World} {K : PySem.W.Frag} {mg : Str → Option Value} {base : Heap} {f g : Addr} {fd gd : FuncData} {C kd : Addr} {es : Array DictEntry} {n : Nat}
variable {c : RC} {H0 H : Hp} {r : RS} {ca : List Addr} {σ : L2.St} {te ta tb tc td ty tv : TE} {D : Ends} {ts : TS} {tt : TT}
theorem MF.met {m qual : Str} {st : Stmt} {ps : List Str} {k : Nat} {sp : L2.Sp} (M : MF K C m qual st ps) (c : Cls K C) (h : ∀ f fd, FnM K m qual st f fd → FnOk P w K mg base CX0 k f fd ps sp) : C8.Met P w K mg base k C m sp [] := by
  obtain ⟨f, fd, me, F, b⟩ := M.ex
  exact ⟨f, fd, ps, [], c, me, h f fd F, b, .nil⟩
theorem fn_noS {k : Nat} {ps : List Str} {sp : L2.Sp} (h : ∀ vs H Q E, ¬ sp vs H Q E) : FnOk P w K mg base CX0 k f fd ps sp :=
  ⟨fun vs H Q E q => absurd q (h _ _ _ _), fun A outer s H args us vs Q E _ _ _ _ q => absurd q (h _ _ _ _)⟩
structure RM (K : PySem.W.Frag) (C : Addr) : Prop where
  init : ∃ f fd, Mk K C f ∧ FnM K "__init__" "SchemaReader.__init__" s_SchemaReader___init__ f fd ∧ Binds K fd ["self", "text"] []
  all : MF K C "read_all" "SchemaReader.read_all" s_SchemaReader_read_all ["self"]
  next : MF K C "_next_sign" "SchemaReader._next_sign" s_SchemaReader__next_sign ["self"]
  take : MF K C "_take" "SchemaReader._take" s_SchemaReader__take ["self", "sign"]
  can : MF K C "_can_begin" "SchemaReader._can_begin" s_SchemaReader__can_begin ["self", "sign", "above", "open_above"]
  node : MF K C "_read_node" "SchemaReader._read_node" s_SchemaReader__read_node ["self", "parent", "name", "above", "open_above"]
  add : MF K C "_add_node" "SchemaReader._add_node" s_SchemaReader__add_node ["self", "kind", "parent", "name"]
  flds : MF K C "_read_fields" "SchemaReader._read_fields" s_SchemaReader__read_fields ["self", "node", "above", "open_above"]
  name : MF K C "_read_name" "SchemaReader._read_name" s_SchemaReader__read_name ["self", "taken"]
theorem met_node (T : Rx K w mg C kd es n) (M : RM K C) : ∀ N, C8.Met P w K mg base (2 * N + 4) C "_read_node" (spNode C N) []
  | 0 => M.node.met T.cls fun f fd _ => fn_noS fun vs H Q E ⟨_, _, _, _, _, _, _, _, _, _, _, _, h, _⟩ => absurd h (Nat.not_lt_zero _)
  | N + 1 => by
    have ih := met_node T M N
    have nx : C8.Met P w K mg base 1 C "_next_sign" (spNext C) [] := M.next.met T.cls fun f fd F => ok_next T F
    have tk : C8.Met P w K mg base 2 C "_take" (spTake C) [] := M.take.met T.cls fun f fd F => ok_take T nx F
    have cb : C8.Met P w K mg base 1 C "_can_begin" (spCan C) [] := M.can.met T.cls fun f fd F => ok_can T F
    have ad : C8.Met P w K mg base 1 C "_add_node" (spAdd C) [] := M.add.met T.cls fun f fd F => ok_add T F
    have rn : C8.Met P w K mg base 3 C "_read_name" (spName C) [] := M.name.met T.cls fun f fd F => ok_name T nx tk F
    have rf : C8.Met P w K mg base (2 * N + 5) C "_read_fields" (spFields C N) [] := M.flds.met T.cls fun f fd F => ok_fields T nx tk rn ih F
    exact M.node.met T.cls fun f fd F => ok_node T nx tk cb ad ih rf F
/-- a tree within the limits -/
structure Lim (t : Tr) : Prop where
  ok : okr t
  len : (tx t).length ≤ 400
  nodes : sz t ≤ 40
  vals : lv t ≤ 12
  ab : dp t ≤ 20
  on : op t ≤ 8
def rs0 (l : List Nat) : RS := ⟨l, 0, [], [], [], [], [], []⟩
def spAll (C : Addr) : L2.Sp := fun vs H Q _ => ∃ (c : RC) (H0 : Hp) (t : Tr), c.C = C ∧ RdAt c H0 H (rs0 (tx t)) ∧ vs = [.ref c.p] ∧ Lim t ∧ ∀ H', RdAt c H0 H' ((rs0 (tx t)).node t (-1) none) → Q .non H'
theorem ok_all (T : Rx K w mg C kd es n) (m__read_node : C8.Met P w K mg base 46 C "_read_node" (spNode C 21) []) (F : FnM K "read_all" "SchemaReader.read_all" s_SchemaReader_read_all f fd) : FnOk P w K mg base CX0 47 f fd ["self"] (spAll C) := by
  refine F.ok sc_SchemaReader_read_all (fun vs H Q E ⟨c, H0, t, _, _, e, _⟩ => by subst e; rfl) fun cdv A outer s H vs Q E hr h => ⟨_, PSs.nox (pss_cons (ps_expr (C8.pe_mt m__read_node hr (by first | decide | omega) (pv 0) (pa_cons (pe_un un_neg pe_int) (pa_cons pe_non (pa_cons pe_int (pa_cons pe_int pa_nil))))))
      (pss_one (ps_if (pt_cmpR op_lt (pe_fld (pv 0) rfl) (pe_callB call_len_str rfl T.z_len (by decide +kernel) (pa_cons (pe_fld (pv 0) rfl) pa_nil)) (nomark _)) (pss_one ps_never) pss_nil))), ?_⟩
  obtain ⟨c, H0, t, rfl, h, rfl, k, q⟩ := h
  have hl : (rs0 (tx t)).cs.length ≤ 400 := k.len
  refine st_seq (st_dropH (vh_node (N := 21) (t := t) (p := -1) (x := none) (above := 0) (opn := 0) (rest := []) h (val_var rfl) (fun Q q => ⟨1, rfl, q⟩) val_c val_c val_c (by have := k.ab; omega) ⟨⟨rfl, rfl, rfl, (fun l m => nomatch m), rfl, rfl⟩, k.ok, k.len, by have := k.nodes; show 0 + sz t ≤ 40; omega, by have := k.vals; show 0 + lv t ≤ 12; omega, by have := k.ab; omega, by have := k.on; omega⟩ (fun z => by omega) (by simp [rs0])) ?_)
  rintro _ H1 ⟨_, h1⟩
  dsimp only
  have q' := q H1 h1
  obtain ⟨ca, h1⟩ := h1
  refine st_no (ans_lt (v_at T h1 (val_var rfl)) (val_lenS (v_signs T h1 (val_var rfl)) (sl (S_le (show (tx t).length ≤ 10000000 by have := k.len; omega)))) ?_) (st_next q')
  rw [SX.S_len]
  show decide (((0 + (tx t).length : Nat) : Int) < ((tx t).length : Nat)) = false
  exact decide_eq_false (by omega)
def spRInit (C : Addr) : L2.Sp := fun vs H Q _ => ∃ (p dx : Addr) (H0 : Hp) (l : List Nat), vs = [.ref p, .str (SX.S l)] ∧ H p = some (.ins C dx []) ∧ H0 p = none ∧ (∀ a o, H0 a = some o → H a = some o) ∧ ∀ c H', c.C = C → c.p = p → RdAt c H0 H' (rs0 l) → Q .non H'
theorem val_lst0 : ValH (tLst tNil) σ H fun v H' => ∃ a, H a = none ∧ v = .ref a ∧ H' = upd H a (.lst []) := fun Q q => ⟨Nat.zero_le _, fun a h => q _ _ ⟨a, h, rfl, rfl⟩⟩
theorem st_fldH {a C dx : Addr} {fs : List (Str × V)} {f : Str} {PV : V → Hp → Prop} (hv : ValH tv σ H PV) (ha : ∀ H', Val ta σ H' (.ref a)) (ho : ∀ v H', PV v H' → H' a = some (.ins C dx fs)) (hc : Cls K C) (hn : NoAttr K C f) (hl : fs.length < 1000) (q : ∀ v H', PV v H' → D.nx σ (upd H' a (.ins C dx (putF f v fs)))) : sFld K ta tv f D σ H :=
  hv _ fun v H' p => ha H' _ ⟨a, C, dx, fs, rfl, ho v H' p, hc, hn, hl, q v H' p⟩
structure In6 (H0 H : Hp) (p : Addr) (o : HO) (L : List Addr) : Prop where
  ip : H p = some o
  il : ∀ a ∈ L, H a = some (.lst [])
  nd : (p :: L).Nodup
  nw : ∀ a ∈ p :: L, H0 a = none
  keep : ∀ a o, H0 a = some o → H a = some o
theorem In6.set {p : Addr} {o : HO} {L : List Addr} (h : In6 H0 H p o L) (o' : HO) : In6 H0 (upd H p o') p o' L := ⟨upd_same, fun a m => by
    have n : a ≠ p := fun z => by subst z; exact (List.nodup_cons.mp h.nd).1 m
    rw [upd_ne n]; exact h.il a m, h.nd, h.nw, fun a u e => by
    have n : a ≠ p := fun z => by subst z; rw [h.nw _ (by simp)] at e; cases e
    rw [upd_ne n]; exact h.keep a u e⟩
theorem In6.new {p a : Addr} {o : HO} {L : List Addr} (h : In6 H0 H p o L) (ha : H a = none) (o' : HO) : In6 H0 (upd (upd H a (.lst [])) p o') p o' (a :: L) := by
  have np : a ≠ p := fun z => by subst z; rw [h.ip] at ha; cases ha
  have nl : a ∉ L := fun m => by rw [h.il a m] at ha; cases ha
  have n0 : H0 a = none := by
    cases e : H0 a with
    | none => rfl
    | some u => rw [h.keep _ _ e] at ha; cases ha
  obtain ⟨k1, k2⟩ := List.nodup_cons.mp h.nd
  have g : In6 H0 (upd H a (.lst [])) p o (a :: L) := ⟨by rw [upd_ne np.symm]; exact h.ip, fun b m => by
      by_cases z : b = a
      · subst z; exact upd_same
      · rw [upd_ne z]; exact h.il b (by simpa [z] using m), by
      rw [List.nodup_cons, List.nodup_cons]
      exact ⟨by simp only [List.mem_cons, not_or]; exact ⟨np.symm, k1⟩, nl, k2⟩, fun b m => by
      simp only [List.mem_cons] at m
      rcases m with rfl | rfl | m
      · exact h.nw _ (by simp)
      · exact n0
      · exact h.nw b (by simp [m]), fun b u e => by
      have z : b ≠ a := fun z => by subst z; rw [n0] at e; cases e
      rw [upd_ne z]; exact h.keep b u e⟩
  exact g.set o'
theorem putF_le {f : Str} {v : V} : ∀ fs : List (Str × V), (putF f v fs).length ≤ fs.length + 1
  | [] => Nat.le_refl _
  | (g, x) :: r => by
    unfold putF
    split
    · simp
    · have := putF_le (f := f) (v := v) r; simp; omega
theorem putF_ne {a b : Str} {v x : V} {r : List (Str × V)} (h : a ≠ b) : putF b v ((a, x) :: r) = (a, x) :: putF b v r := if_neg h
theorem putF_lt {f : Str} {v : V} {fs : List (Str × V)} {n : Nat} (h : fs.length < n) : (putF f v fs).length < n + 1 := Nat.lt_of_le_of_lt (putF_le fs) (Nat.succ_lt_succ h)
theorem ok_rinit (T : Rx K w mg C kd es n) (F : FnM K "__init__" "SchemaReader.__init__" s_SchemaReader___init__ f fd) : FnOk P w K mg base CX0 1 f fd ["self", "text"] (spRInit C) := by
  refine F.ok sc_SchemaReader___init__ (fun vs H Q E ⟨p, dx, H0, l, e, _⟩ => by subst e; rfl) fun cdv A outer s H vs Q E hr h => ⟨_, PSs.nox (pss_cons (ps_fld (pv 0) (pv 1) rfl)
      (pss_cons (ps_fld (pv 0) pe_int rfl)
      (pss_cons (ps_fld (pv 0) (pe_lst pa_nil) rfl)
      (pss_cons (ps_fld (pv 0) (pe_lst pa_nil) rfl)
      (pss_cons (ps_fld (pv 0) (pe_lst pa_nil) rfl)
      (pss_cons (ps_fld (pv 0) (pe_lst pa_nil) rfl)
      (pss_cons (ps_fld (pv 0) (pe_lst pa_nil) rfl)
      (pss_one (ps_fld (pv 0) (pe_lst pa_nil) rfl))))))))), ?_⟩
  obtain ⟨p, dx, H0, l, rfl, hp, h0, hk, q⟩ := h
  have v0 : ∀ H, Val (tVar 0) [some (.ref p), some (.str (SX.S l))] H (.ref p) := fun H => val_var rfl
  have i0 : In6 H0 H p (.ins C dx []) [] := ⟨hp, fun a m => by simp at m, by simp, fun a m => by simp at m; subst m; exact h0, hk⟩
  have al : ∀ {H : Hp} {o : HO} {L : List Addr}, In6 H0 H p o L → ∀ v H', (∃ a, H a = none ∧ v = V.ref a ∧ H' = upd H a (.lst [])) → H' p = some o := fun {H o L} i v H' ⟨a, e1, e2, e3⟩ => by
    subst e3
    rw [upd_ne fun z => by subst z; rw [i.ip] at e1; cases e1]; exact i.ip
  refine st_seq (st_fld (val_var rfl : Val (tVar 1) [some (.ref p), some (.str (SX.S l))] H (.str (SX.S l))) (v0 _) hp T.cls T.f_signs (by decide) ?_)
  have l1 : (putF "signs" (V.str (SX.S l)) []).length < 2 := putF_lt (Nat.zero_lt_one)
  generalize hA1 : putF "signs" (V.str (SX.S l)) [] = a1 at l1 ⊢
  have i1 := i0.set (.ins C dx a1)
  dsimp only
  refine st_seq (st_fld (y := .int 0) val_c (v0 _) i1.ip T.cls T.f_at (Nat.lt_trans l1 (by decide)) ?_)
  have l2 : (putF "at" (V.int 0) a1).length < 3 := putF_lt l1
  generalize hA2 : putF "at" (V.int 0) a1 = a2 at l2 ⊢
  have i2 := i1.set (.ins C dx a2)
  dsimp only
  refine st_seq (st_fldH (tv := tLst tNil) val_lst0 v0 (al i2) T.cls T.f_kinds (Nat.lt_trans l2 (by decide)) ?_)
  rintro _ _ ⟨kA, k1, rfl, rfl⟩
  have l3 : (putF "kinds" (V.ref kA) a2).length < 4 := putF_lt l2
  generalize hA3 : putF "kinds" (V.ref kA) a2 = a3 at l3 ⊢
  have i3 := i2.new k1 (.ins C dx a3)
  dsimp only
  refine st_seq (st_fldH (tv := tLst tNil) val_lst0 v0 (al i3) T.cls T.f_parents (Nat.lt_trans l3 (by decide)) ?_)
  rintro _ _ ⟨pA, k2, rfl, rfl⟩
  have l4 : (putF "parents" (V.ref pA) a3).length < 5 := putF_lt l3
  generalize hA4 : putF "parents" (V.ref pA) a3 = a4 at l4 ⊢
  have i4 := i3.new k2 (.ins C dx a4)
  dsimp only
  refine st_seq (st_fldH (tv := tLst tNil) val_lst0 v0 (al i4) T.cls T.f_names (Nat.lt_trans l4 (by decide)) ?_)
  rintro _ _ ⟨nA, k3, rfl, rfl⟩
  have l5 : (putF "names" (V.ref nA) a4).length < 6 := putF_lt l4
  generalize hA5 : putF "names" (V.ref nA) a4 = a5 at l5 ⊢
  have i5 := i4.new k3 (.ins C dx a5)
  dsimp only
  refine st_seq (st_fldH (tv := tLst tNil) val_lst0 v0 (al i5) T.cls T.f_children (Nat.lt_trans l5 (by decide)) ?_)
  rintro _ _ ⟨cA, k4, rfl, rfl⟩
  have l6 : (putF "children" (V.ref cA) a5).length < 7 := putF_lt l5
  generalize hA6 : putF "children" (V.ref cA) a5 = a6 at l6 ⊢
  have i6 := i5.new k4 (.ins C dx a6)
  dsimp only
  refine st_seq (st_fldH (tv := tLst tNil) val_lst0 v0 (al i6) T.cls T.f_begins (Nat.lt_trans l6 (by decide)) ?_)
  rintro _ _ ⟨bA, k5, rfl, rfl⟩
  have l7 : (putF "begins" (V.ref bA) a6).length < 8 := putF_lt l6
  generalize hA7 : putF "begins" (V.ref bA) a6 = a7 at l7 ⊢
  have i7 := i6.new k5 (.ins C dx a7)
  dsimp only
  refine st_fldH (tv := tLst tNil) val_lst0 v0 (al i7) T.cls T.f_ends (Nat.lt_trans l7 (by decide)) ?_
  rintro _ _ ⟨eA, k6, rfl, rfl⟩
  generalize hA8 : putF "ends" (V.ref eA) a7 = a8
  have i8 := i7.new k6 (.ins C dx a8)
  have e8 : a8 = RC.fs ⟨C, p, dx, kA, pA, nA, cA, bA, eA⟩ (rs0 l) := by
    have e0 : ∀ (f : Str) (v : V), putF f v [] = [(f, v)] := fun _ _ => rfl
    rw [e0] at hA1
    subst hA1
    rw [putF_ne (by decide), e0] at hA2
    subst hA2
    rw [putF_ne (by decide), putF_ne (by decide), e0] at hA3
    subst hA3
    rw [putF_ne (by decide), putF_ne (by decide), putF_ne (by decide), e0] at hA4
    subst hA4
    rw [putF_ne (by decide), putF_ne (by decide), putF_ne (by decide), putF_ne (by decide), e0] at hA5
    subst hA5
    rw [putF_ne (by decide), putF_ne (by decide), putF_ne (by decide), putF_ne (by decide), putF_ne (by decide), e0] at hA6
    subst hA6
    rw [putF_ne (by decide), putF_ne (by decide), putF_ne (by decide), putF_ne (by decide), putF_ne (by decide), putF_ne (by decide), e0] at hA7
    subst hA7
    rw [putF_ne (by decide), putF_ne (by decide), putF_ne (by decide), putF_ne (by decide), putF_ne (by decide), putF_ne (by decide), putF_ne (by decide), e0] at hA8
    subst hA8
    rfl
  refine q ⟨C, p, dx, kA, pA, nA, cA, bA, eA⟩ _ rfl rfl ⟨[], ?_⟩
  have nd := i8.nd
  refine ⟨i8.ip.trans (by rw [e8]), i8.il kA (by simp), i8.il pA (by simp), i8.il nA (by simp), i8.il cA (by simp), i8.il bA (by simp), i8.il eA (by simp), rfl, fun i a l h => by simp at h, ?_, ?_, i8.keep⟩
  · show [p, kA, pA, nA, cA, bA, eA].Nodup
    have q := nd
    have e : (p :: [eA, bA, cA, nA, pA, kA]) = p :: [kA, pA, nA, cA, bA, eA].reverse := rfl
    rw [e, List.nodup_cons, List.mem_reverse, (List.reverse_perm _).nodup_iff] at q
    rw [List.nodup_cons]
    exact q
  · intro a m
    refine i8.nw a ?_
    simp only [RC.foot, List.mem_cons, List.not_mem_nil, or_false] at m ⊢
    rcases m with rfl | rfl | rfl | rfl | rfl | rfl | rfl <;> simp
end
end Lw
set_option Elab.async false
set_option linter.all false
set_option maxRecDepth 100000
set_option autoImplicit false
set_option maxHeartbeats 4000000
/-! Y9: a tuple made at run time and known to have no dict; the place of an int in it. -/
namespace DL
open PySem PySem.Spec PyProof.Rows L2
/-- tuple(xs) of a list: the new tuple's object is known, it has no dict -/
def rTupZ (K : PySem.W.Frag) : List V → Hp → VK → Prop := fun vs H Q => ∃ (a : Addr) (ys : List V), vs = [.ref a] ∧ SqL K H a ys ∧ ∀ (p : Addr) (o : Obj), H p = none → o.dict = none → Q (.ref p) (upd H p (.frz o (.tup ys)))
theorem cr_tupZ {X : Cx} : CallR X (.type "tuple") (rTupZ X.K) := by
  intro pins s σ H vs us Q I r ⟨a, ys, e, hq, k⟩
  subst e
  obtain ⟨u, rfl, ru⟩ := vals1 r
  cases ru
  obtain ⟨its, r2, isL, hz⟩ := I.list hq
  have len := r2.length
  refine call_tuple_list isL.isList (fun h1 keep => ?_) (by simp only [List.size_toArray]; omega)
  have J : Inv X pins σ H { s with heap := h1 } := I.kept (t' := s.toks) keep
  have J2 := J.laid (t' := s.toks) (a := h1.objs.size) (h' := h1.push { cls := .type "tuple", data := .seq its.toArray }) (o := .frz { cls := .type "tuple", data := .seq its.toArray } (.tup ys)) (fun _ _ g => Heap.get?_push_of_some _ g) (Nat.le_refl _) ⟨Heap.get?_push_size _ rfl, hz, its, r2, IsTup.new _ _⟩
  exact ⟨.ref h1.objs.size, _, J2, rfl, k _ _ (J.hok.fresh (Nat.le_refl _)) rfl⟩
/-- a tuple of the heap that is known to have no dict -/
def TupZ (H : Hp) (p : Addr) (ys : List V) : Prop := ∃ o : Obj, H p = some (.frz o (.tup ys)) ∧ o.dict = none
theorem TupZ.seq {K : PySem.W.Frag} {H : Hp} {p : Addr} {ys : List V} (h : TupZ H p ys) : SqT K H p ys := by
  obtain ⟨o, e, _⟩ := h
  exact .inl (.inr ⟨o, e⟩)
/-- x.m(e) of such a tuple -/
def tBZ (r : V → List V → Hp → VK → Prop) (to : TE) (t : TA) : TE := fun σ H Q => to σ H fun x H1 => (∃ p ys, x = .ref p ∧ TupZ H1 p ys) ∧ t σ H1 fun xs H2 => r x xs H2 Q
theorem pe_bmZ {X : Cx} {o e : Expr} {to : TE} {t : TA} {name : Str} {apos cpos : Pos} {id : String} {r : V → List V → Hp → VK → Prop} (slot : Slot "tuple" name id) (hty : typeOf (.builtin id) = pure (.type "method_descriptor")) (hm : MtR X id r) (ho : PE X o to) (ha : PA X [e] t)
    (a1 : attributeBase o name X.env (eval o X.env) = eval o X.env := by rfl) (a2 : ((backTo cpos (starEach [e] X.env)).all (fun x => !x.1) && (backToKw cpos (keywordEach [] X.env)).all (fun x => x.1.isSome) && decide ([e].length + ([] : List Keyword).length + (if ([] : List Keyword).isEmpty then 0 else 1) < 30)) = true := by rfl) (a3 : (apos.endLine == cpos.line) = true := by rfl)
    (a4 : starEach [e] X.env = [(false, eval e X.env)] := by rfl) : PE X (.Call (.Attribute o name apos) [e] [] cpos) (tBZ r to t) := by
  constructor
  intro pins s σ H Q I h
  refine wpAny_Call_method_late a1 a2 a3 rfl (thn (ho.run pins s σ H _ I h) ?_)
  rintro v s1 ⟨x, H1, I1, rv, ⟨p, ys, rfl, ob, eo, nd⟩, k⟩
  have ev : v = .ref p := by cases rv; rfl
  subst ev
  obtain ⟨g1, _, its, _, o2, g2, c2, _⟩ := I1.hok p _ eo
  have same : ob = o2 := Option.some.inj (g1.symm.trans g2)
  refine ⟨"tuple", id, PySem.F.plainAttrs_tuple, slot, hty, ⟨o2, g2, c2⟩, fun a z => ?_, ?_⟩
  · cases z
    exact ⟨ob, g1, nd⟩
  · have A := ha.run cpos pins s1 σ H1 _ I1 k
    rw [a4] at A ⊢
    refine Calls.callWith_builtin rfl (Calls.evalArgs_plain (thn A ?_))
    rintro us s2 ⟨vs, H2, I2, r2, k2⟩
    exact hm pins s2 σ H2 _ vs _ us Q I2 rv r2 k2
def rTixI (K : PySem.W.Frag) : V → List V → Hp → VK → Prop := fun x xs H Q => ∃ (p : Addr) (ns : List Int) (k : Int), x = .ref p ∧ xs = [.int k] ∧ SqT K H p (ns.map V.int) ∧ k ∈ ns ∧ Q (.int (ns.idxOf k : Nat)) H
theorem mt_tixI {X : Cx} : MtR X "tuple.index" (rTixI X.K) := by
  intro pins s σ H x xs v us Q I rx rs ⟨p, ns, k, e1, e2, hq, hk, q⟩
  subst e1 e2
  cases rx
  obtain ⟨u, rfl, t, rfl⟩ := vals1 rs
  obtain ⟨its, r, pl, _⟩ := I.tuple hq
  exact PySem.SeqAt.tuple_index_ints (show s.heap.IsTuple p its.toArray from pl) r.ints hk ⟨.int (ns.idxOf k : Nat), H, I.tok _, ⟨_, rfl⟩, q⟩
end DL
set_option Elab.async false
set_option linter.all false
set_option maxRecDepth 100000
set_option autoImplicit false
set_option maxHeartbeats 4000000
/-! Y10: such a tuple as data. -/
namespace DL
open PySem PySem.Spec PyProof.Rows L2
/-- a tuple that is known to have no dict -/
def tzD (ds : List D) : D := .opq fun F v => ∃ a xs, v = .ref a ∧ TupZ F a xs ∧ Reps F ds xs
theorem TupZ.mono {F F' : Hp} {a : Addr} {xs : List V} (e : Ex F F') (h : TupZ F a xs) : TupZ F' a xs := by
  obtain ⟨o, h1, h2⟩ := h
  exact ⟨o, e _ _ h1, h2⟩
theorem tz_of {F : Hp} {ds : List D} {v : V} (h : Rep F (tzD ds) v) : ∃ a xs, v = .ref a ∧ TupZ F a xs ∧ Reps F ds xs := by
  obtain ⟨F0, x, a, xs, e, h1, h2⟩ := h
  exact ⟨a, xs, e, h1.mono x, h2.mono x⟩
theorem tz_to {F : Hp} {ds : List D} {a : Addr} {xs : List V} (h : TupZ F a xs) (r : Reps F ds xs) : Rep F (tzD ds) (.ref a) := ⟨F, fun _ _ z => z, a, xs, rfl, h, r⟩
section
variable {K : PySem.W.Frag} {Γ : List En} {ds : List D} {d : D} {te to : TE}
theorem rc_tupZ : RC (rTupZ K) [.lst ds] (tzD ds) := fun F H vs e r Q k => by
  obtain ⟨v, _, rfl, ⟨a, xs, rfl, hs, r1⟩, rfl⟩ := r
  refine ⟨a, xs, rfl, .inl (.inl (e _ _ hs)), fun p o hp nd => ?_⟩
  have S := Stp.new e (.frz o (.tup xs)) hp
  exact k _ _ _ S (tz_to ⟨o, upd_same, nd⟩ (r1.mono S.f))
theorem rd_ixZ {i : Int} (h : atI ds i = some d) : RD (rIxT K) (tzD ds) (.int i) d := fun F H vx vy e rx ry Q k => by
  obtain ⟨a, xs, rfl, hs, r⟩ := tz_of rx
  obtain ⟨v, hv, rv⟩ := r.atI h
  exact ⟨a, xs, i, v, rfl, ry, (hs.mono e).seq, hv, k v F H (.refl e) rv⟩
theorem rc_lenZ : RC (rLenS K) [tzD ds] (.int ds.length) := fun F H vs e r Q k => by
  obtain ⟨v, _, rfl, h, rfl⟩ := r
  obtain ⟨a, xs, rfl, hs, r1⟩ := tz_of h
  exact ⟨a, xs, rfl, .inr (hs.mono e).seq, k _ F H (.refl e) (by rw [r1.length]; rfl)⟩
theorem wi_tupZ (h : EvP te Γ (tzD ds)) : WiP (iTup K te) Γ ds := fun c F H σ G R k => h c F H σ G _ fun v F1 H1 S1 r1 => by
  obtain ⟨a, xs, rfl, ha, r⟩ := tz_of r1
  refine ⟨a, rfl, ⟨xs, (ha.mono S1.fh).seq⟩, k _ F1 H1 (fun H => SqT K H a xs) (YAt xs) S1 (r.length ▸ walk_tup) (fun H2 e => (ha.mono e).seq) fun i H1' v H2 F2 hi x1 x2 y => ?_⟩
  obtain ⟨rfl, hv⟩ := y
  obtain ⟨d, hd, rd⟩ := r.get' hv
  exact ⟨F2, d, hd, .refl x2, rd.mono x1⟩
theorem wi_enumZ {ta : TA} (h : EaP ta Γ [tzD ds]) : WiP (iEnumT K ta) Γ (enD ds) := fun c F H σ G R k => h c F H σ G _ fun vs F1 H1 S1 r1 => by
  obtain ⟨v, _, rfl, h1, rfl⟩ := r1
  obtain ⟨a, xs, rfl, ha, r⟩ := tz_of h1
  refine ⟨a, xs, rfl, (ha.mono S1.fh).seq, k _ F1 H1 (fun H => SqT K H a xs) _ S1 (by rw [enD_len, ← r.length]; exact walk_enumT) (fun H2 e => (ha.mono e).seq) fun i H1' v H2 F2 hi x1 x2 y => ?_⟩
  obtain ⟨T, p, q, rfl, hT, rfl, hp, hq⟩ := y
  obtain ⟨d, hd, rd⟩ := r.get' hq
  rw [enD_len] at hi
  refine ⟨_, .tup [.int (i : Nat), d], by simp [enD, hi]; exact (List.getElem?_eq_some_iff.mp hd).2, Stp.new x2 _ hT, T, _, rfl, upd_same, _, _, rfl, ?_, _, _, rfl, (rd.mono x1).mono (Stp.new x2 (HO.tup [p, q]) hT).f, rfl⟩
  exact (Option.some.inj hp).symm
theorem rd_inZ {neg : Bool} {a : Int} {ys : List Int} : RD (rIn K neg) (.int a) (tzD (ys.map D.int)) (.bl (if neg then !decide (a ∈ ys) else decide (a ∈ ys))) := fun F H vx vy e rx ry Q k => by
  obtain ⟨p, xs, rfl, hp, rs⟩ := tz_of ry
  have ex := rs.ints_eq
  subst ex
  have rx' : vx = .int a := rx
  subst rx'
  exact ⟨p, _, rfl, .inr (hp.mono e).seq, rfl, flat_ints ys, by rw [inV_int]; exact k _ F H (.refl e) rfl⟩
/-- t.index(k) -/
theorem ep_tixI {ns : List Int} {k : Int} (ho : EvP to Γ (tzD (ns.map D.int))) (he : EvP te Γ (.int k)) (hk : k ∈ ns) : EvP (tBZ (rTixI K) to (tCons te tNil)) Γ (.int (ns.idxOf k : Nat)) := fun c F H σ G Q q => ho c F H σ G _ fun v F1 H1 S1 r1 => by
  obtain ⟨p, xs, rfl, h1, h2⟩ := tz_of r1
  have ex := h2.ints_eq
  subst ex
  refine ⟨⟨p, _, rfl, h1.mono S1.fh⟩, he c F1 H1 σ (G.step S1) _ fun w F2 H2 S2 r2 => ?_⟩
  have ew : w = .int k := r2
  subst ew
  exact ⟨p, ns, k, rfl, rfl, ((h1.mono S1.fh).mono S2.h).seq, hk, q _ F2 H2 (S1.trans S2) rfl⟩
end
end DL
set_option Elab.async false
set_option linter.all false
set_option maxRecDepth 100000
set_option autoImplicit false
set_option maxHeartbeats 4000000
/-! M1: lines, steps and the lowest common node of a tree. -/
namespace Lw
open PySem PySem.Spec PyProof.Rows L2 DL
mutual
/-- the nodes from the top n down to node n + i -/
def an : Tr → Nat → Nat → List Nat
  | .v, n, _ => [n]
  | .o _ _, n, 0 => [n]
  | .o _ t, n, i + 1 => n :: an t (n + 1) i
  | .r _, n, 0 => [n]
  | .r fs, n, i + 1 => n :: ans fs (n + 1) i
def ans : List (Str × Tr) → Nat → Nat → List Nat
  | [], _, _ => []
  | (_, t) :: r, k, i => if i < sz t then an t k i else ans r (k + sz t) (i - sz t)
end
mutual
/-- the steps down to node i -/
def stp : Tr → Nat → List Str
  | .v, _ => []
  | .o b _, 0 => [oS b]
  | .o b t, i + 1 => oS b :: stp t i
  | .r _, 0 => []
  | .r fs, i + 1 => stps fs i
def stps : List (Str × Tr) → Nat → List Str
  | [], _ => []
  | (s, t) :: r, i => if i < sz t then (("." : Str) ++ s) :: stp t i else stps r (i - sz t)
end
mutual
theorem an_rng : ∀ (t : Tr) (n i : Nat), i < sz t → ∀ x ∈ an t n i, n ≤ x ∧ x < n + sz t
  | .v, n, i, h, x, m => by simp [an] at m; subst m; simp [sz]
  | .o b t, n, 0, h, x, m => by simp [an] at m; subst m; simp [sz]
  | .o b t, n, i + 1, h, x, m => by
    simp only [an, List.mem_cons] at m
    rcases m with rfl | m
    · simp [sz]
    · have := an_rng t (n + 1) i (by simp [sz] at h; omega) x m; simp [sz]; omega
  | .r fs, n, 0, h, x, m => by simp [an] at m; subst m; simp [sz]
  | .r fs, n, i + 1, h, x, m => by
    simp only [an, List.mem_cons] at m
    rcases m with rfl | m
    · simp [sz]
    · have := ans_rng fs (n + 1) i (by simp [sz] at h; omega) x m; simp [sz]; omega
theorem ans_rng : ∀ (fs : List (Str × Tr)) (k i : Nat), i < szs fs → ∀ x ∈ ans fs k i, k ≤ x ∧ x < k + szs fs
  | [], _, _, h, _, _ => by simp [szs] at h
  | (s, t) :: r, k, i, h, x, m => by
    by_cases z : i < sz t
    · simp only [ans, if_pos z] at m
      have := an_rng t k i z x m; simp [szs]; omega
    · simp only [ans, if_neg z] at m
      have := ans_rng r (k + sz t) (i - sz t) (by simp [szs] at h; omega) x m; simp [szs]; omega
end
mutual
/-- the parents along a line -/
theorem an_par : ∀ (t : Tr) (n : Nat) (p : Int) (i : Nat) (pre : List Nat) (x : Nat) (suf : List Nat), i < sz t → an t n i = pre ++ x :: suf → ∃ j, x = n + j ∧ (pa t n p)[j]? = some ((pre.getLast?.map fun (y : Nat) => (y : Int)).getD p)
  | .v, n, p, i, pre, x, suf, h, e => by
    simp only [an] at e
    cases pre with
    | nil => simp at e; obtain ⟨rfl, rfl⟩ := e; exact ⟨0, rfl, rfl⟩
    | cons y pre => simp at e
  | .o b t, n, p, 0, pre, x, suf, h, e => by
    simp only [an] at e
    cases pre with
    | nil => simp at e; obtain ⟨rfl, rfl⟩ := e; exact ⟨0, rfl, rfl⟩
    | cons y pre => simp at e
  | .o b t, n, p, i + 1, pre, x, suf, h, e => by
    simp only [an] at e
    cases pre with
    | nil => simp at e; obtain ⟨rfl, _⟩ := e; exact ⟨0, rfl, rfl⟩
    | cons y pre =>
      simp at e
      obtain ⟨rfl, e⟩ := e
      obtain ⟨j, h1, h2⟩ := an_par t (n + 1) n i pre x suf (by simp [sz] at h; omega) e
      refine ⟨j + 1, by omega, ?_⟩
      simp only [pa, List.getElem?_cons_succ, h2]
      cases pre with
      | nil => rfl
      | cons z pre =>
        rw [List.getLast?_cons_cons]
        obtain ⟨y, hy⟩ : ∃ y, (z :: pre).getLast? = some y := ⟨_, List.getLast?_eq_some_getLast (by simp)⟩
        rw [hy]; rfl
  | .r fs, n, p, 0, pre, x, suf, h, e => by
    simp only [an] at e
    cases pre with
    | nil => simp at e; obtain ⟨rfl, rfl⟩ := e; exact ⟨0, rfl, rfl⟩
    | cons y pre => simp at e
  | .r fs, n, p, i + 1, pre, x, suf, h, e => by
    simp only [an] at e
    cases pre with
    | nil => simp at e; obtain ⟨rfl, _⟩ := e; exact ⟨0, rfl, rfl⟩
    | cons y pre =>
      simp at e
      obtain ⟨rfl, e⟩ := e
      obtain ⟨j, h1, h2⟩ := ans_par fs (n + 1) n i pre x suf (by simp [sz] at h; omega) e
      refine ⟨j + 1, by omega, ?_⟩
      simp only [pa, List.getElem?_cons_succ, h2]
      cases pre with
      | nil => rfl
      | cons z pre =>
        rw [List.getLast?_cons_cons]
        obtain ⟨y, hy⟩ : ∃ y, (z :: pre).getLast? = some y := ⟨_, List.getLast?_eq_some_getLast (by simp)⟩
        rw [hy]; rfl
theorem ans_par : ∀ (fs : List (Str × Tr)) (k : Nat) (p : Int) (i : Nat) (pre : List Nat) (x : Nat) (suf : List Nat), i < szs fs → ans fs k i = pre ++ x :: suf → ∃ j, x = k + j ∧ (pas fs k p)[j]? = some ((pre.getLast?.map fun (y : Nat) => (y : Int)).getD p)
  | [], _, _, _, _, _, _, h, _ => by simp [szs] at h
  | (s, t) :: r, k, p, i, pre, x, suf, h, e => by
    by_cases z : i < sz t
    · simp only [ans, if_pos z] at e
      obtain ⟨j, h1, h2⟩ := an_par t k p i pre x suf z e
      have hj : j < sz t := by
        have := (List.getElem?_eq_some_iff.mp h2).1
        rwa [pa_len] at this
      exact ⟨j, h1, by simp only [pas]; rw [List.getElem?_append_left (by rw [pa_len]; exact hj)]; exact h2⟩
    · simp only [ans, if_neg z] at e
      obtain ⟨j, h1, h2⟩ := ans_par r (k + sz t) p (i - sz t) pre x suf (by simp [szs] at h; omega) e
      exact ⟨sz t + j, by omega, by simp only [pas]; rw [List.getElem?_append_right (by rw [pa_len]; omega), pa_len, Nat.add_sub_cancel_left]; exact h2⟩
end
/-! the lowest node above both -/
end Lw
set_option Elab.async false
set_option linter.all false
set_option maxRecDepth 100000
set_option autoImplicit false
set_option maxHeartbeats 4000000
/-! M2: the open nodes of a line and their signs. -/
namespace Lw
open PySem PySem.Spec PyProof.Rows L2 DL
def opK (k : Str) : Bool := decide (k = "list") || decide (k = "maybe")
def sgK (k : Str) : Str := if k = "list" then "l" else "m"
def lmS (s : Str) : Bool := decide (s = "l") || decide (s = "m")
def opl (ks : List Str) (l : List Nat) : List Nat := l.filter fun x => opK (ks.getD x "")
def sgl (ks : List Str) (l : List Nat) : List Str := (opl ks l).map fun x => sgK (ks.getD x "")
theorem sgl_cons (ks : List Str) (x : Nat) (l : List Nat) : sgl ks (x :: l) = (if opK (ks.getD x "") = true then [sgK (ks.getD x "")] else []) ++ sgl ks l := by
  unfold sgl opl
  rw [List.filter_cons]
  split <;> simp
theorem dot_lm (s : Str) : lmS (("." : Str) ++ s) = false := by
  have h : ∀ c : Nat, c ≠ 46 → ("." : Str) ++ s ≠ SX.S [c] := fun c hc e => by
    have q := congrArg TL.tl e
    rw [TL.tl_append] at q
    have q' : 46 :: TL.tl s = [c] := q
    injection q' with q1 q2
    exact hc q1.symm
  have h1 : ("." : Str) ++ s ≠ ("l" : Str) := h 108 (by decide)
  have h2 : ("." : Str) ++ s ≠ ("m" : Str) := h 109 (by decide)
  unfold lmS
  rw [decide_eq_false h1, decide_eq_false h2]
  rfl
theorem getD_of {ks : List Str} {i : Nat} {k : Str} (h : ks[i]? = some k) : ks.getD i "" = k := by
  rw [List.getD_eq_getElem?_getD, h]; rfl
mutual
theorem way_eq (ks : List Str) : ∀ (t : Tr) (n i : Nat), i < sz t → (∀ x, x < sz t → ks[n + x]? = (kd t)[x]?) → sgl ks (an t n i) = (stp t i).filter lmS
  | .v, n, i, h, hk => by
    have e := getD_of ((hk 0 (by simp [sz])).trans (rfl : (kd .v)[0]? = some ("value" : Str)))
    simp only [Nat.add_zero] at e
    simp only [an, stp]
    rw [sgl_cons, e, show opK "value" = false by decide]; rfl
  | .o b t, n, i, h, hk => by
    have e := getD_of ((hk 0 (by simp [sz])).trans (by cases b <;> rfl : (kd (.o b t))[0]? = some (if b then ("list" : Str) else ("maybe" : Str))))
    simp only [Nat.add_zero] at e
    have e0 : (if opK (ks.getD n "") = true then [sgK (ks.getD n "")] else []) = [oS b] := by rw [e]; cases b <;> decide
    have e1 : lmS (oS b) = true := by cases b <;> decide
    cases i with
    | zero =>
      simp only [an, stp]
      rw [sgl_cons, e0, List.filter_cons, if_pos e1]; rfl
    | succ i =>
      simp only [an, stp]
      rw [sgl_cons, e0, List.filter_cons, if_pos e1, way_eq ks t (n + 1) i (by simp [sz] at h; omega) fun x hx => ?_]
      · rfl
      · have := hk (x + 1) (by simp [sz]; exact hx)
        rw [show n + 1 + x = n + (x + 1) by omega, this]
        cases b <;> simp [kd]
  | .r fs, n, i, h, hk => by
    have e := getD_of ((hk 0 (by simp [sz])).trans (rfl : (kd (.r fs))[0]? = some ("record" : Str)))
    simp only [Nat.add_zero] at e
    have e0 : (if opK (ks.getD n "") = true then [sgK (ks.getD n "")] else []) = [] := by rw [e]; decide
    cases i with
    | zero =>
      simp only [an, stp]
      rw [sgl_cons, e0]; rfl
    | succ i =>
      simp only [an, stp]
      rw [sgl_cons, e0, ways_eq ks fs (n + 1) i (by simp [sz] at h; omega) fun x hx => ?_]
      · rfl
      · have := hk (x + 1) (by simp [sz]; exact hx)
        rw [show n + 1 + x = n + (x + 1) by omega, this]
        simp [kd]
theorem ways_eq (ks : List Str) : ∀ (fs : List (Str × Tr)) (k i : Nat), i < szs fs → (∀ x, x < szs fs → ks[k + x]? = (kds fs)[x]?) → sgl ks (ans fs k i) = (stps fs i).filter lmS
  | [], _, _, h, _ => by simp [szs] at h
  | (s, t) :: r, k, i, h, hk => by
    have hsz : szs ((s, t) :: r) = sz t + szs r := rfl
    rw [hsz] at h hk
    by_cases z : i < sz t
    · simp only [ans, stps, if_pos z]
      rw [List.filter_cons, if_neg (by rw [dot_lm]; decide)]
      exact way_eq ks t k i z fun x hx => by rw [hk x (by omega)]; simp only [kds]; rw [List.getElem?_append_left (by rw [kd_len]; exact hx)]
    · simp only [ans, stps, if_neg z]
      exact ways_eq ks r (k + sz t) (i - sz t) (by omega) fun x hx => by
        rw [Nat.add_assoc, hk (sz t + x) (by omega)]; simp only [kds]
        rw [List.getElem?_append_right (by rw [kd_len]; omega), kd_len, Nat.add_sub_cancel_left]
end
mutual
theorem an_len : ∀ (t : Tr) (n i : Nat), i < sz t → (an t n i).length ≤ sz t
  | .v, n, i, h => by simp [an, sz]
  | .o b t, n, 0, h => by simp [an, sz]
  | .o b t, n, i + 1, h => by have := an_len t (n + 1) i (by simp [sz] at h; omega); simp [an, sz]; exact this
  | .r fs, n, 0, h => by simp [an, sz]
  | .r fs, n, i + 1, h => by have := ans_len fs (n + 1) i (by simp [sz] at h; omega); simp [an, sz]; exact this
theorem ans_len : ∀ (fs : List (Str × Tr)) (k i : Nat), i < szs fs → (ans fs k i).length ≤ szs fs
  | [], _, _, h => by simp [szs] at h
  | (s, t) :: r, k, i, h => by
    by_cases z : i < sz t
    · simp only [ans, if_pos z]; have := an_len t k i z; simp [szs]; omega
    · simp only [ans, if_neg z]; have := ans_len r (k + sz t) (i - sz t) (by simp [szs] at h; omega); simp [szs]; omega
end
mutual
/-- a line ends at its node -/
theorem an_last : ∀ (t : Tr) (n i : Nat), i < sz t → (an t n i).getLast? = some (n + i)
  | .v, n, i, h => by simp [an, sz] at *; omega
  | .o b t, n, 0, h => by simp [an]
  | .o b t, n, i + 1, h => by
    have q := an_last t (n + 1) i (by simp [sz] at h; omega)
    simp only [an]
    cases e : an t (n + 1) i with
    | nil => rw [e] at q; simp at q
    | cons a l => rw [e] at q; rw [List.getLast?_cons_cons, q]; congr 1; omega
  | .r fs, n, 0, h => by simp [an]
  | .r fs, n, i + 1, h => by
    have q := ans_last fs (n + 1) i (by simp [sz] at h; omega)
    simp only [an]
    cases e : ans fs (n + 1) i with
    | nil => rw [e] at q; simp at q
    | cons a l => rw [e] at q; rw [List.getLast?_cons_cons, q]; congr 1; omega
theorem ans_last : ∀ (fs : List (Str × Tr)) (k i : Nat), i < szs fs → (ans fs k i).getLast? = some (k + i)
  | [], _, _, h => by simp [szs] at h
  | (s, t) :: r, k, i, h => by
    by_cases z : i < sz t
    · simp only [ans, if_pos z]; exact an_last t k i z
    · simp only [ans, if_neg z]; rw [ans_last r (k + sz t) (i - sz t) (by simp [szs] at h; omega)]; congr 1; omega
end
end Lw
set_option Elab.async false
set_option linter.all false
set_option maxRecDepth 100000
set_option autoImplicit false
set_option maxHeartbeats 4000000
/-! Z1: tuple(zip(xs, ys)) over two lists. -/
namespace PySem
namespace F
theorem zip_no_len : typeLookup (.type "zip") "__len__" = pure none := by rw [typeLookup_type, builtinLookup_eq_fast]; kernel_rfl
theorem zip_no_hint : typeLookup (.type "zip") "__length_hint__" = pure none := by rw [typeLookup_type, builtinLookup_eq_fast]; kernel_rfl
end F
/-- how far a zip is (S: the list that takes its tuples) -/
structure ZSt (z TI TO i1 i2 l1 l2 S : Addr) (xs ys : Array Value) (i : Nat) (h : Heap) : Prop where
  hTI : IsPair h TI (.ref i1) (.ref i2)
  h1 : h.IsListIter i1 l1 i
  h2 : h.IsListIter i2 l2 i
  hl1 : h.IsList l1 xs
  hl2 : h.IsList l2 ys
  hz : (IsZip h z TI TO .none ∧ ∃ a b, IsPair h TO a b) ∨ ∃ T f oT, IsZipHeld h z TI TO T f ∧ h.get? T = some oT ∧ T ≠ z ∧ T ≠ i1 ∧ T ≠ i2 ∧ T ≠ S
structure ZAp (z TI TO i1 i2 l1 l2 S : Addr) : Prop where
  d : ZipApart z TI TO i1 i2 l1 l2
  z : S ≠ z
  TI : S ≠ TI
  TO : S ≠ TO
  i1 : S ≠ i1
  i2 : S ≠ i2
  l1 : S ≠ l1
  l2 : S ≠ l2
/-- the tuples that were taken -/
structure ZAcc (base : Addr) (xs ys : Array Value) (i : Nat) (Ts : List Addr) (h : Heap) : Prop where
  len : Ts.length = i
  nd : Ts.Nodup
  ap : ∀ T ∈ Ts, base ≤ T ∧ T < h.objs.size
  it : ∀ (j : Nat) (T : Addr), Ts[j]? = some T → ∃ x y, xs[j]? = some x ∧ ys[j]? = some y ∧ IsPair h T x y
theorem ZSt.keep {z TI TO i1 i2 l1 l2 S : Addr} {xs ys : Array Value} {i : Nat} {h h' : Heap} (q : ZSt z TI TO i1 i2 l1 l2 S xs ys i h) (D : ZAp z TI TO i1 i2 l1 l2 S) (k : ∀ b o, b ≠ S → h.get? b = some o → h'.get? b = some o) : ZSt z TI TO i1 i2 l1 l2 S xs ys i h' where
  hTI := k _ _ D.TI.symm q.hTI
  h1 := q.h1.at fun o e => k _ o D.i1.symm e
  h2 := q.h2.at fun o e => k _ o D.i2.symm e
  hl1 := q.hl1.at fun o e => k _ o D.l1.symm e
  hl2 := q.hl2.at fun o e => k _ o D.l2.symm e
  hz := by
    rcases q.hz with ⟨hz, a, b, hTO⟩ | ⟨T, f, oT, hz, hT, r1, r2, r3, r4⟩
    · exact .inl ⟨k _ _ D.z.symm hz, a, b, k _ _ D.TO.symm hTO⟩
    · exact .inr ⟨T, f, oT, k _ _ D.z.symm hz, k _ _ r4 hT, r1, r2, r3, r4⟩
section
variable {prog : Program} {w : World} {A : Around} {R : Result → Shared → Prop} {z TI TO i1 i2 l1 l2 S base : Addr} {xs ys : Array Value} {n : Nat} {res : Value} {E : Value → Shared → Prop} {s : Shared}
/-- one turn -/
theorem zst_item {i : Nat} {Q : Option Value → Shared → Prop} (D : ZAp z TI TO i1 i2 l1 l2 S) (q : ZSt z TI TO i1 i2 l1 l2 S xs ys i s.heap) (hS : S < s.heap.objs.size) {x y : Value} (ex : xs[i]? = some x) (ey : ys[i]? = some y)
    (hQ : ∀ h', ZSt z TI TO i1 i2 l1 l2 S xs ys (i + 1) h' → IsPair h' s.heap.objs.size x y → s.heap.objs.size < h'.objs.size → (∀ c o, c ≠ z → c ≠ TO → c ≠ i1 → c ≠ i2 → s.heap.get? c = some o → h'.get? c = some o) → Q (some (.ref s.heap.objs.size)) { s with heap := h' }) :
    wpAny (model prog w) A (pyNext (.ref z)) Q E s := by
  have lt : ∀ {c : Addr} {o : Obj}, s.heap.get? c = some o → s.heap.objs.size ≠ c := fun e => Nat.ne_of_gt (Heap.lt_size e)
  have n1 : s.heap.objs.size ≠ i1 := let ⟨_, e, _⟩ := q.h1; lt e
  have n2 : s.heap.objs.size ≠ i2 := let ⟨_, e, _⟩ := q.h2; lt e
  rcases q.hz with ⟨hz, a, b, hTO⟩ | ⟨T, f, oT, hz, hT, r1, r2, r3, r4⟩
  · refine wpAny_pyNext_zip_item D.d hz q.hTI hTO q.h1 q.h2 q.hl1 q.hl2 ex ey fun h' a1 a2 a3 a4 a5 a6 hk => ?_
    exact hQ h' ⟨hk _ _ D.d.TIz D.d.TITO D.d.TIi1 D.d.TIi2 q.hTI, a3, a4, q.hl1.at fun o e => hk _ o D.d.l1z D.d.l1TO D.d.l1i1 D.d.l1i2 e, q.hl2.at fun o e => hk _ o D.d.l2z D.d.l2TO D.d.l2i1 D.d.l2i2 e,
      .inr ⟨s.heap.objs.size, false, _, a1, a5, lt hz, n1, n2, Nat.ne_of_gt hS⟩⟩ a5 (by rw [a6]; exact Nat.lt_succ_self _) fun c o c1 c2 c3 c4 e => hk c o c1 c2 c3 c4 e
  · refine wpAny_pyNext_zip_item_held D.d hz hT q.hTI q.h1 q.h2 q.hl1 q.hl2 ex ey fun h' a1 a3 a4 a5 a6 hk => ?_
    exact hQ h' ⟨hk _ _ D.d.TIz D.d.TIi1 D.d.TIi2 q.hTI, a3, a4, q.hl1.at fun o e => hk _ o D.d.l1z D.d.l1i1 D.d.l1i2 e, q.hl2.at fun o e => hk _ o D.d.l2z D.d.l2i1 D.d.l2i2 e,
      .inr ⟨T, true, oT, a1, hk _ _ r1 r2 r3 hT, r1, r2, r3, r4⟩⟩ a5 (by rw [a6]; exact Nat.lt_succ_self _) fun c o c1 c2 c3 c4 e => hk c o c1 c3 c4 e
theorem zst_done {i : Nat} {Q : Option Value → Shared → Prop} (hh : A.handled = none) (D : ZAp z TI TO i1 i2 l1 l2 S) (q : ZSt z TI TO i1 i2 l1 l2 S xs ys i s.heap) (he : xs[i]? = none ∨ ys[i]? = none)
    (hQ : ∀ h', (∀ c o, c ≠ z → c ≠ TO → c ≠ i1 → c ≠ i2 → s.heap.get? c = some o → h'.get? c = some o) → Q none { s with heap := h' }) : wpAny (model prog w) A (pyNext (.ref z)) Q E s := by
  rcases q.hz with ⟨hz, a, b, hTO⟩ | ⟨T, f, oT, hz, hT, r1, r2, r3, r4⟩
  · exact wpAny_pyNext_zip_end hh D.d hz q.hTI hTO q.h1 q.h2 q.hl1 q.hl2 he fun h' hk => hQ h' fun c o c1 c2 c3 c4 e => hk c o c1 c2 c3 c4 e
  · exact wpAny_pyNext_zip_end_held hh D.d hz hT q.hTI q.h1 q.h2 q.hl1 q.hl2 he fun h' hk => hQ h' fun c o c1 c2 c3 c4 e => hk c o c1 c3 c4 e
theorem ZAcc.keep {i : Nat} {Ts : List Addr} {h h' : Heap} (a : ZAcc base xs ys i Ts h) (k : ∀ b o, base ≤ b → h.get? b = some o → h'.get? b = some o) : ZAcc base xs ys i Ts h' where
  len := a.len
  nd := a.nd
  ap := fun T hT => by
    obtain ⟨j, hj⟩ := List.getElem?_of_mem hT
    obtain ⟨x, y, _, _, hp⟩ := a.it j T hj
    exact ⟨(a.ap T hT).1, Heap.lt_size (k _ _ (a.ap T hT).1 hp)⟩
  it := fun j T hj => by
    obtain ⟨x, y, e1, e2, hp⟩ := a.it j T hj
    exact ⟨x, y, e1, e2, k _ _ (a.ap T (List.mem_of_getElem? hj)).1 hp⟩
theorem zip_loop (hh : A.in1.handled = none) (D : ZAp z TI TO i1 i2 l1 l2 S) (hn : n = min xs.size ys.size) (hl : n ≤ sizeLine) (hB : S < base ∧ z < base ∧ TO < base ∧ i1 < base ∧ i2 < base) :
    ∀ (k i : Nat) (s : Shared) (Ts : List Addr) (c : Nat), n - i = k → i ≤ n → ZSt z TI TO i1 i2 l1 l2 S xs ys i s.heap → s.heap.get? S = some { cls := .type "list", dict := none, data := .seq (Ts.map Value.ref).toArray c, slots := #[] } → base ≤ s.heap.objs.size → ZAcc base xs ys i Ts s.heap →
    (∀ h' Ts' c', (∀ b o, b ≠ S → b ≠ z → b ≠ TO → b ≠ i1 → b ≠ i2 → s.heap.get? b = some o → h'.get? b = some o) → h'.get? S = some { cls := .type "list", dict := none, data := .seq (Ts'.map Value.ref).toArray c', slots := #[] } → ZAcc base xs ys n Ts' h' → R (.ok (.ret res)) { s with heap := h' }) →
    codeAny (model prog w) A (.builtin "list.extend.loop" ⟨[.ref S, .ref z, res], []⟩) R s := by
  obtain ⟨b0, b1, b2, b3, b4⟩ := hB
  have ge : ∀ {a b : Addr}, base ≤ b → a < base → b ≠ a := fun h1 h2 => Nat.ne_of_gt (Nat.lt_of_lt_of_le h2 h1)
  intro k
  induction k with
  | zero =>
    intro i s Ts c hk hi q hS hb ac hR
    have ei : i = n := by omega
    subst ei
    refine codeAny_builtin F.entry_extend_loop ?_
    rw [Around.under_plainId F.plain_extend_loop _]
    show wpAny _ A.in1 (pyNext (.ref z) >>= _) _ _ s
    have he : xs[i]? = none ∨ ys[i]? = none := by
      rcases Nat.le_total xs.size ys.size with h | h
      · exact .inl (Array.getElem?_eq_none (by rw [hn, Nat.min_eq_left h]; exact Nat.le_refl _))
      · exact .inr (Array.getElem?_eq_none (by rw [hn, Nat.min_eq_right h]; exact Nat.le_refl _))
    refine wpAny_bind (zst_done hh D q he fun h' hk => ?_)
    exact wpAny_pure (hR h' Ts c (fun b o _ b1 b2 b3 b4 e => hk b o b1 b2 b3 b4 e) (hk _ _ D.z D.TO D.i1 D.i2 hS) (ac.keep fun b o g e => hk b o (ge g b1) (ge g b2) (ge g b3) (ge g b4) e))
  | succ k ih =>
    intro i s Ts c hk hi q hS hb ac hR
    have hlt : i < n := by omega
    refine codeAny_builtin F.entry_extend_loop ?_
    rw [Around.under_plainId F.plain_extend_loop _]
    show wpAny _ A.in1 (pyNext (.ref z) >>= _) _ _ s
    have hix : i < xs.size := Nat.lt_of_lt_of_le hlt (by rw [hn]; exact Nat.min_le_left ..)
    have hiy : i < ys.size := Nat.lt_of_lt_of_le hlt (by rw [hn]; exact Nat.min_le_right ..)
    refine wpAny_bind (zst_item D q (Heap.lt_size hS) (Array.getElem?_eq_getElem hix) (Array.getElem?_eq_getElem hiy) fun h' q' hp hlt' hk' => ?_)
    have hS' := hk' _ _ D.z D.TO D.i1 D.i2 hS
    show wpAny _ A.in1 (updateSeq S (·.push (.ref s.heap.objs.size)) >>= _) _ _ _
    have up : ∀ b o, b ≠ S → h'.get? b = some o → (h'.update S (Obj.mapSeq (·.push (Value.ref s.heap.objs.size)))).get? b = some o := fun b o hb e => (Heap.get?_update_other _ _ (Ne.symm hb)).trans e
    have kk : ∀ b o, b ≠ S → b ≠ z → b ≠ TO → b ≠ i1 → b ≠ i2 → s.heap.get? b = some o → (h'.update S (Obj.mapSeq (·.push (Value.ref s.heap.objs.size)))).get? b = some o := fun b o c0 c1 c2 c3 c4 e => up b o c0 (hk' b o c1 c2 c3 c4 e)
    have ac1 := ac.keep (h' := h'.update S (Obj.mapSeq (·.push (Value.ref s.heap.objs.size)))) fun b o g e => kk b o (ge g b0) (ge g b1) (ge g b2) (ge g b3) (ge g b4) e
    have hp1 := up _ _ (ge hb b0) hp
    have ac2 : ZAcc base xs ys (i + 1) (Ts ++ [s.heap.objs.size]) (h'.update S (Obj.mapSeq (·.push (Value.ref s.heap.objs.size)))) := by
      refine ⟨by simp [ac.len], ?_, fun T hT => ?_, fun j T hj => ?_⟩
      · rw [List.nodup_append]
        exact ⟨ac.nd, by simp, fun a ha b hb' => by
          rw [List.mem_singleton] at hb'
          exact Nat.ne_of_lt (hb' ▸ (ac.ap a ha).2)⟩
      · rcases List.mem_append.mp hT with hT | hT
        · exact ac1.ap T hT
        · rw [List.mem_singleton.mp hT]
          exact ⟨hb, Heap.lt_size hp1⟩
      · by_cases hj' : j < Ts.length
        · rw [List.getElem?_append_left hj'] at hj
          exact ac1.it j T hj
        · rw [List.getElem?_append_right (by omega)] at hj
          have e0 : j - Ts.length = 0 := by
            have := (List.getElem?_eq_some_iff.mp hj).1
            simp at this
            omega
          rw [e0] at hj
          simp at hj
          have ej : j = i := by rw [← ac.len]; omega
          subst ej hj
          exact ⟨_, _, Array.getElem?_eq_getElem hix, Array.getElem?_eq_getElem hiy, hp1⟩
    refine wpAny_bind (wpAny_updateSeq hS' rfl (wpAny_pure ⟨plainId_quiet F.plain_extend_loop _, ih (i + 1) _ (Ts ++ [s.heap.objs.size]) _ (by omega) hlt (q'.keep D up) (by
        have e := Heap.get?_update_self (Obj.mapSeq (·.push (Value.ref s.heap.objs.size))) hS' rfl
        rw [List.map_append]
        rw [show ((Ts.map Value.ref ++ [s.heap.objs.size].map Value.ref).toArray) = (Ts.map Value.ref).toArray.push (Value.ref s.heap.objs.size) by simp]
        exact e) ?_ ac2 fun h'' Ts' c' hk'' hS'' ac' => ?_⟩)
      (by simp only [List.size_toArray, List.length_map, ac.len]; omega) (by simp only [Array.size_push, List.size_toArray, List.length_map, ac.len]; omega))
    · exact Nat.le_of_lt (Nat.lt_of_le_of_lt hb (Heap.lt_size hp1))
    · exact hR h'' Ts' c' (fun b o c0 c1 c2 c3 c4 e => hk'' b o c0 c1 c2 c3 c4 (kk b o c0 c1 c2 c3 c4 e)) hS'' ac'
theorem collect_zip {Q : List Value → Shared → Prop} (hh : A.handled = none) (D0 : ZipApart z TI TO i1 i2 l1 l2) (hz : IsZip s.heap z TI TO .none) (hTI : IsPair s.heap TI (.ref i1) (.ref i2)) (hTO : ∃ a b, IsPair s.heap TO a b)
    (h1 : s.heap.IsListIter i1 l1 0) (h2 : s.heap.IsListIter i2 l2 0) (hl1 : s.heap.IsList l1 xs) (hl2 : s.heap.IsList l2 ys) (hl : min xs.size ys.size ≤ sizeLine)
    (hQ : ∀ h' Ts, (∀ b o, b ≠ z → b ≠ TO → b ≠ i1 → b ≠ i2 → s.heap.get? b = some o → h'.get? b = some o) → ZAcc s.heap.objs.size xs ys (min xs.size ys.size) Ts h' → Q (Ts.map Value.ref) { s with heap := h' }) :
    wpAny (model prog w) A (collect (.ref z)) Q E s := by
  have ne : ∀ {c : Addr} {o : Obj}, s.heap.get? c = some o → s.heap.objs.size ≠ c := fun e => Nat.ne_of_gt (Heap.lt_size e)
  obtain ⟨ta, tb, hTO'⟩ := hTO
  have D : ZAp z TI TO i1 i2 l1 l2 s.heap.objs.size := ⟨D0, ne hz, ne hTI, ne hTO', (let ⟨_, e, _⟩ := h1; ne e), (let ⟨_, e, _⟩ := h2; ne e), (let ⟨_, e, _⟩ := hl1; ne e), (let ⟨_, e, _⟩ := hl2; ne e)⟩
  have k1 : ∀ b o, s.heap.get? b = some o → (s.heap.push { cls := .type "list", data := .seq ([] : List Value).toArray }).get? b = some o := fun b o e => Heap.get?_push_of_some _ e
  have hz1 := k1 _ _ hz
  have hT : (⟨s.heap.push { cls := .type "list", data := .seq ([] : List Value).toArray }, s.gens, s.drawn, s.toks, s.os⟩ : Shared).TypeIs (.ref z) "zip" := ⟨_, hz1, rfl⟩
  unfold collect
  refine wpAny_bind (wpAny_runValue (codeAny_builtin F.entry_proto_collect ?_))
  rw [Around.under_plainId F.plain_proto_collect _]
  show wpAny _ A.in1 (newList [] >>= fun l => again (.builtin "list.__iadd__" ⟨[l, .ref z], []⟩)) _ _ s
  refine wpAny_bind (wpAny_newObj_type ?_)
  refine wpAny_pure ⟨plainId_quiet F.plain_list_iadd _, codeAny_builtin F.entry_list_iadd ?_⟩
  rw [Around.under_plainId F.plain_list_iadd _]
  show wpAny _ A.in1 (Builtin.List.listExtendWith (.ref s.heap.objs.size) (.ref z) (.ref s.heap.objs.size)) _ _ _
  unfold Builtin.List.listExtendWith
  refine wpAny_bind (wpAny_typeOf hT ?_)
  have g1 : Builtin.List.listSameRef (.ref s.heap.objs.size) (.ref z) = false := by simp [Builtin.List.listSameRef, D.z]
  have g2 : (Value.type "zip" == Value.type "list") = false := by decide
  have g3 : (Value.type "zip" == Value.type "tuple") = false := by decide
  simp only [g1, g2, g3, Bool.or_false, Bool.false_eq_true, if_false]
  refine wpAny_bind (wpAny_pyIter_zip hz1 ?_)
  refine wpAny_bind (wpAny_holding ?_)
  unfold Builtin.List.listLengthHint
  refine wpAny_bind (wpAny_specialOf hT F.zip_no_len ?_)
  show wpAny _ A.in1 (specialOf (Value.ref z) (Str.ofString "__length_hint__") >>= _) _ _ _
  refine wpAny_bind (wpAny_specialOf hT F.zip_no_hint ?_)
  refine wpAny_pure ?_
  show wpAny _ A.in1 (rule "list.extend.makes-room" >>= fun _ => Builtin.List.listTouch (.ref s.heap.objs.size) >>= fun _ =>
    again (.builtin "list.extend.loop" ⟨[.ref s.heap.objs.size, .ref z, .ref s.heap.objs.size], []⟩)) _ _ _
  refine wpAny_bind (wpAny_rule ?_)
  have hS₁ : (s.heap.push { cls := .type "list", data := .seq ([] : List Value).toArray }).get? s.heap.objs.size = some { cls := .type "list", data := .seq ([] : List Value).toArray } := Heap.get?_push_size _ rfl
  refine wpAny_bind ?_
  show wpAny _ A.in1 (updateSeq s.heap.objs.size (·.push .none) >>= fun _ => updateSeq s.heap.objs.size (·.pop)) _ _ _
  refine wpAny_bind (wpAny_updateSeq hS₁ rfl ?_)
  have hS₂ := Heap.get?_update_self (Obj.mapSeq (·.push Value.none)) hS₁ rfl
  refine wpAny_updateSeq hS₂ rfl ?_
  have hS₃ := Heap.get?_update_self (Obj.mapSeq (·.pop)) hS₂ rfl
  have oth : ∀ b o, b ≠ s.heap.objs.size → s.heap.get? b = some o →
      (((s.heap.push { cls := .type "list", data := .seq ([] : List Value).toArray }).update s.heap.objs.size (Obj.mapSeq (·.push Value.none))).update s.heap.objs.size (Obj.mapSeq (·.pop))).get? b = some o :=
    fun b o hb e => (Heap.get?_update_other _ _ (Ne.symm hb)).trans ((Heap.get?_update_other _ _ (Ne.symm hb)).trans (k1 b o e))
  have q0 : ZSt z TI TO i1 i2 l1 l2 s.heap.objs.size xs ys 0 s.heap := ⟨hTI, h1, h2, hl1, hl2, .inl ⟨hz, ta, tb, hTO'⟩⟩
  have lt : ∀ {c : Addr} {o : Obj}, s.heap.get? c = some o → c < s.heap.objs.size + 1 := fun e => Nat.lt_succ_of_lt (Heap.lt_size e)
  refine wpAny_pure ⟨plainId_quiet F.plain_extend_loop _, zip_loop (base := s.heap.objs.size + 1) hh D rfl hl ⟨Nat.lt_succ_self _, lt hz, lt hTO', (let ⟨_, e, _⟩ := h1; lt e), (let ⟨_, e, _⟩ := h2; lt e)⟩ _ 0 _ [] _ rfl (Nat.zero_le _) (q0.keep D oth) hS₃ (Nat.succ_le_of_lt (Heap.lt_size hS₃)) ⟨rfl, List.nodup_nil, fun T hT => (by cases hT), fun j T hj => (by cases hj)⟩ fun h' Ts c' hk hS' ac => ?_⟩
  show wpAny _ A (load s.heap.objs.size >>= _) _ _ _
  refine wpAny_bind (wpAny_load hS' ?_)
  refine wpAny_pure ?_
  have q := hQ h' Ts (fun b o b1 b2 b3 b4 e => hk b o (Nat.ne_of_lt (Heap.lt_size e)) b1 b2 b3 b4 (oth b o (Nat.ne_of_lt (Heap.lt_size e)) e)) ⟨ac.len, ac.nd, fun T hT => ⟨Nat.le_of_succ_le (ac.ap T hT).1, (ac.ap T hT).2⟩, ac.it⟩
  exact q
end
theorem meets_tuple_zip (z TI TO i1 i2 l1 l2 : Addr) (xs ys : Array Value) (D0 : ZipApart z TI TO i1 i2 l1 l2) (hl : min xs.size ys.size ≤ sizeLine) :
    Meets (Builtin.«tuple.__new__» ⟨[.type "tuple", .ref z], []⟩)
      (fun A R s => A.handled = none ∧ IsZip s.heap z TI TO .none ∧ IsPair s.heap TI (.ref i1) (.ref i2) ∧ (∃ a b, IsPair s.heap TO a b) ∧ s.heap.IsListIter i1 l1 0 ∧ s.heap.IsListIter i2 l2 0 ∧ s.heap.IsList l1 xs ∧ s.heap.IsList l2 ys ∧
        ∀ (h' : Heap) (Ts : List Addr), (∀ b o, b ≠ z → b ≠ TO → b ≠ i1 → b ≠ i2 → s.heap.get? b = some o → h'.get? b = some o) → ZAcc s.heap.objs.size xs ys (min xs.size ys.size) Ts h' → R (.ok (.ret (.ref h'.objs.size))) { s with heap := h'.push { cls := .type "tuple", data := .seq (Ts.map Value.ref).toArray } }) :=
  .of_wp fun prog w A R s h => by
    obtain ⟨hp, g, d, tk, os⟩ := s; obtain ⟨hh, hz, hTI, hTO, h1, h2, hl1, hl2, h⟩ := h
    have hsub := sub_tuple_self
    have hinit := init_tuple_lookup
    have hmh := madeHere_tuple
    have hT : Shared.TypeIs ⟨hp, g, d, tk, os⟩ (.ref z) "zip" := ⟨_, hz, rfl⟩
    have col : ∀ {Q : List Value → Shared → Prop} {E : Value → Shared → Prop} {A1 : Around}, A1.handled = none → (∀ (h' : Heap) (Ts : List Addr), (∀ b o, b ≠ z → b ≠ TO → b ≠ i1 → b ≠ i2 → hp.get? b = some o → h'.get? b = some o) → ZAcc hp.objs.size xs ys (min xs.size ys.size) Ts h' → Q (Ts.map Value.ref) ⟨h', g, d, tk, os⟩) → wpAny (model prog w) A1 (collect (.ref z)) Q E ⟨hp, g, d, tk, os⟩ := fun h0 hq => collect_zip (s := ⟨hp, g, d, tk, os⟩) h0 D0 hz hTI hTO h1 h2 hl1 hl2 hl hq
    have hh2 : A.in1.handled = none := hh
    wp_walk using AutoSeq1.wpAny_loadPart' hz, wpAny_typeOf hT, col hh2
    intro h' Ts hk ac
    show wpAny _ _ (Builtin.Tuple.tupleExact (Ts.map Value.ref).toArray >>= fun v => ret v) _ _ _
    unfold Builtin.Tuple.tupleExact
    refine wpAny_bind (wpAny_newObj_type ?_ (by show ((Ts.map Value.ref).toArray).size ≤ sizeLine; rw [List.size_toArray, List.length_map, ac.len]; exact hl))
    exact wpAny_pure ⟨_, rfl, h h' Ts hk ac⟩
end PySem
namespace DL
open PySem PySem.Spec PyProof.Rows L2
/-- several new objects -/
def updL (H : Hp) (f : Addr → Option HO) : Hp := fun b => (f b).or (H b)
/-- the n pairs at Ts -/
def prs (Ts : List Addr) (xs ys : List V) (b : Addr) : Option HO := match Ts.findIdx? (· == b) with
  | some j => match xs[j]?, ys[j]? with
    | some x, some y => some (.tup [x, y])
    | _, _ => none
  | none => none
/-- tuple(zip(a, b)) -/
def tTupZip (K : PySem.W.Frag) (ta : TA) : TE := fun σ H Q => ta σ H fun vs H1 => ∃ (a b : Addr) (xs ys : List V), vs = [.ref a, .ref b] ∧ SqL K H1 a xs ∧ SqL K H1 b ys ∧ min xs.length ys.length ≤ 1000 ∧
  ∀ (Ts : List Addr) (p : Addr), Ts.length = min xs.length ys.length → Ts.Nodup → p ∉ Ts → (∀ T ∈ Ts, H1 T = none) → H1 p = none → Q (.ref p) (upd (updL H1 (prs Ts xs ys)) p (.tup (Ts.map V.ref)))
theorem prs_get {Ts : List Addr} {xs ys : List V} {b : Addr} {o : HO} (h : prs Ts xs ys b = some o) : ∃ (j : Nat) (x y : V), Ts[j]? = some b ∧ xs[j]? = some x ∧ ys[j]? = some y ∧ o = .tup [x, y] := by
  unfold prs at h
  split at h
  · rename_i j hj
    split at h
    · rename_i x y ex ey
      obtain ⟨hlt, e, _⟩ := List.findIdx?_eq_some_iff_getElem.mp hj
      cases h
      exact ⟨j, x, y, by rw [List.getElem?_eq_getElem hlt]; simpa using e, ex, ey, rfl⟩
    · cases h
  · cases h
theorem prs_at {Ts : List Addr} {xs ys : List V} {j : Nat} {b : Addr} {x y : V} (nd : Ts.Nodup) (h : Ts[j]? = some b) (ex : xs[j]? = some x) (ey : ys[j]? = some y) : prs Ts xs ys b = some (.tup [x, y]) := by
  obtain ⟨hlt, e⟩ := List.getElem?_eq_some_iff.mp h
  have q : Ts.findIdx? (· == b) = some j := by
    rw [List.findIdx?_eq_some_iff_getElem]
    refine ⟨hlt, by simpa using e, fun i hi => ?_⟩
    have hp := List.pairwise_iff_getElem.mp nd i j (Nat.lt_trans hi hlt) hlt hi
    rw [e] at hp
    simpa using hp
  unfold prs
  simp only [q, ex, ey]
theorem prs_none {Ts : List Addr} {xs ys : List V} {b : Addr} (h : b ∉ Ts) : prs Ts xs ys b = none := by
  cases e : prs Ts xs ys b with
  | none => rfl
  | some o => obtain ⟨j, _, _, e1, _⟩ := prs_get e; exact absurd (List.mem_of_getElem? e1) h
theorem vals_refs : ∀ Ts : List Addr, Vals (Ts.map V.ref) (Ts.map Value.ref)
  | [] => .nil
  | T :: Ts => .cons rfl (vals_refs Ts)
theorem Reps.of2 {F : Hp} : ∀ {ds : List D} {xs : List V}, ds.length = xs.length → (∀ (i : Nat) (d : D) (v : V), ds[i]? = some d → xs[i]? = some v → Rep F d v) → Reps F ds xs
  | [], [], _, _ => rfl
  | [], _ :: _, h, _ => by simp at h
  | _ :: _, [], h, _ => by simp at h
  | d :: ds, v :: xs, h, k => ⟨v, xs, rfl, k 0 d v rfl rfl, Reps.of2 (by simpa using h) fun i d' v' e1 e2 => k (i + 1) d' v' (by simpa using e1) (by simpa using e2)⟩
theorem pe_tupZip {X : Cx} {e e2 : Expr} {ta : TA} {p p2 pos pos2 : Pos} (calm : X.calm = true) (hg : Gl X "tuple") (hm : X.mg "tuple" = none) (hg2 : Gl X "zip") (hm2 : X.mg "zip" = none) (ha : PA X [e, e2] ta)
    (hs0 : starEach [.Call (.Name "zip" p2) [e, e2] [] pos2] X.env = [(false, eval (.Call (.Name "zip" p2) [e, e2] [] pos2) X.env)] := by rfl)
    (hs : starEach [e, e2] X.env = (false, eval e X.env) :: starEach [e2] X.env := by rfl) (hpl : (backTo pos2 (starEach [e2] X.env)).any (·.1) = false := by rfl) :
    PE X (.Call (.Name "tuple" p) [.Call (.Name "zip" p2) [e, e2] [] pos2] [] pos) (tTupZip X.K ta) := by
  refine ⟨fun pins s σ H Q I h => ?_⟩
  refine Call_ (ld_blt I hg hm PyProof.Rows.boot_tuple (PyProof.Rows.callWith_type1 ?_ hs0 rfl))
  rw [hs0]
  show wpAny _ _ (spliced ((false, eval (.Call (.Name "zip" p2) [e, e2] [] pos2) X.env) :: backTo pos [])) _ _ s
  refine Calls.spliced_cons (Call_ (ld_blt I hg2 hm2 PyProof.Rows.boot_zip (PyProof.Rows.callWith_type1 (thn (ha.run pos2 pins _ σ H _ (I.tok _) h) fun us s1 ⟨vs, H1, I1, r1, q1⟩ => ?_) hs hpl)))
  obtain ⟨a, b, xs, ys, ex, hqx, hqy, hl, q⟩ := q1
  subst ex
  cases r1 with
  | cons r rr =>
    cases rr with
    | cons r' rr =>
      cases rr
      cases r
      cases r'
      obtain ⟨its, rv, p1, _⟩ := I1.list hqx
      obtain ⟨its2, rv2, p2', _⟩ := I1.list hqy
      have la : a < s1.heap.objs.size := p1.lt
      have lb : b < s1.heap.objs.size := p2'.lt
      have l1 : its.toArray.size = xs.length := by rw [List.size_toArray]; exact rv.length.symm
      have l2 : its2.toArray.size = ys.length := by rw [List.size_toArray]; exact rv2.length.symm
      refine call_zip_2 p1.isList p2'.isList fun h' hz hTI hTO h1 h2 hsz hk => Calls.spliced_nil ?_
      have ml : min its.toArray.size its2.toArray.size = min xs.length ys.length := by rw [l1, l2]
      refine callType_new PySem.F.called_tuple (by decide) (PySem.F.typeCall_tuple_1 _) (PySem.F.newCall_tuple_1 _) (fun obj => PySem.F.args_object_init_2 obj _) PySem.F.entry_tuple_new
        (meets_tuple_zip _ _ _ _ _ a b its.toArray its2.toArray (PySem.W.ktu_apart s1.heap.objs.size a b la lb) (by rw [ml]; exact Nat.le_trans hl (by decide))) ⟨(I.ok.hd calm), hz, hTI, ⟨_, _, hTO⟩, h1, h2, p1.isList.at fun o e => hk _ o e, p2'.isList.at fun o e => hk _ o e, fun h2' Ts hk2 ac => ⟨⟨_, Heap.get?_push_size _ rfl, rfl⟩, ?_⟩⟩
      rw [ml] at ac
      have lt5 : ∀ {b : Addr} {o : Obj}, s1.heap.get? b = some o → b < s1.heap.objs.size := fun e => Heap.lt_size e
      have k1 : ∀ b o, s1.heap.get? b = some o → h2'.get? b = some o := fun b o e => by
        have l := lt5 e
        have l' : ∀ k, b ≠ s1.heap.objs.size + k := fun k => Nat.ne_of_lt (Nat.lt_of_lt_of_le l (Nat.le_add_right _ _))
        exact hk2 b o (l' 4) (l' 3) (l' 0) (l' 1) (hk b o e)
      have k2 : ∀ b o, s1.heap.get? b = some o → (h2'.push { cls := .type "tuple", data := .seq (Ts.map Value.ref).toArray }).get? b = some o := fun b o e => Heap.get?_push_of_some _ (k1 b o e)
      have geT : ∀ T ∈ Ts, s1.heap.objs.size ≤ T := fun T hT => Nat.le_trans (Nat.le_add_right _ 5) (hsz ▸ (ac.ap T hT).1)
      have fr : ∀ {b : Addr}, s1.heap.objs.size ≤ b → H1 b = none := fun l => I1.hok.fresh l
      have neA : ∀ {j k : Nat}, j ≠ k → s1.heap.objs.size + j ≠ s1.heap.objs.size + k := fun h z => h (Nat.add_left_cancel z)
      have szl : s1.heap.objs.size ≤ h2'.objs.size := Nat.le_trans (Nat.le_add_right _ 2) (Nat.le_of_lt (Heap.lt_size (hk2 _ _ (neA (j := 2) (k := 4) (by decide)) (neA (j := 2) (k := 3) (by decide)) (neA (j := 2) (k := 0) (by decide)) (neA (j := 2) (k := 1) (by decide)) hTI)))
      have npT : h2'.objs.size ∉ Ts := fun m => absurd (ac.ap _ m).2 (Nat.lt_irrefl _)
      have gp : (h2'.push { cls := .type "tuple", data := .seq (Ts.map Value.ref).toArray }).get? h2'.objs.size = some { cls := .type "tuple", data := .seq (Ts.map Value.ref).toArray } := Heap.get?_push_size _ rfl
      refine ⟨.ref h2'.objs.size, _, I1.un (t' := s1.toks) (H' := upd (updL H1 (prs Ts xs ys)) h2'.objs.size (.tup (Ts.map V.ref))) (h' := h2'.push { cls := .type "tuple", data := .seq (Ts.map Value.ref).toArray }) ?_ ?_, rfl, q Ts h2'.objs.size ac.len ac.nd npT (fun T hT => fr (geT T hT)) (fr szl)⟩
      · have nn : ∀ {b : Addr} {o : HO}, H1 b = some o → upd (updL H1 (prs Ts xs ys)) h2'.objs.size (.tup (Ts.map V.ref)) b = some o := fun {b o} e => by
          have n1 : b ≠ h2'.objs.size := fun z => by rw [z, fr szl] at e; cases e
          have n2 : b ∉ Ts := fun m => by rw [fr (geT b m)] at e; cases e
          rw [upd_ne n1]
          unfold updL
          rw [prs_none n2]
          exact e
        exact {
          keep := fun b o e _ _ _ => k2 b o e
          slot := fun b o e _ _ _ => ⟨o.slots, k2 b o e⟩
          free := fun b o e n _ => by
            have l := lt5 e
            rw [upd_ne (Nat.ne_of_lt (Nat.lt_of_lt_of_le l szl))]
            unfold updL
            rw [prs_none fun m => absurd l (Nat.not_lt.mpr (geT b m))]
            exact n
          there := fun b o e _ => ⟨o, k2 b o e⟩
          tups := fun b xs e => nn e
          frzs := fun b o v e => nn e
          tbls := fun b ps e => ⟨#[], by rw [nn e]; simp⟩ }
      · intro b o e
        have st : ∀ {o}, H1 b = some o → ObjOk X.prog X.w (upd (updL H1 (prs Ts xs ys)) h2'.objs.size (.tup (Ts.map V.ref))) (h2'.push { cls := .type "tuple", data := .seq (Ts.map Value.ref).toArray }) b o := fun {o} e => by
          have nn : ∀ {b : Addr} {o : HO}, H1 b = some o → upd (updL H1 (prs Ts xs ys)) h2'.objs.size (.tup (Ts.map V.ref)) b = some o := fun {b o} e => by
            have n1 : b ≠ h2'.objs.size := fun z => by rw [z, fr szl] at e; cases e
            have n2 : b ∉ Ts := fun m => by rw [fr (geT b m)] at e; cases e
            rw [upd_ne n1]
            unfold updL
            rw [prs_none n2]
            exact e
          exact (I1.hok b o e).stay (fun c v _ z => k2 c v z) (fun c z => nn z) fun c zs z => nn z
        by_cases zb : b = h2'.objs.size
        · subst zb
          rw [upd_same] at e
          cases e
          exact ⟨by rw [List.length_map, ac.len]; exact Nat.le_trans hl (by decide), Ts.map Value.ref, vals_refs Ts, _, gp, rfl, _, rfl⟩
        · rw [upd_ne zb] at e
          unfold updL at e
          cases hp : prs Ts xs ys b with
          | none => rw [hp] at e; exact st e
          | some o' =>
            rw [hp] at e
            have e' : o' = o := Option.some.inj e
            subst e'
            obtain ⟨j, x, y, e1, e2, e3, rfl⟩ := prs_get hp
            obtain ⟨xv, yv, f1, f2, f3⟩ := ac.it j b e1
            obtain ⟨u1, g1, g2⟩ := rv.get e2
            obtain ⟨u2, g3, g4⟩ := rv2.get e3
            have x1 : xv = u1 := by
              have : its[j]? = some xv := by simpa using f1
              rw [g1] at this; exact (Option.some.inj this).symm
            have x2 : yv = u2 := by
              have : its2[j]? = some yv := by simpa using f2
              rw [g3] at this; exact (Option.some.inj this).symm
            subst x1 x2
            exact ⟨by show 2 ≤ sizeLine; decide, [xv, yv], .cons g2 (.cons g4 .nil), _, Heap.get?_push_of_some _ f3, rfl, _, rfl⟩
theorem prs_rep {F : Hp} {Ts : List Addr} {p : Addr} {xs ys : List V} {ds es : List D} (nd : Ts.Nodup) (hp : p ∉ Ts) (hl : Ts.length = min xs.length ys.length) (r1 : Reps (upd (updL F (prs Ts xs ys)) p (.tup (Ts.map V.ref))) ds xs) (r2 : Reps (upd (updL F (prs Ts xs ys)) p (.tup (Ts.map V.ref))) es ys) :
    Rep (upd (updL F (prs Ts xs ys)) p (.tup (Ts.map V.ref))) (.tup (zpD ds es)) (.ref p) := by
  refine ⟨p, _, rfl, upd_same, ?_⟩
  refine Reps.of2 (by rw [zpD_len, List.length_map, hl, r1.length, r2.length]) fun i d v e1 e2 => ?_
  rw [List.getElem?_map] at e2
  cases eT : Ts[i]? with
  | none => rw [eT] at e2; cases e2
  | some T =>
    rw [eT] at e2
    cases e2
    have hi : i < Ts.length := (List.getElem?_eq_some_iff.mp eT).1
    have i1 : i < xs.length := by omega
    have i2 : i < ys.length := by omega
    have x1 := List.getElem?_eq_getElem i1
    have x2 := List.getElem?_eq_getElem i2
    obtain ⟨d1, h1, q1⟩ := r1.get' x1
    obtain ⟨d2, h2, q2⟩ := r2.get' x2
    rw [zpD_get h1 h2] at e1
    cases e1
    refine ⟨T, _, rfl, ?_, _, _, rfl, q1, _, _, rfl, q2, rfl⟩
    rw [upd_ne (show T ≠ p from fun z => hp (z ▸ List.mem_of_getElem? eT))]
    unfold updL
    rw [prs_at nd eT x1 x2]
    rfl
section
variable {K : PySem.W.Frag} {Γ : List En} {ds es : List D}
theorem ep_tupZip {ta : TA} (h : EaP ta Γ [.lst ds, .lst es]) (hl : min ds.length es.length ≤ 1000) : EvP (tTupZip K ta) Γ (.tup (zpD ds es)) := fun c F H σ G Q k => h c F H σ G _ fun vs F1 H1 S1 r1 => by
  obtain ⟨v, _, rfl, ⟨a, xs, rfl, ha, r⟩, v2, _, rfl, ⟨b, ys, rfl, hb, r2⟩, rfl⟩ := r1
  refine ⟨a, b, xs, ys, rfl, .inl (.inl (S1.fh _ _ ha)), .inl (.inl (S1.fh _ _ hb)), by rw [r.length, r2.length]; exact hl, fun Ts p l1 nd hp hT hpn => ?_⟩
  have nF : ∀ {b : Addr}, H1 b = none → F1 b = none := fun {b} e => by
    cases q : F1 b with
    | none => rfl
    | some o => rw [S1.fh _ _ q] at e; cases e
  have up : ∀ {G : Hp}, (∀ b, H1 b = none → G b = none) → Ex G (upd (updL G (prs Ts xs ys)) p (.tup (Ts.map V.ref))) := fun {G} hG b o e => by
    have n1 : b ≠ p := fun z => by subst z; rw [hG _ hpn] at e; cases e
    have n2 : b ∉ Ts := fun m => by rw [hG _ (hT b m)] at e; cases e
    rw [upd_ne n1]
    unfold updL
    rw [prs_none n2]
    exact e
  have x1 := up (G := F1) fun b e => nF e
  refine k _ (upd (updL F1 (prs Ts xs ys)) p (.tup (Ts.map V.ref))) _ (S1.trans ⟨x1, up fun b e => e, fun b o e => ?_, fun b e => ?_⟩) (prs_rep nd hp l1 (r.mono x1) (r2.mono x1))
  · by_cases zb : b = p
    · subst zb; rw [upd_same] at e ⊢; exact e
    · rw [upd_ne zb] at e ⊢
      unfold updL at e ⊢
      cases q : prs Ts xs ys b with
      | some o' => rw [q] at e; exact e
      | none => rw [q] at e; exact S1.fh _ _ e
  · by_cases zb : b = p
    · subst zb; exact .inr hpn
    · rw [upd_ne zb] at e
      unfold updL at e
      by_cases m : b ∈ Ts
      · exact .inr (hT b m)
      · rw [prs_none m] at e; exact .inl e
end
end DL
set_option Elab.async false
set_option linter.all false
set_option maxRecDepth 100000
set_option autoImplicit false
set_option maxHeartbeats 4000000
namespace DL
open PySem PySem.Spec PyProof.Rows L2
section
variable {c : Ct} {F F' H H' : Hp} {σ : L2.St} {Γ : List En} {K : PySem.W.Frag}
theorem Good.updS (G : Good c F H σ Γ) {s C dx : Addr} {fs : List (Str × V)} (f0 : F s = none) (h0 : c.H0 s = none) (hs : H s = some (.ins C dx fs)) (o : HO) : Good c F (upd H s o) σ Γ where
  ff := G.ff
  fh := fun a u e => by
    have n : a ≠ s := fun z => by subst z; rw [f0] at e; cases e
    rw [upd_ne n]; exact G.fh a u e
  hh := fun a u e l => by
    have n : a ≠ s := fun z => by subst z; rw [h0] at e; cases e
    rw [upd_ne n]; exact G.hh a u e l
  li := fun a l => by
    by_cases z : a = s
    · subst z; exact ⟨o, upd_same⟩
    · rw [upd_ne z]; exact G.li a l
  nw := G.nw
  len := G.len
  en := fun i e he => by
    obtain ⟨u, h1, h2⟩ := G.en i e he
    refine ⟨u, h1, ?_⟩
    have nl : ∀ {a : Addr} {xs : List V}, H a = some (.lst xs) → a ≠ s := fun {a xs} e z => by subst z; rw [hs] at e; cases e
    cases e with
    | un => trivial
    | sh d => exact h2
    | own ds =>
      obtain ⟨a, xs, e1, e2, e3, e4⟩ := h2
      exact ⟨a, xs, e1, e2, by rw [upd_ne (nl e3)]; exact e3, e4⟩
    | lent ds =>
      obtain ⟨a, xs, e1, e2, e3, e4⟩ := h2
      exact ⟨a, xs, e1, e2, by rw [upd_ne (nl e3)]; exact e3, e4⟩
  dj := G.dj
/-- inside __init__: the object s (slot 0) has the fields fs, its own heap cell loose -/
structure J (c : Ct) (s C dx : Addr) (F H : Hp) (σ : L2.St) (Γ : List En) (fs : List (Str × V)) : Prop where
  g : Good c F H σ Γ
  f0 : F s = none
  h0 : c.H0 s = none
  hs : H s = some (.ins C dx fs)
  sl : σ[0]? = some (some (.ref s))
theorem st_setF {s C dx : Addr} {fs : List (Str × V)} {te : TE} {d : D} {f : Str} {E : Ends} (j : J c s C dx F H σ Γ fs) (h : EvP te Γ d) (hc : Cls K C) (hn : NoAttr K C f) (hl : fs.length < 1000)
    (q : ∀ v F' H', J c s C dx F' H' σ Γ (putF f v fs) → Ex F F' → Rep F' d v → E.nx σ H') : sFld K (tVar 0) te f E σ H :=
  h c F H σ j.g _ fun v F1 H1 S r => ⟨_, j.sl, s, C, dx, fs, rfl, S.h _ _ j.hs, hc, hn, hl, by
    have f1 : F1 s = none := by
      cases e : F1 s with
      | none => rfl
      | some u =>
        rcases S.nw s (by rw [e]; exact Option.some_ne_none _) with z | z
        · exact absurd j.f0 z
        · rw [j.hs] at z; cases z
    exact q v F1 _ ⟨(j.g.step S).updS f1 j.h0 (S.h _ _ j.hs) _, f1, j.h0, upd_same, j.sl⟩ S.f r⟩
/-- data without objects of classes -/
inductive Pl : D → Prop where
  | non : Pl .non
  | int {i : Int} : Pl (.int i)
  | str {x : Str} : Pl (.str x)
  | tup {ds : List D} (h : ∀ d ∈ ds, Pl d) : Pl (.tup ds)
/-- F without the cell at s -/
def cutH (F : Hp) (s : Addr) : Hp := fun a => if a = s then none else F a
mutual
theorem Rep.cut {F : Hp} {s C dx : Addr} {fs : List (Str × V)} (e : F s = some (.ins C dx fs)) : ∀ {d : D} {v : V}, Pl d → Rep F d v → Rep (cutH F s) d v
  | .non, _, _, r => r
  | .int _, _, _, r => r
  | .str _, _, _, r => r
  | .tup ds, _, .tup h, ⟨a, xs, h1, h2, h3⟩ => ⟨a, xs, h1, by
      have n : a ≠ s := fun z => by subst z; rw [e] at h2; cases h2
      unfold cutH; rw [if_neg n]; exact h2, Reps.cut e h h3⟩
theorem Reps.cut {F : Hp} {s C dx : Addr} {fs : List (Str × V)} (e : F s = some (.ins C dx fs)) : ∀ {ds : List D} {xs : List V}, (∀ d ∈ ds, Pl d) → Reps F ds xs → Reps (cutH F s) ds xs
  | [], _, _, r => r
  | d :: ds, _, h, ⟨v, r, h1, h2, h3⟩ => ⟨v, r, h1, Rep.cut e (h d List.mem_cons_self) h2, Reps.cut e (fun x hx => h x (List.mem_cons_of_mem _ hx)) h3⟩
end
/-- self, as it stands now, read by other defs while its next field is made -/
theorem st_setFS {s C dx : Addr} {fs : List (Str × V)} {ds : List (Str × D)} {te : TE} {d : D} {f : Str} {E : Ends} (j : J c s C dx F H σ Γ fs) (h0 : Γ[0]? = some .un) (r0 : RepF F ds fs) (pl : Pl d) (h : EvP te (Γ.set 0 (.sh (.obj C ds))) d) (hc : Cls K C) (hn : NoAttr K C f) (hl : fs.length < 1000)
    (q : ∀ v F' H', J c s C dx F' H' σ Γ (putF f v fs) → Ex F F' → Rep F' d v → E.nx σ H') : sFld K (tVar 0) te f E σ H := by
  have x1 : Ex F (upd F s (.ins C dx fs)) := Ex.new j.f0
  have l0 : 0 < Γ.length := (List.getElem?_eq_some_iff.mp h0).1
  have G1 : Good c (upd F s (.ins C dx fs)) H σ (Γ.set 0 (.sh (.obj C ds))) := by
    refine ⟨j.g.ff.trans x1, fun a o e => ?_, j.g.hh, j.g.li, fun a e => ?_, by rw [List.length_set]; exact j.g.len, fun i e he => ?_, fun a b x e e' h1 h2 m1 m2 => ?_⟩
    · by_cases z : a = s
      · subst z; rw [upd_same] at e; cases e; exact j.hs
      · rw [upd_ne z] at e; exact j.g.fh a o e
    · by_cases z : a = s
      · subst z; exact .inr j.h0
      · rw [upd_ne z] at e; exact j.g.nw a e
    · by_cases z : 0 = i
      · subst z
        rw [List.getElem?_set_self l0] at he
        cases he
        exact ⟨_, j.sl, _, rfl, s, dx, fs, rfl, upd_same, r0.mono x1⟩
      · rw [List.getElem?_set_ne z] at he
        obtain ⟨u, u1, u2⟩ := j.g.en i e he
        refine ⟨u, u1, ?_⟩
        have nl : ∀ {a : Addr} {xs : List V}, H a = some (.lst xs) → a ≠ s := fun {a xs} hq z => by rw [z, j.hs] at hq; cases hq
        cases e with
        | un => trivial
        | sh d => obtain ⟨v, e1, r⟩ := u2; exact ⟨v, e1, r.mono x1⟩
        | own es => obtain ⟨a, xs, e1, e2, e3, e4, e5⟩ := u2; exact ⟨a, xs, e1, by rw [upd_ne (nl e3)]; exact e2, e3, e4.mono x1, e5⟩
        | lent es => obtain ⟨a, xs, e1, e2, e3, e4, e5⟩ := u2; exact ⟨a, xs, e1, by rw [upd_ne (nl e3)]; exact e2, e3, e4.mono x1, e5⟩
    · have ne : ∀ {i : Nat} {e : En}, (Γ.set 0 (.sh (.obj C ds)))[i]? = some e → e.mut = true → 0 ≠ i := fun {i e} he m z => by
        subst z
        rw [List.getElem?_set_self l0] at he
        cases he; cases m
      have za := ne h1 m1
      have zb := ne h2 m2
      rw [List.getElem?_set_ne za] at h1
      rw [List.getElem?_set_ne zb] at h2
      exact j.g.dj a b x e e' h1 h2 m1 m2
  refine h c _ H σ G1 _ fun v F1 H1 S r => ?_
  have es : F1 s = some (.ins C dx fs) := S.f _ _ upd_same
  have S2 : Stp F H (cutH F1 s) H1 := by
    refine ⟨fun a o e => ?_, S.h, fun a o e => ?_, fun a e => ?_⟩
    · have n : a ≠ s := fun z => by subst z; rw [j.f0] at e; cases e
      unfold cutH; rw [if_neg n]; exact S.f _ _ (x1 _ _ e)
    · unfold cutH at e
      by_cases z : a = s
      · rw [if_pos z] at e; cases e
      · rw [if_neg z] at e; exact S.fh _ _ e
    · unfold cutH at e
      by_cases z : a = s
      · rw [if_pos z] at e; exact absurd rfl e
      · rw [if_neg z] at e
        rcases S.nw a e with q | q
        · rw [upd_ne z] at q; exact .inl q
        · exact .inr q
  have f1 : cutH F1 s s = none := if_pos rfl
  exact ⟨_, j.sl, s, C, dx, fs, rfl, S2.h _ _ j.hs, hc, hn, hl, q v _ _ ⟨(j.g.step S2).updS f1 j.h0 (S2.h _ _ j.hs) _, f1, j.h0, upd_same, j.sl⟩ S2.f (r.cut es pl)⟩
abbrev CI := List D → D → Prop
/-- a promise of __init__: the object that is made is the data d -/
def spMk (C : Addr) (I : CI) : Sp := fun vs H Q _ => ∃ (F H0 : Hp) (s dx : Addr) (ws : List V) (args : List D) (d : D), vs = .ref s :: ws ∧ Ex F H0 ∧ (∀ a o, H0 a = some o → H a = some o) ∧ H0 s = none ∧ H s = some (.ins C dx []) ∧ Reps F args ws ∧ I args d ∧
  ∀ F' H', Stp F H0 F' H' → Rep F' d (.ref s) → Q .non H'
theorem ep_make {C : Addr} {I : CI} {ta : TA} {args : List D} {d : D} {E : XK} (ha : EaP ta Γ args) (hI : I args d) : EvP (tMake C (spMk C I) [] E ta) Γ d := fun c F H σ G Q k =>
  ha c F H σ G _ fun vs F1 H1 S1 r1 => fun x dx hx hdx hne => by
    rw [List.append_nil]
    refine ⟨F1, H1, x, dx, vs, args, d, rfl, S1.fh, fun a o e => ?_, hx, upd_same, r1, hI, fun F' H' S r => ⟨rfl, k (.ref x) F' H' (S1.trans S) r⟩⟩
    have n1 : a ≠ x := fun z => by subst z; rw [hx] at e; cases e
    have n2 : a ≠ dx := fun z => by subst z; rw [hdx] at e; cases e
    rw [upd_ne n1, upd_ne n2]; exact e
/-- the end of __init__ -/
theorem J.fin {s C dx : Addr} {fs : List (Str × V)} {H0 F0 : Hp} (j : J ⟨F0, H0, fun _ => none⟩ s C dx F H σ Γ fs) (x0 : Ex F0 H0) {ds : List (Str × D)} (r : RepF F ds fs) : Stp F0 H0 (upd F s (.ins C dx fs)) H ∧ Rep (upd F s (.ins C dx fs)) (.obj C ds) (.ref s) := by
  have x1 : Ex F (upd F s (.ins C dx fs)) := Ex.new j.f0
  refine ⟨⟨j.g.ff.trans x1, (fun a o e => j.g.hh a o e fun ⟨_, z⟩ => nomatch z), fun a o e => ?_, fun a e => ?_⟩, s, dx, fs, rfl, upd_same, r.mono x1⟩
  · by_cases z : a = s
    · subst z; rw [upd_same] at e; cases e; exact j.hs
    · rw [upd_ne z] at e; exact j.g.fh a o e
  · by_cases z : a = s
    · subst z; exact .inr j.h0
    · rw [upd_ne z] at e; exact j.g.nw a e
theorem Reps.of : ∀ {ds : List D} {xs : List V}, ds.length = xs.length → (∀ (i : Nat) (d : D) (v : V), ds[i]? = some d → xs[i]? = some v → Rep F d v) → Reps F ds xs
  | [], [], _, _ => rfl
  | [], _ :: _, h, _ => by simp at h
  | _ :: _, [], h, _ => by simp at h
  | d :: ds, v :: xs, h, k => ⟨v, xs, rfl, k 0 d v rfl rfl, Reps.of (by simpa using h) fun i d' v' e1 e2 => k (i + 1) d' v' (by simpa using e1) (by simpa using e2)⟩
end
end DL
namespace Lw
open PySem PySem.Spec PyProof.Rows L2 DL
def nD : Option Str → D
  | none => .non
  | some s => .str s
theorem nD_rep (F : Hp) (x : Option Str) : Rep F (nD x) (nV x) := by cases x <;> exact rfl
def iD (l : List Nat) : List D := l.map fun n => D.int (n : Nat)
def rdD (C : Addr) (r : RS) : D := .obj C [("signs", .str (SX.S r.cs)), ("at", .int (r.at_ : Nat)), ("kinds", .lst (r.kinds.map D.str)), ("parents", .lst (r.parents.map D.int)), ("names", .lst (r.names.map nD)), ("children", .lst (r.children.map fun l => .lst (iD l))), ("begins", .lst (iD r.begins)), ("ends", .lst (iD r.ends))]
theorem nats_rep (F : Hp) : ∀ l : List Nat, Reps F (iD l) (l.map nI)
  | [] => rfl
  | n :: l => ⟨_, _, rfl, rfl, nats_rep F l⟩
theorem RdC.rep {c : RC} {H0 H F : Hp} {r : RS} {ca : List Addr} (h : RdC c H0 H r ca) (hF : ∀ a ∈ c.foot ca, F a = H a) : Rep F (rdD c.C r) (.ref c.p) := by
  refine ⟨c.p, c.dx, c.fs r, rfl, by rw [hF _ (by simp [RC.foot])]; exact h.ins, _, _, rfl, rfl, _, _, rfl, rfl, _, _, rfl, ⟨c.kA, _, rfl, by rw [hF _ (by simp [RC.foot])]; exact h.kk, Reps.strs _⟩, _, _, rfl, ⟨c.pA, _, rfl, by rw [hF _ (by simp [RC.foot])]; exact h.pp, Reps.ints _⟩, _, _, rfl, ⟨c.nA, _, rfl, by rw [hF _ (by simp [RC.foot])]; exact h.nn, ?_⟩, _, _, rfl, ⟨c.cA, _, rfl, by rw [hF _ (by simp [RC.foot])]; exact h.cc, ?_⟩, _, _, rfl, ⟨c.bA, _, rfl, by rw [hF _ (by simp [RC.foot])]; exact h.bb, nats_rep F _⟩, _, _, rfl, ⟨c.eA, _, rfl, by rw [hF _ (by simp [RC.foot])]; exact h.ee, nats_rep F _⟩, rfl⟩
  · refine Reps.of (by simp) fun i d v e1 e2 => ?_
    rw [List.getElem?_map] at e1 e2
    cases e : r.names[i]? with
    | none => rw [e] at e1; cases e1
    | some x => rw [e] at e1 e2; cases e1; cases e2; exact nD_rep F x
  · refine Reps.of (by simp [h.cl]) fun i d v e1 e2 => ?_
    rw [List.getElem?_map] at e1 e2
    cases e : r.children[i]? with
    | none => rw [e] at e1; cases e1
    | some l =>
      cases e' : ca[i]? with
      | none => rw [e'] at e2; cases e2
      | some a =>
        rw [e] at e1; rw [e'] at e2; cases e1; cases e2
        refine ⟨a, l.map nI, rfl, by rw [hF _ (by simp [RC.foot, List.mem_of_getElem? e'])]; exact h.ch i a l e' e, ?_⟩
        refine Reps.of (by simp [iD]) fun j d v f1 f2 => ?_
        unfold iD at f1
        rw [List.getElem?_map] at f1 f2
        cases q : l[j]? with
        | none => rw [q] at f1; cases f1
        | some n => rw [q] at f1 f2; cases f1; cases f2; exact rfl
def lvN (ks : List Str) : List Nat := (List.range ks.length).filter fun i => decide (ks.getD i "" = ("value" : Str))
/-- the leaves at or below node i -/
def lfN (t : Tr) (i : Nat) : List Nat := (List.range (lvN (kd t)).length).filter fun l => decide (i ∈ an t 0 ((lvN (kd t)).getD l 0))
/-- the lists above node i, itself included -/
def lsN (t : Tr) (i : Nat) : List Nat := (opl (kd t) (an t 0 i)).filter fun x => decide ((kd t).getD x "" = ("list" : Str))
def lfD (t : Tr) : D := .tup ((List.range (sz t)).map fun i => .tup (iD (lfN t i)))
def kcD (t : Tr) : D := .tup ((List.range (sz t)).map fun i => .tup [.int ((opl (kd t) (an t 0 i)).length : Nat), .int ((lsN t i).length : Nat)])
/-- where each node begins and ends -/
def spD (t : Tr) : D := .tup (zpD (iD (bg t 0)) (iD (en t 0)))
/-- the schema of a tree with its first seven fields, and more -/
def schP (CS : Addr) (t : Tr) (more : List (Str × D)) : D := .obj CS (("_text", .str (SX.S (tx t))) :: ("node_kinds", .tup ((kd t).map D.str)) :: ("parents", .tup ((pa t 0 (-1)).map D.int)) :: ("names", .tup ((nm t none).map nD)) :: ("children", .tup ((ch t 0).map fun l => .tup (iD l))) :: ("spans", spD t) :: ("nodes_of_leaves", tzD (iD (lvN (kd t)))) :: more)
/-- the schema of a tree -/
def schD (CS : Addr) (t : Tr) : D := schP CS t [("leaves_of_nodes", lfD t), ("levels", kcD t)]
def C_sch (CS : Addr) : CI := fun args d => ∃ t, args = [.str (SX.S (tx t))] ∧ Lim t ∧ d = schD CS t
end Lw
set_option Elab.async false
set_option linter.all false
set_option maxRecDepth 100000
set_option autoImplicit false
set_option maxHeartbeats 4000000
/-! P2a: the nodes of the leaves. -/
namespace Lw
open PySem PySem.Spec PyProof.Rows L2 DL
theorem lvN_append (a b : List Str) : lvN (a ++ b) = lvN a ++ (lvN b).map (a.length + ·) := by
  unfold lvN
  rw [List.length_append, List.range_add, List.filter_append, List.filter_map]
  congr 1
  · refine List.filter_congr fun i hi => ?_
    have h := List.mem_range.mp hi
    rw [List.getD_eq_getElem?_getD, List.getD_eq_getElem?_getD, List.getElem?_append_left h]
  · congr 1
    refine List.filter_congr fun i hi => ?_
    show decide ((a ++ b).getD (a.length + i) "" = ("value" : Str)) = _
    rw [List.getD_eq_getElem?_getD, List.getD_eq_getElem?_getD, List.getElem?_append_right (by omega), Nat.add_sub_cancel_left]
theorem lvN_cons {k : Str} (h : k ≠ "value") (ks : List Str) : lvN (k :: ks) = (lvN ks).map (1 + ·) := by
  have e : lvN [k] = [] := by
    unfold lvN
    simp [h]
  have := lvN_append [k] ks
  rw [e, List.nil_append] at this
  exact this
theorem lvN_bound {ks : List Str} {x : Nat} (h : x ∈ lvN ks) : x < ks.length := by
  unfold lvN at h
  exact List.mem_range.mp (List.mem_filter.mp h).1
theorem lvN_count : ∀ ks : List Str, (lvN ks).length = ks.count ("value" : Str)
  | [] => rfl
  | k :: ks => by
    have h := lvN_append [k] ks
    rw [List.singleton_append] at h
    rw [h, List.length_append, List.length_map, lvN_count ks, List.count_cons]
    have e : (lvN [k]).length = if (k == ("value" : Str)) = true then 1 else 0 := by
      by_cases z : k = "value"
      · subst z; decide
      · have z' : (k == ("value" : Str)) = false := beq_eq_false_iff_ne.mpr z
        rw [z', if_neg Bool.false_ne_true]
        unfold lvN
        show ((List.range 1).filter _).length = 0
        rw [show List.range 1 = [0] from rfl, List.filter_cons_of_neg]
        · rfl
        · show ¬ decide (([k] : List Str).getD 0 "" = "value") = true
          rw [decide_eq_true_eq]
          exact z
    rw [e]; omega
theorem lvN_len (t : Tr) : (lvN (kd t)).length = lv t := by
  rw [lvN_count]
  exact kd_vals t
end Lw
set_option Elab.async false
set_option linter.all false
set_option maxRecDepth 100000
set_option autoImplicit false
set_option maxHeartbeats 4000000
/-! E4g: a list of a slot whose items are lists that are changed in place: made, read, changed, forgotten. -/
namespace DL
open PySem PySem.Spec PyProof.Rows L2
section
variable {K : PySem.W.Frag} {Γ : List En} {i : Nat} {dss : List (List D)}
/-- every item a new list, loose as yet -/
def EaF (ta : TA) (Γ : List En) (dss : List (List D)) : Prop := ∀ c F H σ, Good c F H σ Γ → ∀ Q : List V → Hp → Prop,
  (∀ (as : List Addr) F' H', Stp F H F' H' → as.Nodup → (∀ a ∈ as, H a = none ∧ F' a = none) → as.length = dss.length → (∀ (j : Nat) (a : Addr) (ds : List D), as[j]? = some a → dss[j]? = some ds → ∃ xs, H' a = some (.lst xs) ∧ Reps F' ds xs) → Q (as.map V.ref) H') → ta σ H Q
theorem eaF_nil : EaF tNil Γ [] := fun c F H σ G Q k => k [] F H (.refl G.fh) .nil (fun a h => nomatch h) rfl fun j a ds h => by simp at h
theorem loose_of {F H F' H' : Hp} (S : Stp F H F' H') {a : Addr} {o : HO} (h : F a = none) (hH : H a = some o) : F' a = none := by
  cases e : F' a with
  | none => rfl
  | some u =>
    rcases S.nw a (by rw [e]; exact Option.some_ne_none _) with z | z
    · exact absurd h z
    · rw [hH] at z; cases z
theorem eaF_cons {te : TE} {tr : TA} {ds : List D} (he : EvF te Γ ds) (hr : EaF tr Γ dss) : EaF (tCons te tr) Γ (ds :: dss) := fun c F H σ G Q k => he c F H σ G _ fun p xs F1 H1 S1 n1 f1 h1 r1 => hr c F1 H1 σ (G.step S1) _ fun as F2 H2 S2 nd nw ln el => by
  have pn : p ∉ as := fun m => by have := (nw p m).1; rw [h1] at this; cases this
  refine k (p :: as) F2 H2 (S1.trans S2) (List.nodup_cons.mpr ⟨pn, nd⟩) (fun a m => ?_) (by simp [ln]) fun j a es e1 e2 => ?_
  · rcases List.mem_cons.mp m with z | z
    · subst z; exact ⟨n1, loose_of S2 f1 h1⟩
    · refine ⟨?_, (nw a z).2⟩
      cases q : H a with
      | none => rfl
      | some o => have := (nw a z).1; rw [S1.h _ _ q] at this; cases this
  · match j, e1, e2 with
    | 0, e1, e2 => cases e1; cases e2; exact ⟨xs, S2.h _ _ h1, r1.mono S2.f⟩
    | j + 1, e1, e2 => exact el j a es (by simpa using e1) (by simpa using e2)
/-- slot i holds a loose list of loose lists -/
structure Nst (c : Ct) (F H : Hp) (σ : L2.St) (Γ : List En) (i : Nat) (p : Addr) (as : List Addr) (dss : List (List D)) : Prop where
  g : Good c F H σ Γ
  gi : Γ[i]? = some .un
  si : σ[i]? = some (some (.ref p))
  hp : H p = some (.lst (as.map V.ref))
  nd : (p :: as).Nodup
  lo : ∀ a ∈ p :: as, F a = none ∧ c.H0 a = none ∧ NoSlot σ Γ a
  ln : as.length = dss.length
  el : ∀ (j : Nat) (a : Addr) (ds : List D), as[j]? = some a → dss[j]? = some ds → ∃ xs, H a = some (.lst xs) ∧ Reps F ds xs
theorem Nst.cell {c : Ct} {F H : Hp} {σ : L2.St} {p : Addr} {as : List Addr} (N : Nst c F H σ Γ i p as dss) {a : Addr} (m : a ∈ p :: as) : ∃ xs, H a = some (.lst xs) := by
  rcases List.mem_cons.mp m with z | z
  · subst z; exact ⟨_, N.hp⟩
  · obtain ⟨j, hj, e⟩ := List.getElem_of_mem z
    have hj' : j < dss.length := by rw [← N.ln]; exact hj
    obtain ⟨xs, h, _⟩ := N.el j a (dss[j]'hj') (by rw [List.getElem?_eq_getElem hj, e]) (List.getElem?_eq_getElem hj')
    exact ⟨xs, h⟩
theorem Nst.step {c : Ct} {F H F' H' : Hp} {σ : L2.St} {p : Addr} {as : List Addr} (N : Nst c F H σ Γ i p as dss) (S : Stp F H F' H') : Nst c F' H' σ Γ i p as dss where
  g := N.g.step S
  gi := N.gi
  si := N.si
  hp := S.h _ _ N.hp
  nd := N.nd
  lo := fun a m => by
    obtain ⟨xs, h⟩ := N.cell m
    exact ⟨loose_of S (N.lo a m).1 h, (N.lo a m).2⟩
  ln := N.ln
  el := fun j a ds e1 e2 => by
    obtain ⟨xs, h1, h2⟩ := N.el j a ds e1 e2
    exact ⟨xs, S.h _ _ h1, h2.mono S.f⟩
/-- what is done while slot i holds such a list -/
def SN (t : TS) (Γ : List En) (i : Nat) (dss dss' : List (List D)) : Prop := ∀ c F H σ p as, Nst c F H σ Γ i p as dss → ∀ D : Ends, (∀ F' H', Nst c F' H' σ Γ i p as dss' → Ex F F' → D.nx σ H') → t D σ H
theorem sn_seq {t u : TS} {d1 d2 d3 : List (List D)} (h1 : SN t Γ i d1 d2) (h2 : SN u Γ i d2 d3) : SN (tSeq t u) Γ i d1 d3 := fun c F H σ p as N Z k => h1 c F H σ p as N _ fun F1 H1 N1 x1 => h2 c F1 H1 σ p as N1 Z fun F2 H2 N2 x2 => k F2 H2 N2 (x1.trans x2)
/-- a test that fails, the list not read -/
theorem sn_if {tt : TT} {t : TS} (h : EtP tt Γ false) : SN (tIfS tt t tNext) Γ i dss dss := fun c F H σ p as N Z k => h c F H σ N.g _ fun F1 H1 S => by
  rw [if_neg Bool.false_ne_true]
  exact k F1 H1 (N.step S) S.f
/-- the list frozen with its items -/
theorem Nst.view {c : Ct} {F H : Hp} {σ : L2.St} {p : Addr} {as : List Addr} (N : Nst c F H σ Γ i p as dss) : ∃ P : Hp, Good c P H σ (Γ.set i (.sh (.lst (dss.map D.lst)))) ∧ Ex F P := by
  obtain ⟨P, hP⟩ : ∃ P : Hp, ∀ a, P a = if a ∈ p :: as then H a else F a := ⟨_, fun _ => rfl⟩
  have Pin : ∀ {a}, a ∈ p :: as → P a = H a := fun {a} m => by rw [hP, if_pos m]
  have Pout : ∀ {a}, a ∉ p :: as → P a = F a := fun {a} m => by rw [hP, if_neg m]
  have out : ∀ {a o}, F a = some o → a ∉ p :: as := fun {a o} e m => by rw [(N.lo a m).1] at e; cases e
  have x1 : Ex F P := fun a o e => by rw [Pout (out e)]; exact e
  have xH : Ex P H := fun a o e => by
    by_cases m : a ∈ p :: as
    · rw [Pin m] at e; exact e
    · rw [Pout m] at e; exact N.g.fh a o e
  have li : i < Γ.length := (List.getElem?_eq_some_iff.mp N.gi).1
  have rp : Rep P (.lst (dss.map D.lst)) (.ref p) := by
    refine ⟨p, as.map V.ref, rfl, by rw [Pin List.mem_cons_self]; exact N.hp, Reps.of (by simp [N.ln]) fun j d v e1 e2 => ?_⟩
    rw [List.getElem?_map] at e1 e2
    cases q1 : dss[j]? with
    | none => rw [q1] at e1; cases e1
    | some ds =>
      cases q2 : as[j]? with
      | none => rw [q2] at e2; cases e2
      | some a =>
        rw [q1] at e1; rw [q2] at e2; cases e1; cases e2
        obtain ⟨xs, h1, h2⟩ := N.el j a ds q2 q1
        exact ⟨a, xs, rfl, by rw [Pin (List.mem_cons_of_mem _ (List.mem_of_getElem? q2))]; exact h1, h2.mono x1⟩
  have G1 : Good c P H σ (Γ.set i (.sh (.lst (dss.map D.lst)))) := by
    refine ⟨N.g.ff.trans x1, xH, N.g.hh, N.g.li, fun a e => ?_, by rw [List.length_set]; exact N.g.len, fun j e he => ?_, fun a b x e e' h1 h2 m1 m2 => ?_⟩
    · by_cases m : a ∈ p :: as
      · exact .inr (N.lo a m).2.1
      · rw [Pout m] at e; exact N.g.nw a e
    · by_cases z : i = j
      · subst z
        rw [List.getElem?_set_self li] at he
        cases he
        exact ⟨_, N.si, _, rfl, rp⟩
      · rw [List.getElem?_set_ne z] at he
        obtain ⟨u, u1, u2⟩ := N.g.en j e he
        refine ⟨u, u1, ?_⟩
        have no : ∀ {a}, u = some (.ref a) → e.mut = true → a ∉ p :: as := fun {a} hu me m => (N.lo a m).2.2 j e he me (by rw [u1, hu])
        cases e with
        | un => trivial
        | sh d => obtain ⟨v, e1, r⟩ := u2; exact ⟨v, e1, r.mono x1⟩
        | own es => obtain ⟨a, xs, e1, e2, e3, e4, e5⟩ := u2; exact ⟨a, xs, e1, by rw [Pout (no e1 rfl)]; exact e2, e3, e4.mono x1, e5⟩
        | lent es => obtain ⟨a, xs, e1, e2, e3, e4, e5⟩ := u2; exact ⟨a, xs, e1, by rw [Pout (no e1 rfl)]; exact e2, e3, e4.mono x1, e5⟩
    · have ne : ∀ {j : Nat} {e : En}, (Γ.set i (.sh (.lst (dss.map D.lst))))[j]? = some e → e.mut = true → i ≠ j := fun {j e} he m z => by
        subst z
        rw [List.getElem?_set_self li] at he
        cases he; cases m
      have za := ne h1 m1
      have zb := ne h2 m2
      rw [List.getElem?_set_ne za] at h1
      rw [List.getElem?_set_ne zb] at h2
      exact N.g.dj a b x e e' h1 h2 m1 m2
  exact ⟨P, G1, x1⟩
/-- a test that fails, the list read as it stands -/
theorem sn_ifN {tt : TT} {t : TS} (h : EtP tt (Γ.set i (.sh (.lst (dss.map D.lst)))) false) : SN (tIfS tt t tNext) Γ i dss dss := fun c F H σ p as N Z k => by
  obtain ⟨P, hP⟩ : ∃ P : Hp, ∀ a, P a = if a ∈ p :: as then H a else F a := ⟨_, fun _ => rfl⟩
  have Pin : ∀ {a}, a ∈ p :: as → P a = H a := fun {a} m => by rw [hP, if_pos m]
  have Pout : ∀ {a}, a ∉ p :: as → P a = F a := fun {a} m => by rw [hP, if_neg m]
  have out : ∀ {a o}, F a = some o → a ∉ p :: as := fun {a o} e m => by rw [(N.lo a m).1] at e; cases e
  have x1 : Ex F P := fun a o e => by rw [Pout (out e)]; exact e
  have xH : Ex P H := fun a o e => by
    by_cases m : a ∈ p :: as
    · rw [Pin m] at e; exact e
    · rw [Pout m] at e; exact N.g.fh a o e
  have li : i < Γ.length := (List.getElem?_eq_some_iff.mp N.gi).1
  have rp : Rep P (.lst (dss.map D.lst)) (.ref p) := by
    refine ⟨p, as.map V.ref, rfl, by rw [Pin List.mem_cons_self]; exact N.hp, Reps.of (by simp [N.ln]) fun j d v e1 e2 => ?_⟩
    rw [List.getElem?_map] at e1 e2
    cases q1 : dss[j]? with
    | none => rw [q1] at e1; cases e1
    | some ds =>
      cases q2 : as[j]? with
      | none => rw [q2] at e2; cases e2
      | some a =>
        rw [q1] at e1; rw [q2] at e2; cases e1; cases e2
        obtain ⟨xs, h1, h2⟩ := N.el j a ds q2 q1
        exact ⟨a, xs, rfl, by rw [Pin (List.mem_cons_of_mem _ (List.mem_of_getElem? q2))]; exact h1, h2.mono x1⟩
  have G1 : Good c P H σ (Γ.set i (.sh (.lst (dss.map D.lst)))) := by
    refine ⟨N.g.ff.trans x1, xH, N.g.hh, N.g.li, fun a e => ?_, by rw [List.length_set]; exact N.g.len, fun j e he => ?_, fun a b x e e' h1 h2 m1 m2 => ?_⟩
    · by_cases m : a ∈ p :: as
      · exact .inr (N.lo a m).2.1
      · rw [Pout m] at e; exact N.g.nw a e
    · by_cases z : i = j
      · subst z
        rw [List.getElem?_set_self li] at he
        cases he
        exact ⟨_, N.si, _, rfl, rp⟩
      · rw [List.getElem?_set_ne z] at he
        obtain ⟨u, u1, u2⟩ := N.g.en j e he
        refine ⟨u, u1, ?_⟩
        have no : ∀ {a}, u = some (.ref a) → e.mut = true → a ∉ p :: as := fun {a} hu me m => (N.lo a m).2.2 j e he me (by rw [u1, hu])
        cases e with
        | un => trivial
        | sh d => obtain ⟨v, e1, r⟩ := u2; exact ⟨v, e1, r.mono x1⟩
        | own es => obtain ⟨a, xs, e1, e2, e3, e4, e5⟩ := u2; exact ⟨a, xs, e1, by rw [Pout (no e1 rfl)]; exact e2, e3, e4.mono x1, e5⟩
        | lent es => obtain ⟨a, xs, e1, e2, e3, e4, e5⟩ := u2; exact ⟨a, xs, e1, by rw [Pout (no e1 rfl)]; exact e2, e3, e4.mono x1, e5⟩
    · have ne : ∀ {j : Nat} {e : En}, (Γ.set i (.sh (.lst (dss.map D.lst))))[j]? = some e → e.mut = true → i ≠ j := fun {j e} he m z => by
        subst z
        rw [List.getElem?_set_self li] at he
        cases he; cases m
      have za := ne h1 m1
      have zb := ne h2 m2
      rw [List.getElem?_set_ne za] at h1
      rw [List.getElem?_set_ne zb] at h2
      exact N.g.dj a b x e e' h1 h2 m1 m2
  refine h c P H σ G1 _ fun F1 H1 S => ?_
  rw [if_neg Bool.false_ne_true]
  obtain ⟨B, hB⟩ : ∃ B : Hp, ∀ a, B a = if a ∈ p :: as then none else F1 a := ⟨_, fun _ => rfl⟩
  have S2 : Stp F H B H1 := by
    refine ⟨fun a o e => ?_, S.h, fun a o e => ?_, fun a e => ?_⟩
    · rw [hB, if_neg (out e)]; exact S.f _ _ (x1 _ _ e)
    · rw [hB] at e
      by_cases m : a ∈ p :: as
      · rw [if_pos m] at e; cases e
      · rw [if_neg m] at e; exact S.fh _ _ e
    · rw [hB] at e
      by_cases m : a ∈ p :: as
      · rw [if_pos m] at e; exact absurd rfl e
      · rw [if_neg m] at e
        rcases S.nw a e with z | z
        · rw [Pout m] at z; exact .inl z
        · exact .inr z
  exact k B H1 (N.step S2) S2.f
/-- an item of the list is changed -/
theorem Nst.put {c : Ct} {F H : Hp} {σ : L2.St} {p : Addr} {as : List Addr} (N : Nst c F H σ Γ i p as dss) {j : Nat} {a : Addr} {xs : List V} {es : List D} (ha : as[j]? = some a) (r : Reps F es xs) : Nst c F (upd H a (.lst xs)) σ Γ i p as (dss.set j es) := by
  have m : a ∈ p :: as := List.mem_cons_of_mem _ (List.mem_of_getElem? ha)
  have pa : p ≠ a := fun z => (List.nodup_cons.mp N.nd).1 (z ▸ List.mem_of_getElem? ha)
  obtain ⟨l1, l2, l3⟩ := N.lo a m
  refine ⟨⟨N.g.ff, fun b o e => ?_, fun b o e l => ?_, fun b l => ?_, N.g.nw, N.g.len, fun q e he => ?_, N.g.dj⟩, N.gi, N.si, by rw [upd_ne pa]; exact N.hp, N.nd, N.lo, by rw [List.length_set]; exact N.ln, fun q b ds e1 e2 => ?_⟩
  · have n : b ≠ a := fun z => by subst z; rw [l1] at e; cases e
    rw [upd_ne n]; exact N.g.fh b o e
  · have n : b ≠ a := fun z => by subst z; rw [l2] at e; cases e
    rw [upd_ne n]; exact N.g.hh b o e l
  · by_cases z : b = a
    · subst z; exact ⟨_, upd_same⟩
    · rw [upd_ne z]; exact N.g.li b l
  · obtain ⟨u, u1, u2⟩ := N.g.en q e he
    refine ⟨u, u1, ?_⟩
    have no : ∀ {b}, u = some (.ref b) → e.mut = true → b ≠ a := fun {b} hu me z => l3 q e he me (by rw [u1, hu, z])
    cases e with
    | un => trivial
    | sh d => exact u2
    | own es => obtain ⟨b, xs, e1, e2, e3, e4⟩ := u2; exact ⟨b, xs, e1, e2, by rw [upd_ne (no e1 rfl)]; exact e3, e4⟩
    | lent es => obtain ⟨b, xs, e1, e2, e3, e4⟩ := u2; exact ⟨b, xs, e1, e2, by rw [upd_ne (no e1 rfl)]; exact e3, e4⟩
  · by_cases z : j = q
    · subst z
      rw [ha] at e1; cases e1
      have hl : j < dss.length := by rw [← N.ln]; exact (List.getElem?_eq_some_iff.mp ha).1
      rw [List.getElem?_set_self hl] at e2
      cases e2
      exact ⟨xs, upd_same, r⟩
    · rw [List.getElem?_set_ne z] at e2
      obtain ⟨ys, h1, h2⟩ := N.el q b ds e1 e2
      have n : b ≠ a := fun w => by
        subst w
        have nd2 := (List.nodup_cons.mp N.nd).2
        exact z ((List.getElem?_inj (List.getElem?_eq_some_iff.mp ha).1 nd2).mp (by rw [ha, e1]))
      exact ⟨ys, by rw [upd_ne n]; exact h1, h2⟩
/-- x[j].append(e) -/
theorem sn_app {j : Nat} {tn te : TE} {d : D} {ds : List D} (hn : EvP tn Γ (.int j)) (hd : dss[j]? = some ds) (he : EvP te Γ d) (hl : ds.length < sizeLine) : SN (tDrop (tBM K "list" rAppend (tOp (rIxL K) (tVar i) tn) (tCons te tNil))) Γ i dss (dss.set j (ds ++ [d])) := fun c F H σ p as N Z k => by
  refine ⟨_, N.si, hn c F H σ N.g _ fun v F1 H1 S1 r1 => ?_⟩
  have N1 := N.step S1
  have e1 : v = .int j := r1
  subst e1
  have hj : j < as.length := by rw [N.ln]; exact (List.getElem?_eq_some_iff.mp hd).1
  have ja : as[j]? = some as[j] := List.getElem?_eq_getElem hj
  obtain ⟨xs, x1, x2⟩ := N1.el j _ ds ja hd
  refine ⟨p, as.map V.ref, j, .ref as[j], rfl, rfl, .inl (.inl N1.hp), atI_nat (by rw [List.getElem?_map, ja]; rfl), .inl ⟨rfl, _, SqL.of x1⟩, he c F1 H1 σ N1.g _ fun u F2 H2 S2 r2 => ?_⟩
  have N2 := N1.step S2
  obtain ⟨ys, y1, y2⟩ := N2.el j _ ds ja hd
  exact ⟨_, ys, u, rfl, rfl, y1, by rw [y2.length]; exact hl, k F2 _ (N2.put ja (y2.append (.one r2))) (S1.f.trans S2.f)⟩
/-- x[j].clear() -/
theorem sn_clr {j : Nat} {tn : TE} {ds : List D} (hn : EvP tn Γ (.int j)) (hd : dss[j]? = some ds) : SN (tDrop (tBM0 K "list" rClear (tOp (rIxL K) (tVar i) tn))) Γ i dss (dss.set j []) := fun c F H σ p as N Z k => by
  refine ⟨_, N.si, hn c F H σ N.g _ fun v F1 H1 S1 r1 => ?_⟩
  have N1 := N.step S1
  have e1 : v = .int j := r1
  subst e1
  have hj : j < as.length := by rw [N.ln]; exact (List.getElem?_eq_some_iff.mp hd).1
  have ja : as[j]? = some as[j] := List.getElem?_eq_getElem hj
  obtain ⟨xs, x1, x2⟩ := N1.el j _ ds ja hd
  exact ⟨p, as.map V.ref, j, .ref as[j], rfl, rfl, .inl (.inl N1.hp), atI_nat (by rw [List.getElem?_map, ja]; rfl), .inl ⟨rfl, _, SqL.of x1⟩, _, xs, rfl, rfl, x1, k F1 _ (N1.put ja (show Reps F1 [] [] from rfl)) S1.f⟩
/-- x = [e, ..] of new lists; what follows; the list is then forgotten -/
theorem sw_nest {ta : TA} {t : TS} {P : Po} {dss' : List (List D)} (ha : EaF ta Γ dss) (hi : i < Γ.length) (hz : dss.length ≤ sizeLine) (ht : SN t (Γ.set i .un) i dss dss') (hn : P.nx (Γ.set i .un)) : SW (tSeq (tAsg (tLst ta) (gName i)) t) Γ P := fun c F H σ G Z a b e f =>
  ha c F H σ G _ fun as F1 H1 S1 nd nw ln el => ⟨by rw [List.length_map, ln]; exact hz, fun p hp => by
    have Gs := (G.step S1)
    have S2 : Stp F1 H1 F1 (upd H1 p (.lst (as.map V.ref))) := .loose Gs.fh _ hp
    have F1p : F1 p = none := by
      cases q : F1 p with
      | none => rfl
      | some o => rw [Gs.fh _ _ q] at hp; cases hp
    have Hp0 : H p = none := by
      cases q : H p with
      | none => rfl
      | some o => rw [S1.h _ _ q] at hp; cases hp
    have hi' : i < σ.length := by rw [G.len]; exact hi
    have ns : ∀ x, H x = none → NoSlot (σ.set i (some (.ref p))) (Γ.set i .un) x := fun x hx j e he m q => by
      by_cases z : i = j
      · subst z
        rw [List.getElem?_set_self hi] at he
        cases he; cases m
      · rw [List.getElem?_set_ne z] at he q
        exact G.noSlot hx j e he m q
    have N : Nst c F1 (upd H1 p (.lst (as.map V.ref))) (σ.set i (some (.ref p))) (Γ.set i .un) i p as dss := by
      refine ⟨(Gs.step S2).setUn, List.getElem?_set_self hi, List.getElem?_set_self hi', upd_same, List.nodup_cons.mpr ⟨fun m => ?_, nd⟩, fun x m => ?_, ln, fun j x ds e1 e2 => ?_⟩
      · obtain ⟨j, hj, q⟩ := List.getElem_of_mem m
        have hj' : j < dss.length := by rw [← ln]; exact hj
        obtain ⟨xs, h1, _⟩ := el j p (dss[j]'hj') (by rw [List.getElem?_eq_getElem hj, q]) (List.getElem?_eq_getElem hj')
        rw [hp] at h1; cases h1
      · rcases List.mem_cons.mp m with z | z
        · subst z; exact ⟨F1p, G.fresh Hp0, ns _ Hp0⟩
        · exact ⟨(nw x z).2, G.fresh (nw x z).1, ns _ (nw x z).1⟩
      · obtain ⟨xs, h1, h2⟩ := el j x ds e1 e2
        have n : x ≠ p := fun z => by subst z; rw [hp] at h1; cases h1
        exact ⟨xs, by rw [upd_ne n]; exact h1, h2⟩
    exact ht c F1 _ _ p as N Z fun F2 H2 N2 x2 => a _ F2 H2 _ hn N2.g (S1.f.trans x2)⟩
/-- the same, the list kept as it stands at the end -/
theorem sw_nestS {ta : TA} {t : TS} {P : Po} {dss' : List (List D)} (ha : EaF ta Γ dss) (hi : i < Γ.length) (hz : dss.length ≤ sizeLine) (ht : SN t (Γ.set i .un) i dss dss') (hn : P.nx ((Γ.set i .un).set i (.sh (.lst (dss'.map D.lst))))) : SW (tSeq (tAsg (tLst ta) (gName i)) t) Γ P := fun c F H σ G Z a b e f =>
  ha c F H σ G _ fun as F1 H1 S1 nd nw ln el => ⟨by rw [List.length_map, ln]; exact hz, fun p hp => by
    have Gs := (G.step S1)
    have S2 : Stp F1 H1 F1 (upd H1 p (.lst (as.map V.ref))) := .loose Gs.fh _ hp
    have F1p : F1 p = none := by
      cases q : F1 p with
      | none => rfl
      | some o => rw [Gs.fh _ _ q] at hp; cases hp
    have Hp0 : H p = none := by
      cases q : H p with
      | none => rfl
      | some o => rw [S1.h _ _ q] at hp; cases hp
    have hi' : i < σ.length := by rw [G.len]; exact hi
    have ns : ∀ x, H x = none → NoSlot (σ.set i (some (.ref p))) (Γ.set i .un) x := fun x hx j e he m q => by
      by_cases z : i = j
      · subst z
        rw [List.getElem?_set_self hi] at he
        cases he; cases m
      · rw [List.getElem?_set_ne z] at he q
        exact G.noSlot hx j e he m q
    have N : Nst c F1 (upd H1 p (.lst (as.map V.ref))) (σ.set i (some (.ref p))) (Γ.set i .un) i p as dss := by
      refine ⟨(Gs.step S2).setUn, List.getElem?_set_self hi, List.getElem?_set_self hi', upd_same, List.nodup_cons.mpr ⟨fun m => ?_, nd⟩, fun x m => ?_, ln, fun j x ds e1 e2 => ?_⟩
      · obtain ⟨j, hj, q⟩ := List.getElem_of_mem m
        have hj' : j < dss.length := by rw [← ln]; exact hj
        obtain ⟨xs, h1, _⟩ := el j p (dss[j]'hj') (by rw [List.getElem?_eq_getElem hj, q]) (List.getElem?_eq_getElem hj')
        rw [hp] at h1; cases h1
      · rcases List.mem_cons.mp m with z | z
        · subst z; exact ⟨F1p, G.fresh Hp0, ns _ Hp0⟩
        · exact ⟨(nw x z).2, G.fresh (nw x z).1, ns _ (nw x z).1⟩
      · obtain ⟨xs, h1, h2⟩ := el j x ds e1 e2
        have n : x ≠ p := fun z => by subst z; rw [hp] at h1; cases h1
        exact ⟨xs, by rw [upd_ne n]; exact h1, h2⟩
    exact ht c F1 _ _ p as N Z fun F2 H2 N2 x2 => by
      obtain ⟨P2, G2, x3⟩ := N2.view
      exact a _ P2 H2 _ hn G2 ((S1.f.trans x2).trans x3)⟩
end
end DL
set_option Elab.async false
set_option linter.all false
set_option maxRecDepth 100000
set_option autoImplicit false
set_option maxHeartbeats 4000000
/-! Q1: data that is small enough to be shown. -/
namespace DL
open PySem PySem.Spec PyProof.Rows L2
structure Sm (B k : Nat) (d : PyData) : Prop where
  sh : d.showable = true
  nd : d.hasDict = false
  ln : d.shown.length ≤ B
  dp : d.depth ≤ k
theorem sm_all {B k : Nat} : ∀ {ds : List PyData}, (∀ d ∈ ds, Sm B k d) → PyData.showableAll ds = true ∧ PyData.hasDictAll ds = false ∧ PyData.depthAll ds ≤ k ∧ (∀ t ∈ PyData.shownAll ds, t.length ≤ B) ∧ (PyData.shownAll ds).length = ds.length
  | [], _ => ⟨rfl, rfl, Nat.zero_le _, (fun t h => nomatch h), rfl⟩
  | d :: ds, h => by
    obtain ⟨h1, h2, h3, h4, h5⟩ := sm_all (ds := ds) fun x hx => h x (List.mem_cons_of_mem _ hx)
    have s := h d List.mem_cons_self
    refine ⟨?_, ?_, ?_, fun t ht => ?_, ?_⟩
    · simp only [PyData.showableAll, s.sh, h1, Bool.and_self]
    · simp only [PyData.hasDictAll, s.nd, h2, Bool.or_self]
    · simp only [PyData.depthAll]; exact Nat.max_le.mpr ⟨s.dp, h3⟩
    · simp only [PyData.shownAll] at ht
      rcases List.mem_cons.mp ht with z | z
      · rw [z]; exact s.ln
      · exact h4 t z
    · simp only [PyData.shownAll, List.length_cons, h5]
theorem text_le {B : Nat} : ∀ (ts : List Str) (k : Nat) (acc : Str), (∀ t ∈ ts, t.length ≤ B) → (textFrom k acc ts).length ≤ acc.length + ts.length * (B + 2)
  | [], k, acc, _ => by show acc.length ≤ _; simp
  | t :: ts, k, acc, h => by
    show (textFrom (k + 1) (acc ++ _ ++ t) ts).length ≤ _
    refine Nat.le_trans (text_le ts (k + 1) _ fun x hx => h x (List.mem_cons_of_mem _ hx)) ?_
    have h1 := h t List.mem_cons_self
    rw [Str.length_append, Str.length_append, List.length_cons, Nat.add_mul]
    have h2 : (Str.ofString (if k > 0 then ", " else "" : String)).length ≤ 2 := by split <;> decide
    show acc.length + (Str.ofString (if k > 0 then ", " else "" : String)).length + t.length + ts.length * (B + 2) ≤ _
    omega
theorem Sm.lst {B k : Nat} {ds : List PyData} (h : ∀ d ∈ ds, Sm B k d) : Sm (2 + ds.length * (B + 2)) (k + 1) (.list ds) := by
  obtain ⟨h1, h2, h3, h4, h5⟩ := sm_all h
  refine ⟨by simp only [PyData.showable, h1], by simp only [PyData.hasDict, h2], ?_, by simp only [PyData.depth]; omega⟩
  simp only [PyData.shown, listText]
  have := text_le (PyData.shownAll ds) 0 "[" h4
  rw [h5] at this
  rw [Str.length_append]
  have e1 : (Str.ofString "[").length = 1 := by decide
  have e2 : (Str.ofString "]").length = 1 := by decide
  show (textFrom 0 (Str.ofString "[") (PyData.shownAll ds)).length + (Str.ofString "]").length ≤ _
  have t2 : (textFrom 0 (Str.ofString "[") (PyData.shownAll ds)).length ≤ (Str.ofString "[").length + ds.length * (B + 2) := this
  omega
theorem Sm.mono {B B' k k' : Nat} {d : PyData} (h : Sm B k d) (b : B ≤ B') (e : k ≤ k') : Sm B' k' d := ⟨h.sh, h.nd, Nat.le_trans h.ln b, Nat.le_trans h.dp e⟩
end DL
set_option Elab.async false
set_option linter.all false
set_option maxRecDepth 100000
set_option maxHeartbeats 4000000
namespace DL
open PySem PySem.Spec PyProof.Rows L2
theorem pyDs_iI : ∀ l : List Int, pyDs (l.map D.int) = some (l.map PyData.int)
  | [] => rfl
  | x :: l => by
    show (match pyD (.int x), pyDs (l.map D.int) with | some p, some ps => some (p :: ps) | _, _ => none) = _
    rw [pyDs_iI l]; rfl
theorem pyD_iI (l : List Int) : pyD (.lst (l.map D.int)) = some (.list (l.map PyData.int)) := by
  show (pyDs _).map PyData.list = _
  rw [pyDs_iI]; rfl
theorem shaped_iI (l : List Int) : SeqAt.shaped (.list (l.map PyData.int)) = true := by
  have a : ∀ l : List Int, PyData.canLayAll0 (l.map PyData.int) = true := by
    intro l
    induction l with
    | nil => rfl
    | cons x l ih => show (true && PyData.canLayAll0 (l.map PyData.int)) = true; rw [ih]; rfl
  have b : ∀ l : List Int, PyData.depthAll (l.map PyData.int) = 0 := by
    intro l
    induction l with
    | nil => rfl
    | cons x l ih => show max 0 (PyData.depthAll (l.map PyData.int)) = 0; rw [ih]; rfl
  unfold SeqAt.shaped
  have e1 : PyData.canLay0 (.list (l.map PyData.int)) = true := a l
  have e2 : PyData.depth (.list (l.map PyData.int)) = 1 := by show PyData.depthAll (l.map PyData.int) + 1 = 1; rw [b]
  rw [e1, e2]; rfl
theorem eqv_iNil (l : List Int) : PyData.eqv (.list (l.map PyData.int)) (.list []) = decide (l = []) := by
  cases l with
  | nil => rfl
  | cons x l => rfl
theorem rd_eqNilI {K : PySem.W.Frag} {l : List Int} : RD (rEqD K) (.lst (l.map D.int)) (.lst []) (.bl (decide (l = []))) := by
  have h := rd_eqD (K := K) (pyD_iI l) (q := .list []) (y := .lst []) rfl (shaped_iI l) rfl
  rw [eqv_iNil] at h
  exact h
theorem sw_assoc4 {a b c d : TS} {Γ : List En} {P : Po} (h : SW (tSeq (tSeq a (tSeq b c)) d) Γ P) : SW (tSeq a (tSeq b (tSeq c d))) Γ P := h
theorem sm_int : ∀ m : Nat, m < 42 → (PyData.showable (.int ((m : Nat) - 1 : Int)) = true ∧ (PyData.shown (.int ((m : Nat) - 1 : Int))).length ≤ 8) := by decide +kernel
theorem sm_ints {l : List Int} (h : ∀ x ∈ l, -1 ≤ x ∧ x < 40) (hl : l.length ≤ 45) : Sm 500 1 (.list (l.map PyData.int)) := (Sm.lst (B := 8) (k := 0) fun d hd => by
  obtain ⟨x, hx, rfl⟩ := List.mem_map.mp hd
  have hb := h x hx
  obtain ⟨r1, r2⟩ := sm_int (x + 1).toNat (by omega)
  have e : (((x + 1).toNat : Nat) : Int) - 1 = x := by omega
  rw [e] at r1 r2
  exact ⟨r1, rfl, r2, Nat.le_refl _⟩).mono (by rw [List.length_map]; omega) (Nat.le_refl _)
theorem sm_bl (b : Bool) : Sm 8 0 (.bool b) := by cases b <;> exact ⟨rfl, rfl, by decide +kernel, Nat.le_refl _⟩
theorem sm_two {B k : Nat} {x y : PyData} (h1 : Sm B k x) (h2 : Sm B k y) : Sm (2 + 2 * (B + 2)) (k + 1) (.list [x, y]) := Sm.lst (ds := [x, y]) fun d hd => by
  rcases List.mem_cons.mp hd with rfl | hd
  · exact h1
  · rw [List.mem_singleton.mp hd]; exact h2
/-- two items, shown -/
theorem rc_two {K : PySem.W.Frag} {x y : D} {p q : PyData} (e1 : pyD x = some p) (e2 : pyD y = some q) (h1 : Sm 500 1 p) (h2 : Sm 500 1 q) : RC (rReprL K) [.lst [x, y]] (.str (PyData.shown (.list [p, q]))) := by
  have sm := sm_two h1 h2
  exact rc_repr (by show (pyDs [x, y]).map _ = _; simp only [pyDs, e1, e2]; rfl) sm.sh sm.nd (Nat.le_trans sm.ln (by decide)) (Nat.le_trans sm.dp (by decide))
theorem eqv_iI : ∀ l : List Int, PyData.eqvAll (l.map PyData.int) (l.map PyData.int) = true
  | [] => rfl
  | x :: l => by
    show ((x == x) && PyData.eqvAll (l.map PyData.int) (l.map PyData.int)) = true
    rw [eqv_iI l]; simp
theorem rd_neIs {K : PySem.W.Frag} {l : List Int} : RD (rNeD K) (.lst (l.map D.int)) (.lst (l.map D.int)) (.bl false) := by
  have q := rd_neD (K := K) (pyD_iI l) (pyD_iI l) (shaped_iI l) (shaped_iI l)
  have e : PyData.eqv (.list (l.map PyData.int)) (.list (l.map PyData.int)) = true := eqv_iI l
  rwa [e] at q
end DL
set_option Elab.async false
set_option linter.all false
set_option maxRecDepth 100000
set_option maxHeartbeats 4000000
namespace Lw
open PySem PySem.Spec PyProof.Rows L2 DL
local macro_rules | `(tactic| walk_at "sd") => `(tactic| first
  | assumption
  | exact .inl ⟨by decide, by decide⟩ | exact ⟨by decide, by decide, by decide⟩ | exact ⟨by decide, by decide⟩
  | (show (0 : Int) < _; first | decide | omega) | exact ⟨by omega, by omega⟩ | exact .inl ⟨by omega, by omega⟩ | exact .inr ⟨by omega, by omega⟩ | exact .inr ⟨by decide, by decide⟩ | omega)
local macro_rules | `(tactic| walk_at "ep") => `(tactic| first
  | exact ep_int | exact ep_str | exact ep_bl | exact ep_non | exact ep_ref | exact ep_ty
  | exact ep_var rfl
  | (refine' ep_ixM (.inr rfl) ?ka ?kr; (case ka => walk_at "ep"); (case kr => exact rfl))
  | (refine' ep_ixM (.inl rfl) ?ka ?kr; (case ka => walk_at "ep"); (case kr => exact rfl))
  | (refine' ep_op ?ka ?kb rd_I0i; (case ka => walk_at "ep"); (case kb => walk_at "ep"))
  | (refine' ep_op ?ka ?kb rd_I0b; (case ka => walk_at "ep"); (case kb => walk_at "ep"))
  | (refine' ep_op ?ka ?kb (rd_Ii ?sd); (case ka => walk_at "ep"); (case kb => walk_at "ep"); (case sd => walk_at "sd"))
  | (refine' ep_op ?ka ?kb rd_eqI; (case ka => walk_at "ep"); (case kb => walk_at "ep"))
  | (refine' ep_op ?ka ?kb rd_eqS; (case ka => walk_at "ep"); (case kb => walk_at "ep"))
  | (refine' ep_op ?ka ?kb rd_neI; (case ka => walk_at "ep"); (case kb => walk_at "ep"))
  | (refine' ep_op ?ka ?kb rd_neS; (case ka => walk_at "ep"); (case kb => walk_at "ep")))
local macro_rules | `(tactic| walk_at "et") => `(tactic| first
  | (refine' et_test ?ka; (case ka => walk_at "ep"))
  | (refine' et_not ?ka; (case ka => walk_at "et"))
  | (refine' et_and ?ka fun _ => ?kb; (case ka => walk_at "et"); (case kb => walk_at "et"))
  | (refine' et_or ?ka fun _ => ?kb; (case ka => walk_at "et"); (case kb => walk_at "et")))
theorem sc__law_text : FnScope ["tree", "texts", "below", "title", "told"] ["tree"] (defScope s__law_text) := ⟨rfl, rfl, rfl, by decide +kernel, rfl, by decide +kernel, by decide +kernel⟩
theorem sc__law_all : FnScope ["tree", "found", "below"] ["tree"] (defScope s__law_all) := ⟨rfl, rfl, rfl, by decide +kernel, rfl, by decide +kernel, by decide +kernel⟩
theorem sc__law_open_above : FnScope ["tree", "spot", "last", "here", "below", "one"] ["tree", "spot", "last"] (defScope s__law_open_above) := ⟨rfl, rfl, rfl, by decide +kernel, rfl, by decide +kernel, by decide +kernel⟩
def ofs : List (Str × Tr) → Nat → List (Tr × Nat)
  | [], _ => []
  | (_, t) :: r, k => (t, k) :: ofs r (k + sz t)
theorem trNs_ofs : ∀ (fs : List (Str × Tr)) (k : Nat), trNs fs k = (ofs fs k).map fun p => trN p.1 p.2
  | [], _ => rfl
  | (s, t) :: r, k => by simp only [trNs, ofs, List.map_cons, trNs_ofs r]
theorem ofs_map {α : Type} (f : Tr → α) : ∀ (fs : List (Str × Tr)) (k : Nat), (ofs fs k).map (fun p => f p.1) = fs.map fun p => f p.2
  | [], _ => rfl
  | (s, t) :: r, k => by simp only [ofs, List.map_cons, ofs_map f r]
theorem ofs_len : ∀ (fs : List (Str × Tr)) (k : Nat), (ofs fs k).length = fs.length
  | [], _ => rfl
  | (s, t) :: r, k => by simp only [ofs, List.length_cons, ofs_len r]
theorem ofs_mem : ∀ {fs : List (Str × Tr)} {k : Nat} {p : Tr × Nat}, p ∈ ofs fs k → (∃ s, (s, p.1) ∈ fs) ∧ k ≤ p.2 ∧ p.2 + sz p.1 ≤ k + szs fs
  | [], _, _, h => nomatch h
  | (s, t) :: r, k, p, h => by
    rcases List.mem_cons.mp h with rfl | h
    · exact ⟨⟨s, List.mem_cons_self⟩, Nat.le_refl _, by show k + sz t ≤ k + (sz t + szs r); omega⟩
    · obtain ⟨⟨s', h1⟩, h2, h3⟩ := ofs_mem h
      exact ⟨⟨s', List.mem_cons_of_mem _ h1⟩, by omega, by show _ ≤ k + (sz t + szs r); omega⟩
theorem mem_fs : ∀ {fs : List (Str × Tr)} {s : Str} {t : Tr}, (s, t) ∈ fs → dp t ≤ dps fs ∧ sz t ≤ szs fs ∧ lv t ≤ lvs fs
  | (_, _) :: r, s, t, h => by
    rcases List.mem_cons.mp h with e | h
    · cases e; exact ⟨Nat.le_max_left _ _, Nat.le_add_right _ _, Nat.le_add_right _ _⟩
    · obtain ⟨h1, h2, h3⟩ := mem_fs h
      exact ⟨Nat.le_trans h1 (Nat.le_max_right _ _), Nat.le_trans h2 (Nat.le_add_left _ _), Nat.le_trans h3 (Nat.le_add_left _ _)⟩
theorem fs_le_szs : ∀ fs : List (Str × Tr), fs.length ≤ szs fs
  | [] => Nat.le_refl _
  | (_, t) :: r => by have := fs_le_szs r; have := sz_pos t; show r.length + 1 ≤ sz t + szs r; omega
mutual
theorem tx_szR : ∀ (t : Tr), okr t → (tx t).length + 10 ≤ 12 * sz t
  | .v, _ => by simp [tx, sz]
  | .o true t, h => by
    have h1 := tx_szR t h
    show (91 :: (tx t ++ [93])).length + 10 ≤ 12 * (sz t + 1)
    simp; omega
  | .o false t, h => by
    have h1 := tx_szR t h
    show (63 :: tx t).length + 10 ≤ 12 * (sz t + 1)
    simp; omega
  | .r fs, h => by
    have h1 := txs_szR fs h.2.2.2 h.2.2.1
    have h4 := joinL_len [32] (txs fs)
    have h6 := h1.2
    show (123 :: (TL.joinL [32] (txs fs) ++ [125])).length + 10 ≤ 12 * (szs fs + 1)
    simp at h4 ⊢
    omega
theorem txs_szR : ∀ (fs : List (Str × Tr)), okrs fs → (∀ x ∈ fs.map (·.1), NmOk x) → ((txs fs).map (·.length)).sum + fs.length ≤ 12 * szs fs ∧ (txs fs).length = fs.length
  | [], _, _ => by simp [txs, szs]
  | (n, t) :: r, h, hn => by
    have h1 := tx_szR t h.1
    have h2 := txs_szR r h.2 fun x hx => hn x (List.mem_cons_of_mem _ hx)
    have h3 := (hn n (List.mem_cons_self ..)).le
    refine ⟨?_, congrArg Nat.succ h2.2⟩
    show (n.cps.toList ++ 58 :: tx t).length + ((txs r).map (·.length)).sum + (r.length + 1) ≤ 12 * (sz t + szs r)
    rw [List.length_append, List.length_cons]
    have := h2.1
    omega
end
theorem zpD_map {α : Type} (f g : α → D) : ∀ l : List α, zpD (l.map f) (l.map g) = l.map fun p => .tup [f p, g p]
  | [] => rfl
  | x :: l => by simp only [zpD, List.map_cons, zpD_map f g l]
def C_text (N : Nat) : Cn := fun Γ R => ∃ (t : Tr) (n : Nat), Γ = [.sh (trN t n)] ∧ okr t ∧ dp t < N ∧ sz t ≤ 1000 ∧ R = fun d _ => d = .str (SX.S (tx t))
section
variable {P : Program} {w : World} {K : PySem.W.Frag} {mg : Str → Option Value} {base : Heap} {f : Addr} {fd : FuncData}
theorem ok_text (T : Tx mg) (F : FnP K "_law_text" s__law_text f fd) (kf : PySem.W.keepIn K (.ref f) = true) (mf : mg "_law_text" = some (.ref f)) (bf : Binds K fd ["tree"] []) :
    ∀ N : Nat, FnOk P w K mg base CX0 (N + 1) f fd ["tree"] (spE (C_text N))
  | 0 => fn_none fun Γ R ⟨t, _, _, _, h, _⟩ => absurd h (Nat.not_lt_zero _)
  | N + 1 => by
    have ih := ok_text T F kf mf bf N
    have c__law_text : Cal P w K mg base (N + 1) "_law_text" (spE (C_text N)) := ⟨f, fd, _, ih, mf, kf, bf⟩
    refine fn_ok F sc__law_text (fun Γ R ⟨t, n, h, _⟩ => by subst h; rfl) fun cdv A outer s H E hr => ⟨_, (pss_cons (ps_if (pt_cmpR op_eq (pe_ix ix_tup (pv 0) pe_int (fun _ _ => rfl)) pe_str (nomark _)) (pss_one (ps_ret pe_str)) pss_nil)
      (pss_cons (ps_setLc (i := 1) (own := [("below", 2)]) (g := (gName 2)) (tt := tYes) rfl sc__law_text.nd rfl rfl (sw_true rfl rfl rfl (by decide +kernel)) (pi_tup (pe_ix ix_tup (pv 0) pe_int (fun _ _ => rfl))) (blkOk_by (own := [("below", 2)]) (N := ["tree", "texts", "below", "title", "told"]) (sc := defScope s__law_text) (by decide +kernel)) (fun _ _ _ _ _ => (pg_name (i := 2) sc__law_text.nd rfl (Or.inl rfl))) (fun _ _ _ _ _ => pts_nil) (fun _ _ _ _ _ => (pe_c c__law_text hr (by first | decide | omega) rfl (pa_cons (pv 2) pa_nil))))
      (pss_cons (ps_if (pt_cmpR op_eq (pe_ix ix_tup (pv 0) pe_int (fun _ _ => rfl)) pe_str (nomark _)) (pss_one (ps_ret (pe_op op_add_str (pe_op op_add_str pe_str (pe_join pe_str (pe_lc (own := [("title", 3), ("told", 4)]) (g := (gTup K 2 (gCons (gName 3) (gCons (gName 4) gNil)))) (tt := tYes) rfl sc__law_text.nd (pi_zipM rfl T.z_zip (pa_cons (pe_ix ix_tup (pv 0) pe_int (fun _ _ => rfl)) (pa_cons (pv 1) pa_nil))) (blkOk_by (own := [("title", 3), ("told", 4)]) (N := ["tree", "texts", "below", "title", "told"]) (sc := defScope s__law_text) (by decide +kernel)) (fun _ _ _ _ _ => (pg_tup rfl (pgs_cons (pg_name (i := 3) sc__law_text.nd rfl (Or.inl rfl)) (pgs_cons (pg_name (i := 4) sc__law_text.nd rfl (Or.inl rfl)) pgs_nil)))) (fun _ _ _ _ _ => pts_nil) (fun _ _ _ _ _ => (pe_op op_add_str (pe_op op_add_str (pv 3) pe_str) (pv 4)))))) pe_str))) pss_nil)
      (pss_one (ps_ret (pe_ifExp (pt_cmpR op_eq (pe_ix ix_tup (pv 0) pe_int (fun _ _ => rfl)) pe_str (nomark _)) (pe_op op_add_str pe_str (pe_ix ix_list (pv 1) pe_int (fun _ _ => rfl))) (pe_op op_add_str (pe_op op_add_str pe_str (pe_ix ix_list (pv 1) pe_int (fun _ _ => rfl))) pe_str))))))), ?_⟩
    rintro Γ R ⟨t, n, rfl, ho, hd, hz, rfl⟩ _
    show SW _ [.sh (trN t n), .un, .un, .un, .un] _
    cases t with
    | v =>
      refine sw_guard (b := true) ((et_test (ep_op (ep_op (ep_var rfl) ep_int (rd_ixT rfl)) ep_str rd_eqS)).cast (by decide +kernel)) (fun _ => ?_) (fun z => by cases z)
      exact sw_ret ep_str ⟨rfl, trivial⟩
    | o b u =>
      have hu : dp u < N := by have : dp u + 1 < N + 1 := hd; omega
      have hzu : sz u + 1 ≤ 1000 := hz
      have hl := tx_szR u ho
      refine sw_guard (b := false) ((et_test (ep_op (ep_op (ep_var rfl) ep_int (rd_ixT rfl)) ep_str rd_eqS)).cast (by cases b <;> decide +kernel)) (fun z => by cases z) (fun _ => ?_)
      refine q_asg (d := .lst [.str (SX.S (tx u))]) (EvF.p (EvF.cast (ef_map [u] (fun u => trN u (n + 1)) (fun u => D.str (SX.S (tx u))) (wi_tup (ep_op (ep_var rfl) ep_int (rd_ixT (d := .tup [trN u (n + 1)]) rfl))) (by show 1 < sizeLine; decide) fun x hx => ⟨_, gv_name (by simp), ?_⟩) rfl)) ?_
      · rw [List.mem_singleton.mp hx]
        exact ep_call (ea_cons (x := trN u (n + 1)) (ep_var rfl) ea_nil) ⟨u, n + 1, rfl, ho, hu, by omega, rfl⟩ fun e _ h => h
      refine sw_guard (b := false) ((et_test (ep_op (ep_op (ep_var rfl) ep_int (rd_ixT rfl)) ep_str rd_eqS)).cast (by cases b <;> decide +kernel)) (fun z => by cases z) (fun _ => ?_)
      have hix : ∀ {Γ : List En}, Γ[1]? = some (.sh (.lst [.str (SX.S (tx u))])) → EvP (tOp (rIxL K) (tVar 1) (tC (.int 0))) Γ (.str (SX.S (tx u))) := fun h => ep_op (ep_var h) ep_int (rd_ixL rfl)
      have hsl : (SX.S (tx u)).length ≤ 20000 := by rw [SX.S_len]; omega
      cases b with
      | true =>
        refine sw_ret (d := .str (SX.S (tx (.o true u)))) (ep_if (b := false) ((et_test (ep_op (ep_op (ep_var rfl) ep_int (rd_ixT rfl)) ep_str rd_eqS)).cast (by decide +kernel)) (fun z => by cases z) fun _ => EvP.cast (ep_op (ep_op ep_str (hix rfl) (rd_addS ?_)) ep_str (rd_addS ?_)) ?_) ⟨rfl, trivial⟩
        · exact Nat.le_trans (Nat.add_le_add (show _ ≤ 1 from Nat.le_refl _) hsl) (by decide)
        · rw [show (("[" : Str) ++ SX.S (tx u)) = SX.S (91 :: tx u) from by show SX.S [91] ++ _ = _; rw [SX.S_cat]; rfl, SX.S_len]
          exact Nat.le_trans (Nat.add_le_add (show _ ≤ 20001 by rw [SX.S_len] at hsl; simp only [List.length_cons]; omega) (show _ ≤ 1 from Nat.le_refl _)) (by decide)
        · show D.str (SX.S [91] ++ SX.S (tx u) ++ SX.S [93]) = _
          rw [SX.S_cat, SX.S_cat]; rfl
      | false =>
        refine sw_ret (d := .str (SX.S (tx (.o false u)))) (ep_if (b := true) ((et_test (ep_op (ep_op (ep_var rfl) ep_int (rd_ixT rfl)) ep_str rd_eqS)).cast (by decide +kernel)) (fun _ => EvP.cast (ep_op ep_str (hix rfl) (rd_addS ?_)) ?_) fun z => by cases z) ⟨rfl, trivial⟩
        · exact Nat.le_trans (Nat.add_le_add (show _ ≤ 1 from Nat.le_refl _) hsl) (by decide)
        · show D.str (SX.S [63] ++ SX.S (tx u)) = _
          rw [SX.S_cat]; rfl
    | r fs =>
      have hds : dps fs < N := by have : dps fs + 1 < N + 1 := hd; omega
      have hzs : szs fs + 1 ≤ 1000 := hz
      have hfl := fs_le_szs fs
      refine sw_guard (b := false) ((et_test (ep_op (ep_op (ep_var rfl) ep_int (rd_ixT rfl)) ep_str rd_eqS)).cast (by decide +kernel)) (fun z => by cases z) (fun _ => ?_)
      refine q_asg (d := .lst (fs.map fun p => .str (SX.S (tx p.2)))) (EvF.p (EvF.cast (ef_map (ofs fs (n + 1)) (fun p => trN p.1 p.2) (fun p => D.str (SX.S (tx p.1))) (wi_tup (EvP.cast (ep_op (ep_var rfl) ep_int (rd_ixT (d := .tup (trNs fs (n + 1))) rfl)) (by rw [trNs_ofs]))) (by rw [ofs_len, sizeLine_eq]; omega) fun p hp => ⟨_, gv_name (by simp), ?_⟩) (ofs_map (fun t => D.str (SX.S (tx t))) fs (n + 1)))) ?_
      · obtain ⟨⟨s, hm⟩, _, _⟩ := ofs_mem hp
        obtain ⟨m1, m2, _⟩ := mem_fs hm
        exact ep_call (ea_cons (x := trN p.1 p.2) (ep_var rfl) ea_nil) ⟨p.1, p.2, rfl, okrs_mem ho.2.2.2 hm, by omega, by omega, rfl⟩ fun e _ h => h
      refine sw_guard (b := true) ((et_test (ep_op (ep_op (ep_var rfl) ep_int (rd_ixT rfl)) ep_str rd_eqS)).cast (by decide +kernel)) (fun _ => ?_) (fun z => by cases z)
      have hb := tx_szR (.r fs) ho
      have hbz : sz (.r fs) = szs fs + 1 := rfl
      have hts := txs_szR fs ho.2.2.2 ho.2.2.1
      have hjl := joinL_len [32] (txs fs)
      have hjz : (TL.joinL [32] (txs fs)).length ≤ 3500000 := by
        have e1 := hts.1
        have e2 := hts.2
        simp at hjl
        omega
      have hcomp : EvF (tLc (iZipM K (tCons (tOp (rIxT K) (tVar 0) (tC (.int 2))) (tCons (tVar 1) tNil))) (gTup K 2 (gCons (gName 3) (gCons (gName 4) gNil))) tYes (tOp rAddStr (tOp rAddStr (tVar 3) (tC (.str ":"))) (tVar 4)) [3, 4]) [.sh (trN (.r fs) n), .sh (.lst (fs.map fun p => .str (SX.S (tx p.2)))), .un, .un, .un] ((fs.map fun p => SX.S (p.1.cps.toList ++ 58 :: tx p.2)).map D.str) := by
        rw [List.map_map]
        refine ef_map fs (fun p => .tup [.str p.1, .str (SX.S (tx p.2))]) _ (by rw [← zpD_map]; exact wi_zipM (ea_cons (ep_op (ep_var rfl) ep_int (rd_ixT (d := .tup (fs.map fun p => .str p.1)) rfl)) (ea_cons (ep_var rfl) ea_nil)) (by rw [List.length_map, List.length_map])) (by rw [sizeLine_eq]; omega) fun p hp => ⟨_, gv_tup2 (by simp) (by simp), ?_⟩
        have hn := (ho.2.2.1 p.1 (List.mem_map_of_mem hp)).le
        obtain ⟨m1, m2, _⟩ := mem_fs (show (p.1, p.2) ∈ fs from hp)
        have h9 := tx_szR p.2 (okrs_mem ho.2.2.2 (show (p.1, p.2) ∈ fs from hp))
        have hcol : (":" : Str).length = 1 := rfl
        have hpl : p.1.length ≤ 8 := by simpa [Str.length] using hn
        refine (ep_op (ep_op (x := .str p.1) (ep_var rfl) ep_str (rd_addS (by rw [hcol]; exact sl (by omega)))) (ep_var (d := .str (SX.S (tx p.2))) rfl) (rd_addS ?_)).cast (congrArg D.str (nm_S p.1 (tx p.2)))
        have h10 : (p.1 ++ (":" : Str)).length ≤ 9 := by
          have e : p.1 ++ (":" : Str) = SX.S (p.1.cps.toList ++ [58]) := by
            have e1 : p.1 = SX.S p.1.cps.toList := (SX.S_tl p.1).symm
            have e2 : (":" : Str) = SX.S [58] := by decide +kernel
            rw [e2]
            conv => lhs; rw [e1]
            rw [SX.S_cat]
          rw [e]
          refine S_le ?_
          simp at hn ⊢
          omega
        exact add_ok (Nat.le_trans h10 (by decide)) (S_le (by omega))
      have hjoin : EvP (tM1 (rJoin K) (tC (.str " ")) (tLc (iZipM K (tCons (tOp (rIxT K) (tVar 0) (tC (.int 2))) (tCons (tVar 1) tNil))) (gTup K 2 (gCons (gName 3) (gCons (gName 4) gNil))) tYes (tOp rAddStr (tOp rAddStr (tVar 3) (tC (.str ":"))) (tVar 4)) [3, 4])) [.sh (trN (.r fs) n), .sh (.lst (fs.map fun p => .str (SX.S (tx p.2)))), .un, .un, .un] (.str (SX.S (TL.joinL [32] (txs fs)))) := by
        refine (ep_join (a := " ") (ys := fs.map fun p => SX.S (p.1.cps.toList ++ 58 :: tx p.2)) ep_str hcomp.p ?_).cast (congrArg D.str ?_)
        · have e1 : ((fs.map fun p => SX.S (p.1.cps.toList ++ 58 :: tx p.2)).map (·.length)) = (txs fs).map (·.length) := by
            rw [txs_map, List.map_map, List.map_map]
            exact List.map_congr_left fun p _ => SX.S_len _
          rw [e1, List.length_map]
          have e2 : (" " : Str).length = 1 := rfl
          rw [e2]
          have e3 := hts.1
          omega
        · have e1 : (" " : Str) = SX.S [32] := by decide +kernel
          rw [e1, txs_map, ← SX.join_S, List.map_map]
          rfl
      refine sw_ret (d := .str (SX.S (tx (.r fs)))) ((ep_op (ep_op ep_str hjoin (rd_addS ?_)) ep_str (rd_addS ?_)).cast (congrArg D.str ?_)) ⟨rfl, trivial⟩
      · exact add_ok (lit_le (by decide +kernel)) (S_le (by omega))
      · have e1 : ("{" : Str) = SX.S [123] := by decide +kernel
        refine add_ok ?_ (lit_le (by decide +kernel))
        rw [e1, SX.S_cat]
        exact S_le (by simp; omega)
      · have e1 : ("{" : Str) = SX.S [123] := by decide +kernel
        have e2 : ("}" : Str) = SX.S [125] := by decide +kernel
        rw [e1, e2, SX.S_cat, SX.S_cat]
        rfl
end
end Lw
set_option Elab.async false
set_option linter.all false
set_option maxRecDepth 100000
set_option maxHeartbeats 4000000
namespace Lw
open PySem PySem.Spec PyProof.Rows L2 DL
mutual
/-- the subtrees, from the top, with their numbers -/
def subs : Tr → Nat → List (Tr × Nat)
  | .v, n => [(.v, n)]
  | .o l t, n => (.o l t, n) :: subs t (n + 1)
  | .r fs, n => (.r fs, n) :: subss fs (n + 1)
def subss : List (Str × Tr) → Nat → List (Tr × Nat)
  | [], _ => []
  | (_, t) :: r, k => subs t k ++ subss r (k + sz t)
end
mutual
theorem subs_ix : ∀ (t : Tr) (n : Nat), (subs t n).map (·.2) = (List.range (sz t)).map (n + ·)
  | .v, n => by simp [subs, sz]
  | .o l t, n => by
    simp only [subs, sz, List.map_cons, subs_ix t (n + 1), List.range_succ_eq_map, List.map_map]
    refine List.cons_eq_cons.mpr ⟨by omega, List.map_congr_left fun x _ => ?_⟩
    show n + 1 + x = n + (x + 1); omega
  | .r fs, n => by
    simp only [subs, sz, List.map_cons, subss_ix fs (n + 1), List.range_succ_eq_map, List.map_map]
    refine List.cons_eq_cons.mpr ⟨by omega, List.map_congr_left fun x _ => ?_⟩
    show n + 1 + x = n + (x + 1); omega
theorem subss_ix : ∀ (fs : List (Str × Tr)) (k : Nat), (subss fs k).map (·.2) = (List.range (szs fs)).map (k + ·)
  | [], k => by simp [subss, szs]
  | (s, t) :: r, k => by
    simp only [subss, szs, List.map_append, subs_ix t k, subss_ix r (k + sz t), List.range_add, List.map_map]
    refine congrArg (fun z => (List.range (sz t)).map (k + ·) ++ z) (List.map_congr_left fun x _ => ?_)
    show k + sz t + x = k + (sz t + x); omega
end
theorem subs_len (t : Tr) (n : Nat) : (subs t n).length = sz t := by
  have := congrArg List.length (subs_ix t n)
  rwa [List.length_map, List.length_map, List.length_range] at this
theorem subss_len (fs : List (Str × Tr)) (n : Nat) : (subss fs n).length = szs fs := by
  have := congrArg List.length (subss_ix fs n)
  rwa [List.length_map, List.length_map, List.length_range] at this
abbrev suD (l : List (Tr × Nat)) : List D := l.map fun p => trN p.1 p.2
theorem subss_ofs : ∀ (fs : List (Str × Tr)) (k : Nat), subss fs k = ((ofs fs k).map fun p => subs p.1 p.2).flatten
  | [], _ => rfl
  | (s, t) :: r, k => by simp only [subss, ofs, List.map_cons, List.flatten_cons, subss_ofs r]
def C_all (N : Nat) : Cn := fun Γ R => ∃ (t : Tr) (n : Nat), Γ = [.sh (trN t n)] ∧ dp t < N ∧ sz t ≤ 1000 ∧ R = fun d _ => d = .lst (suD (subs t n))
mutual
/-- the lowest open node at or above node i, or last -/
def oab : Tr → Nat → Nat → Int → Int
  | .v, _, _, last => last
  | .o _ _, n, 0, _ => (n : Nat)
  | .o _ t, n, i + 1, _ => oab t (n + 1) i (n : Nat)
  | .r _, _, 0, last => last
  | .r fs, n, i + 1, last => oabs fs (n + 1) i last
def oabs : List (Str × Tr) → Nat → Nat → Int → Int
  | [], _, _, _ => -1
  | (_, t) :: r, k, i, last => if i < sz t then oab t k i last else oabs r (k + sz t) (i - sz t) last
end
def C_oab (N : Nat) : Cn := fun Γ R => ∃ (t : Tr) (n i : Nat) (last : Int), Γ = [.sh (trN t n), .sh (.int ((n + i : Nat) : Int)), .sh (.int last)] ∧ i < sz t ∧ dp t < N ∧ sz t ≤ 1000 ∧ R = fun d _ => d = .int (oab t n i last)
section
variable {P : Program} {w : World} {K : PySem.W.Frag} {mg : Str → Option Value} {base : Heap} {f : Addr} {fd : FuncData}
theorem kids_ix {t : Tr} {n : Nat} : ∃ ks : List (Tr × Nat), (∀ {Γ : List En}, Γ[0]? = some (.sh (trN t n)) → EvP (tOp (rIxT K) (tVar 0) (tC (.int 3))) Γ (.tup (suD ks))) ∧ subs t n = (t, n) :: (ks.map fun p => subs p.1 p.2).flatten ∧ (∀ p ∈ ks, dp p.1 < dp t ∧ sz p.1 < sz t) ∧ ks.length < sz t := by
  cases t with
  | v => exact ⟨[], fun h => ep_op (ep_var h) ep_int (rd_ixT rfl), rfl, (fun p h => nomatch h), by simp [sz]⟩
  | o l u => exact ⟨[(u, n + 1)], fun h => ep_op (ep_var h) ep_int (rd_ixT rfl), by simp [subs], (fun p h => by rw [List.mem_singleton.mp h]; exact ⟨Nat.lt_succ_self _, Nat.lt_succ_self _⟩), by have := sz_pos u; show 1 < sz u + 1; omega⟩
  | r fs =>
    refine ⟨ofs fs (n + 1), fun h => EvP.cast (ep_op (ep_var h) ep_int (rd_ixT (d := .tup (trNs fs (n + 1))) rfl)) (by rw [trNs_ofs]), by simp only [subs, subss_ofs], fun p h => ?_, ?_⟩
    · obtain ⟨⟨s, hm⟩, _, _⟩ := ofs_mem h
      obtain ⟨h1, h2, _⟩ := mem_fs hm
      exact ⟨by show dp p.1 < dps fs + 1; omega, by show sz p.1 < szs fs + 1; omega⟩
    · rw [ofs_len]; have := fs_le_szs fs; show fs.length < szs fs + 1; omega
theorem ok_all_ (T : Tx mg) (F : FnP K "_law_all" s__law_all f fd) (kf : PySem.W.keepIn K (.ref f) = true) (mf : mg "_law_all" = some (.ref f)) (bf : Binds K fd ["tree"] []) :
    ∀ N : Nat, FnOk P w K mg base CX0 (N + 1) f fd ["tree"] (spE (C_all N))
  | 0 => fn_none fun Γ R ⟨t, _, _, h, _⟩ => absurd h (Nat.not_lt_zero _)
  | N + 1 => by
    have ih := ok_all_ T F kf mf bf N
    have c__law_all : Cal P w K mg base (N + 1) "_law_all" (spE (C_all N)) := ⟨f, fd, _, ih, mf, kf, bf⟩
    refine fn_ok F sc__law_all (fun Γ R ⟨t, n, h, _⟩ => by subst h; rfl) fun cdv A outer s H E hr => ⟨_, (pss_cons (ps_set (i := 1) sc__law_all.nd rfl (by first | exact Or.inl rfl | exact Or.inr rfl) (pe_lst (pa_cons (pv 0) pa_nil)))
      (pss_cons (ps_for PassesOwn.never rfl (pi_tup (pe_ix ix_tup (pv 0) pe_int (fun _ _ => rfl))) (pg_name (i := 2) sc__law_all.nd rfl (by first | exact Or.inl rfl | exact Or.inr rfl)) (pss_one (ps_expr (pe_bm PySem.F.plainAttrs_list PySem.F.slot_list_extend PySem.F.type_list_extend mt_extend (pv 1) (pa_cons (pe_c c__law_all hr (by first | decide | omega) rfl (pa_cons (pv 2) pa_nil)) pa_nil)))))
      (pss_one (ps_ret (pv 1))))), ?_⟩
    rintro Γ R ⟨t, n, rfl, hd, hz, rfl⟩ _
    show SW _ [.sh (trN t n), .un, .un] _
    obtain ⟨ks, k1, k2, k3, k4⟩ := kids_ix (K := K) (t := t) (n := n)
    refine q_asgF (ds := [trN t n]) (ef_lst (ea_cons (ep_var rfl) ea_nil) (by show 1 ≤ sizeLine; decide)) ?_
    show SW _ [.sh (trN t n), .own [trN t n], .un] _
    have tot : ((ks.map fun p => subs p.1 p.2).flatten).length + 1 = sz t := by rw [← subs_len t n, k2]; rfl
    refine sw_seq (fun Γ' => ∃ e, Γ' = [.sh (trN t n), .own (suD (subs t n)), e]) (sw_for (fun i Γ' => ∃ e, Γ' = [.sh (trN t n), .own (trN t n :: suD (((ks.take i).map fun p => subs p.1 p.2).flatten)), e]) (wi_tup (k1 rfl)) ⟨_, rfl⟩ ?_ (fun Γ' ⟨e, h⟩ => ⟨e, by rw [h, List.length_map, List.take_length, k2]; rfl⟩)) ?_
    · rintro i d _ hdi ⟨e, rfl⟩
      rw [List.getElem?_map, Option.map_eq_some_iff] at hdi
      obtain ⟨p, hp, rfl⟩ := hdi
      have hm := List.mem_of_getElem? hp
      obtain ⟨q1, q2⟩ := k3 p hm
      refine ⟨_, gt_name, ?_⟩
      show SW _ [.sh (trN t n), .own (trN t n :: suD (((ks.take i).map fun p => subs p.1 p.2).flatten)), .sh (trN p.1 p.2)] _
      have hlt : ((ks.take i).map fun p => subs p.1 p.2).flatten.length ≤ (ks.map fun p => subs p.1 p.2).flatten.length := by
        conv => rhs; rw [← List.take_append_drop i ks]
        rw [List.map_append, List.flatten_append, List.length_append]; omega
      refine sw_ext (.inl rfl) (ep_call (z := .lst (suD (subs p.1 p.2))) (ea_cons (ep_var rfl) ea_nil) ⟨p.1, p.2, rfl, by omega, by omega, rfl⟩ fun e _ h => h) ?_ ⟨.sh (trN p.1 p.2), ?_⟩
      · rw [List.length_cons, List.length_map, List.length_map, subs_len, sizeLine_eq]; omega
      · have e : ks.take (i + 1) = ks.take i ++ [p] := by rw [List.take_succ, hp]; rfl
        rw [e, List.map_append, List.flatten_append]
        simp [suD]
        rfl
    · rintro _ ⟨e, rfl⟩
      refine sw_frz (i := 1) rfl ?_
      exact sw_ret (d := .lst (suD (subs t n))) (ep_var rfl) ⟨rfl, trivial⟩
theorem kids_oab {t : Tr} {n i : Nat} {last : Int} (hi : i < sz t) : (i = 0 ∧ oab t n 0 last = (if (match t with | .o _ _ => true | _ => false) then ((n : Nat) : Int) else last)) ∨ (0 < i ∧ ∃ ks : List (Tr × Nat), (∀ {Γ : List En}, Γ[0]? = some (.sh (trN t n)) → EvP (tOp (rIxT K) (tVar 0) (tC (.int 3))) Γ (.tup (suD ks))) ∧ (∀ p ∈ ks, dp p.1 < dp t ∧ sz p.1 < sz t) ∧
    ∃ (pre : List (Tr × Nat)) (p : Tr × Nat) (suf : List (Tr × Nat)), ks = pre ++ p :: suf ∧ (∀ q ∈ pre, q.2 + sz q.1 ≤ n + i) ∧ p.2 ≤ n + i ∧ n + i < p.2 + sz p.1 ∧ oab t n i last = oab p.1 p.2 (n + i - p.2) (if (match t with | .o _ _ => true | _ => false) then ((n : Nat) : Int) else last)) := by
  cases t with
  | v => exact .inl ⟨by simp only [sz] at hi; omega, rfl⟩
  | o l u =>
    cases i with
    | zero => exact .inl ⟨rfl, rfl⟩
    | succ i =>
      refine .inr ⟨Nat.succ_pos _, [(u, n + 1)], fun h => ep_op (ep_var h) ep_int (rd_ixT rfl), (fun p h => by rw [List.mem_singleton.mp h]; exact ⟨Nat.lt_succ_self _, Nat.lt_succ_self _⟩), [], (u, n + 1), [], rfl, (fun q h => nomatch h), by show n + 1 ≤ _; omega, by simp only [sz] at hi; show _ < n + 1 + sz u; omega, ?_⟩
      show oab u (n + 1) i (n : Nat) = oab u (n + 1) (n + (i + 1) - (n + 1)) _
      rw [show n + (i + 1) - (n + 1) = i by omega]; rfl
  | r fs =>
    cases i with
    | zero => exact .inl ⟨rfl, rfl⟩
    | succ i =>
      refine .inr ⟨Nat.succ_pos _, ofs fs (n + 1), fun h => EvP.cast (ep_op (ep_var h) ep_int (rd_ixT (d := .tup (trNs fs (n + 1))) rfl)) (by rw [trNs_ofs]), fun p h => ?_, ?_⟩
      · obtain ⟨⟨s, hm⟩, _, _⟩ := ofs_mem h
        obtain ⟨h1, h2, _⟩ := mem_fs hm
        exact ⟨by show dp p.1 < dps fs + 1; omega, by show sz p.1 < szs fs + 1; omega⟩
      · have key : ∀ (fs : List (Str × Tr)) (k i : Nat), i < szs fs → ∃ (pre : List (Tr × Nat)) (p : Tr × Nat) (suf : List (Tr × Nat)), ofs fs k = pre ++ p :: suf ∧ (∀ q ∈ pre, q.2 + sz q.1 ≤ k + i) ∧ p.2 ≤ k + i ∧ k + i < p.2 + sz p.1 ∧ oabs fs k i last = oab p.1 p.2 (k + i - p.2) last := by
          intro fs
          induction fs with
          | nil => intro k i h; simp only [szs] at h; omega
          | cons f r ih =>
            obtain ⟨s, t⟩ := f
            intro k i h
            by_cases z : i < sz t
            · refine ⟨[], (t, k), ofs r (k + sz t), rfl, (fun q h => nomatch h), Nat.le_add_right _ _, by show k + i < k + sz t; omega, ?_⟩
              simp only [oabs]
              rw [if_pos z, Nat.add_sub_cancel_left]
            · obtain ⟨pre, p, suf, e1, e2, e3, e4, e5⟩ := ih (k + sz t) (i - sz t) (by simp only [szs] at h; omega)
              have ek : k + sz t + (i - sz t) = k + i := by omega
              rw [ek] at e2 e3 e4 e5
              refine ⟨(t, k) :: pre, p, suf, by simp only [ofs, e1]; rfl, fun q hq => ?_, e3, e4, ?_⟩
              · rcases List.mem_cons.mp hq with rfl | hq
                · show k + sz t ≤ _; omega
                · exact e2 q hq
              · simp only [oabs]
                rw [if_neg z]; exact e5
        obtain ⟨pre, p, suf, e1, e2, e3, e4, e5⟩ := key fs (n + 1) i (by simp only [sz] at hi; omega)
        have ek : n + 1 + i = n + (i + 1) := by omega
        rw [ek] at e2 e3 e4 e5
        exact ⟨pre, p, suf, e1, e2, e3, e4, e5⟩
theorem ok_oab (c__law_all : Cal P w K mg base 8 "_law_all" (spE (C_all 7))) (F : FnP K "_law_open_above" s__law_open_above f fd) (kf : PySem.W.keepIn K (.ref f) = true) (mf : mg "_law_open_above" = some (.ref f)) (bf : Binds K fd ["tree", "spot", "last"] []) :
    ∀ N : Nat, N ≤ 7 → FnOk P w K mg base CX0 (N + 9) f fd ["tree", "spot", "last"] (spE (C_oab N))
  | 0, _ => fn_none fun Γ R ⟨t, _, _, _, _, _, h, _⟩ => absurd h (Nat.not_lt_zero _)
  | N + 1, hN7 => by
    have ih := ok_oab c__law_all F kf mf bf N (by omega)
    have c__law_open_above : Cal P w K mg base (N + 9) "_law_open_above" (spE (C_oab N)) := ⟨f, fd, _, ih, mf, kf, bf⟩
    refine fn_ok F sc__law_open_above (fun Γ R ⟨t, n, i, l, h, _⟩ => by subst h; rfl) fun cdv A outer s H E hr => ⟨_, (pss_cons (ps_set (i := 3) sc__law_open_above.nd rfl (by first | exact Or.inl rfl | exact Or.inr rfl) (pe_ifExp (pt_cmpR op_in_seq (pe_ix ix_tup (pv 0) pe_int (fun _ _ => rfl)) (pe_tup (pa_cons pe_str (pa_cons pe_str pa_nil))) (by rfl)) (pe_ix ix_tup (pv 0) pe_int (fun _ _ => rfl)) (pv 2)))
      (pss_cons (ps_if (pt_cmpR op_eq (pe_ix ix_tup (pv 0) pe_int (fun _ _ => rfl)) (pv 1) (nomark _)) (pss_one (ps_ret (pv 3))) pss_nil)
      (pss_cons (ps_for PassesOwn.never rfl (pi_tup (pe_ix ix_tup (pv 0) pe_int (fun _ _ => rfl))) (pg_name (i := 4) sc__law_open_above.nd rfl (by first | exact Or.inl rfl | exact Or.inr rfl)) (pss_one (ps_if (pt_cmpR op_in_seq (pv 1) (pe_lc (own := [("one", 5)]) (g := (gName 5)) (tt := tYes) rfl sc__law_open_above.nd (pi_list (pe_c c__law_all hr (by first | decide | omega) rfl (pa_cons (pv 4) pa_nil))) (blkOk_by (own := [("one", 5)]) (N := ["tree", "spot", "last", "here", "below", "one"]) (sc := defScope s__law_open_above) (by decide +kernel)) (fun _ _ _ _ _ => (pg_name (i := 5) sc__law_open_above.nd rfl (Or.inl rfl))) (fun _ _ _ _ _ => pts_nil) (fun _ _ _ _ _ => (pe_ix (show IxR _ (rIxT K) from ix_tup) (pv 5) pe_int (fun _ _ => rfl)))) (by rfl)) (pss_one (ps_ret (pe_c c__law_open_above hr (by first | decide | omega) rfl (pa_cons (pv 4) (pa_cons (pv 1) (pa_cons (pv 3) pa_nil)))))) pss_nil)))
      (pss_one (ps_ret (pe_un un_neg pe_int)))))), ?_⟩
    rintro Γ R ⟨t, n, i, last, rfl, hi, hd, hz, rfl⟩ _
    show SW _ [.sh (trN t n), .sh (.int ((n + i : Nat) : Int)), .sh (.int last), .un, .un, .un] _
    have t1 : ∀ {Γ : List En}, Γ[0]? = some (.sh (trN t n)) → EvP (tOp (rIxT K) (tVar 0) (tC (.int 1))) Γ (.int (n : Nat)) := fun h => by
      cases t <;> exact ep_op (ep_var h) ep_int (rd_ixT rfl)
    refine q_asg (d := .int (if (match t with | .o _ _ => true | _ => false) then ((n : Nat) : Int) else last)) ?_ ?_
    · have lm : EvP (tTup (tCons (tC (.str "list")) (tCons (tC (.str "maybe")) tNil))) [.sh (trN t n), .sh (.int ((n + i : Nat) : Int)), .sh (.int last), .un, .un, .un] (.tup ((["list", "maybe"] : List Str).map D.str)) := ep_tup (ea_cons ep_str (ea_cons ep_str ea_nil)) (by show 2 ≤ sizeLine; decide)
      cases t with
      | v => exact ep_if (b := false) ((et_test (ep_op (ep_op (ep_var rfl) ep_int (rd_ixT rfl)) lm (rd_inS (neg := false)))).cast (by decide +kernel)) (fun z => by cases z) fun _ => ep_var rfl
      | o l u => exact ep_if (b := true) ((et_test (ep_op (ep_op (ep_var rfl) ep_int (rd_ixT rfl)) lm (rd_inS (neg := false)))).cast (by cases l <;> decide +kernel)) (fun _ => t1 rfl) fun z => by cases z
      | r fs => exact ep_if (b := false) ((et_test (ep_op (ep_op (ep_var rfl) ep_int (rd_ixT rfl)) lm (rd_inS (neg := false)))).cast (by decide +kernel)) (fun z => by cases z) fun _ => ep_var rfl
    have hko := kids_oab (K := K) (n := n) (last := last) hi
    generalize hhere : (if (match t with | .o _ _ => true | _ => false) then ((n : Nat) : Int) else last) = here at hko ⊢
    show SW _ [.sh (trN t n), .sh (.int ((n + i : Nat) : Int)), .sh (.int last), .sh (.int here), .un, .un] _
    refine sw_guard (b := decide (i = 0)) ((et_test (ep_op (t1 rfl) (ep_var rfl) rd_eqI)).cast (decide_eq_decide.mpr (by omega))) (fun z => ?_) (fun z => ?_)
    · have z := of_decide_eq_true z
      subst z
      rcases hko with ⟨_, e⟩ | ⟨h, _⟩
      · exact sw_ret (d := .int (oab t n 0 last)) (by rw [e]; exact ep_var rfl) ⟨rfl, trivial⟩
      · omega
    have z := of_decide_eq_false z
    rcases hko with ⟨h, _⟩ | ⟨_, ks, k1, k3, pre, p, suf, eks, h1, h2, h3, h4⟩
    · exact absurd h z
    refine sw_seq (fun _ => False) (sw_for (fun j Γ' => j ≤ pre.length ∧ ∃ e4, Γ' = [.sh (trN t n), .sh (.int ((n + i : Nat) : Int)), .sh (.int last), .sh (.int here), e4, .un]) (wi_tup (k1 rfl)) ⟨Nat.zero_le _, _, rfl⟩ ?_ (fun Γ' ⟨h, _⟩ => by
      rw [List.length_map, eks, List.length_append, List.length_cons] at h; omega)) (fun Γ' h => h.elim)
    rintro j d _ hdj ⟨hj, e4, rfl⟩
    rw [List.getElem?_map, Option.map_eq_some_iff] at hdj
    obtain ⟨q, hq, rfl⟩ := hdj
    have hm := List.mem_of_getElem? hq
    obtain ⟨q1, q2⟩ := k3 q hm
    refine ⟨_, gt_name, ?_⟩
    show SW _ [.sh (trN t n), .sh (.int ((n + i : Nat) : Int)), .sh (.int last), .sh (.int here), .sh (trN q.1 q.2), .un] _
    have hin : EtP (tTest (tOp (rIn K false) (tVar 1) (tLc (iList K (tCall (spE (C_all 7)) [] E0 (tCons (tVar 4) tNil))) (gName 5) tYes (tOp (rIxT K) (tVar 5) (tC (.int 1))) [5]))) [.sh (trN t n), .sh (.int ((n + i : Nat) : Int)), .sh (.int last), .sh (.int here), .sh (trN q.1 q.2), .un] (decide (q.2 ≤ n + i ∧ n + i < q.2 + sz q.1)) := by
      refine EtP.cast (et_test (ep_op (x := .int ((n + i : Nat) : Int)) (y := .lst ((((subs q.1 q.2).map (·.2)).map fun (x : Nat) => (x : Int)).map D.int)) (ep_var rfl) (EvF.p (EvF.cast (ef_map (subs q.1 q.2) (fun p => trN p.1 p.2) (fun p => D.int (p.2 : Nat)) (wi_list (ep_call (z := .lst (suD (subs q.1 q.2))) (ea_cons (ep_var rfl) ea_nil) ⟨q.1, q.2, rfl, by omega, by omega, rfl⟩ fun e _ h => h)) (by rw [subs_len, sizeLine_eq]; omega) fun s hs => ⟨_, gv_name (by simp), ?_⟩) (by rw [List.map_map, List.map_map]; rfl))) (rd_inIL (neg := false)))) ?_
      · obtain ⟨s1, s2⟩ := s
        cases s1 <;> exact ep_op (ep_var rfl) ep_int (rd_ixT rfl)
      · show decide _ = _
        refine decide_eq_decide.mpr ?_
        rw [subs_ix]
        constructor
        · intro h
          obtain ⟨x, hx, e⟩ := List.mem_map.mp h
          obtain ⟨y, hy, rfl⟩ := List.mem_map.mp hx
          have := List.mem_range.mp hy
          omega
        · intro h
          exact List.mem_map.mpr ⟨n + i, List.mem_map.mpr ⟨n + i - q.2, List.mem_range.mpr (by omega), by omega⟩, rfl⟩
    by_cases hjp : j < pre.length
    · have hqp : q ∈ pre := by
        rw [eks, List.getElem?_append_left hjp] at hq
        exact List.mem_of_getElem? hq
      have := h1 q hqp
      exact sw_if (b := false) (hin.cast (decide_eq_false (by omega))) (fun z => absurd z Bool.false_ne_true) fun _ => sw_next ⟨by omega, _, rfl⟩
    · have ej : j = pre.length := by omega
      subst ej
      rw [eks, List.getElem?_append_right (Nat.le_refl _), Nat.sub_self] at hq
      cases hq
      refine sw_if (b := true) (hin.cast (decide_eq_true ⟨h2, h3⟩)) (fun _ => ?_) fun z => by cases z
      refine sw_ret (d := .int (oab t n i last)) (EvP.cast (ep_call (z := .int (oab p.1 p.2 (n + i - p.2) here)) (ea_cons (x := trN p.1 p.2) (ep_var rfl) (ea_cons (x := .int ((p.2 + (n + i - p.2) : Nat) : Int)) (EvP.cast (ep_var rfl) (by rw [show p.2 + (n + i - p.2) = n + i by omega])) (ea_cons (ep_var rfl) ea_nil))) ⟨p.1, p.2, n + i - p.2, here, rfl, by omega, by omega, by omega, rfl⟩ fun e _ h => h) (by rw [h4])) ⟨rfl, trivial⟩
end
end Lw
set_option Elab.async false
set_option linter.all false
set_option maxRecDepth 100000
set_option autoImplicit false
set_option maxHeartbeats 4000000
namespace DL
open PySem PySem.Spec PyProof.Rows L2
abbrev rInKd (K : PySem.W.Frag) (d : Addr) : R2 := fun x y H Q => ∃ (z : Str) (r : Option Value), x = .str z ∧ y = .ref d ∧ PySem.W.nsIn K d z = some r ∧ Q (.bl r.isSome) H
theorem rd_inKd {K : PySem.W.Frag} {d : Addr} {z : Str} {r : Option Value} (h : PySem.W.nsIn K d z = some r) : RD (rInKd K d) (.str z) (.ref d) (.bl r.isSome) := fun F H vx vy e rx ry Q k => ⟨z, r, rx, ry, h, k _ F H (.refl e) rfl⟩
theorem rd_ixKd {K : PySem.W.Frag} {w : World} {d : Addr} {z s : Str} (h : KDct K w d z (.str s)) : RD (rIxD K w) (.ref d) (.str z) (.str s) := fun F H vx vy e rx ry Q k => ⟨d, z, .str s, rx, ry, h, k _ F H (.refl e) rfl⟩
end DL
namespace Lw
open PySem PySem.Spec PyProof.Rows L2 DL
local macro_rules | `(tactic| walk_at "sd") => `(tactic| first
  | assumption
  | exact .inl ⟨by decide, by decide⟩ | exact ⟨by decide, by decide, by decide⟩ | exact ⟨by decide, by decide⟩
  | (show (0 : Int) < _; first | decide | omega) | exact ⟨by omega, by omega⟩ | exact .inl ⟨by omega, by omega⟩ | exact .inr ⟨by omega, by omega⟩ | exact .inr ⟨by decide, by decide⟩ | omega)
local macro_rules | `(tactic| walk_at "ep") => `(tactic| first
  | exact ep_int | exact ep_str | exact ep_bl | exact ep_non | exact ep_ref | exact ep_ty
  | exact ep_var rfl
  | (refine' ep_ixM (.inr rfl) ?ka ?kr; (case ka => walk_at "ep"); (case kr => exact rfl))
  | (refine' ep_ixM (.inl rfl) ?ka ?kr; (case ka => walk_at "ep"); (case kr => exact rfl))
  | (refine' ep_op ?ka ?kb rd_I0i; (case ka => walk_at "ep"); (case kb => walk_at "ep"))
  | (refine' ep_op ?ka ?kb rd_I0b; (case ka => walk_at "ep"); (case kb => walk_at "ep"))
  | (refine' ep_op ?ka ?kb (rd_Ii ?sd); (case ka => walk_at "ep"); (case kb => walk_at "ep"); (case sd => walk_at "sd"))
  | (refine' ep_op ?ka ?kb rd_eqI; (case ka => walk_at "ep"); (case kb => walk_at "ep"))
  | (refine' ep_op ?ka ?kb rd_eqS; (case ka => walk_at "ep"); (case kb => walk_at "ep"))
  | (refine' ep_op ?ka ?kb rd_neI; (case ka => walk_at "ep"); (case kb => walk_at "ep"))
  | (refine' ep_op ?ka ?kb rd_neS; (case ka => walk_at "ep"); (case kb => walk_at "ep")))
local macro_rules | `(tactic| walk_at "et") => `(tactic| first
  | (refine' et_test ?ka; (case ka => walk_at "ep"))
  | (refine' et_not ?ka; (case ka => walk_at "et"))
  | (refine' et_and ?ka fun _ => ?kb; (case ka => walk_at "et"); (case kb => walk_at "et"))
  | (refine' et_or ?ka fun _ => ?kb; (case ka => walk_at "et"); (case kb => walk_at "et")))
/-- what the class Schema's text names -/
structure Sx (K : PySem.W.Frag) (w : World) (mg : Str → Option Value) (CS C kd : Addr) (es : Array DictEntry) (n : Nat) : Prop where
  rx : Rx K w mg C kd es n
  z_tuple : mg "tuple" = none
  z_enumerate : mg "enumerate" = none
  z_range : mg "range" = none
  z_zip : mg "zip" = none
  cls : Cls K CS
  f_text : NoAttr K CS "_text"
  f_node_kinds : NoAttr K CS "node_kinds"
  f_parents : NoAttr K CS "parents"
  f_names : NoAttr K CS "names"
  f_children : NoAttr K CS "children"
  f_spans : NoAttr K CS "spans"
  f_nodes_of_leaves : NoAttr K CS "nodes_of_leaves"
  f_leaves_of_nodes : NoAttr K CS "leaves_of_nodes"
  f_levels : NoAttr K CS "levels"
theorem Sx.z_len {K : PySem.W.Frag} {w : World} {mg : Str → Option Value} {CS C kd : Addr} {es : Array DictEntry} {n : Nat} (T : Sx K w mg CS C kd es n) : mg "len" = none := T.rx.z_len
theorem sc_line_to : FnScope ["schema", "node", "line"] ["schema", "node"] (defScope s_line_to) := ⟨rfl, rfl, rfl, by decide +kernel, rfl, by decide +kernel, by decide +kernel⟩
theorem sc_open_line_to : FnScope ["schema", "node", "above"] ["schema", "node"] (defScope s_open_line_to) := ⟨rfl, rfl, rfl, by decide +kernel, rfl, by decide +kernel, by decide +kernel⟩
theorem sc__leaves_from : FnScope ["schema", "node", "leaf", "place"] ["schema", "node"] (defScope s__leaves_from) := ⟨rfl, rfl, rfl, by decide +kernel, rfl, by decide +kernel, by decide +kernel⟩
theorem sc__count_levels : FnScope ["schema", "node", "line", "above"] ["schema", "node"] (defScope s__count_levels) := ⟨rfl, rfl, rfl, by decide +kernel, rfl, by decide +kernel, by decide +kernel⟩
theorem enD_str (ks : List Str) : enD (ks.map D.str) = (List.range ks.length).map fun (i : Nat) => D.tup [.int (i : Int), .str (ks.getD i "")] := by
  unfold enD
  rw [List.length_map]
  refine List.map_congr_left fun i hi => ?_
  have h : i < ks.length := List.mem_range.mp hi
  simp [h]
theorem filterMap_if {α β : Type} (p : α → Bool) (g : α → β) : ∀ l : List α, (l.filterMap fun x => if p x = true then some (g x) else none) = (l.filter p).map g
  | [] => rfl
  | x :: l => by
    rw [List.filterMap_cons, List.filter_cons]
    cases h : p x <;> simp [h, filterMap_if p g l]
section
variable {P : Program} {w : World} {K : PySem.W.Frag} {mg : Str → Option Value} {base : Heap} {f : Addr} {fd : FuncData} {CS C kd sw : Addr} {es es2 : Array DictEntry} {n n2 : Nat}
theorem pa_get {t : Tr} {i : Nat} (h : i < sz t) {x : Int} (e : (pa t 0 (-1))[i]? = some x) : atI ((pa t 0 (-1)).map D.int) (i : Nat) = some (.int x) := atI_nat (by rw [List.getElem?_map, e]; rfl)
theorem kd_get {t : Tr} {i : Nat} {x : Str} (e : (Lw.kd t)[i]? = some x) : atI ((Lw.kd t).map D.str) (i : Nat) = some (.str x) := atI_nat (by rw [List.getElem?_map, e]; rfl)
def C_line (CS : Addr) : Cn := fun Γ R => ∃ (t : Tr) (i : Nat) (more : List (Str × D)), Γ = [.sh (schP CS t more), .sh (.int (i : Nat))] ∧ i < sz t ∧ sz t ≤ 40 ∧ R = fun d _ => d = .lst (iD (an t 0 i))
theorem ok_line (T : Sx K w mg CS C kd es n) (F : FnP K "line_to" s_line_to f fd) : FnOk P w K mg base CX0 1 f fd ["schema", "node"] (spE (C_line CS)) := by
  refine fn_ok F sc_line_to (fun Γ R ⟨t, i, _, h, _⟩ => by subst h; rfl) fun cdv A outer s H E hr => ⟨_, (pss_cons (ps_set (i := 2) sc_line_to.nd rfl (by first | exact Or.inl rfl | exact Or.inr rfl) (pe_lst pa_nil))
      (pss_cons (ps_while PassesOwn.never (pt_cmpR op_ge (pv 1) pe_int (nomark _)) (pss_cons (ps_expr (pe_bm PySem.F.plainAttrs_list PySem.F.slot_list_append PySem.F.type_list_append mt_append (pv 2) (pa_cons (pv 1) pa_nil)))
      (pss_one (ps_set (i := 1) sc_line_to.nd rfl (by first | exact Or.inl rfl | exact Or.inr rfl) (pe_ix ix_tup (pe_fld (pv 0) rfl) (pv 1) (fun _ _ => rfl))))))
      (pss_one (ps_ret (pe_revL (pv 2)))))), ?_⟩
  rintro Γ R ⟨t, i, more, rfl, hi, h40, rfl⟩ _
  show SW _ [.sh (schP CS t more), .sh (.int (i : Nat)), .un] _
  have hl := an_len t 0 i hi
  refine q_asgF (ds := []) (ef_lst ea_nil (Nat.zero_le _)) ?_
  show SW _ [.sh (schP CS t more), .sh (.int (i : Nat)), .own []] _
  refine sw_seq (fun Γ' => ∃ p : Int, Γ' = [.sh (schP CS t more), .sh (.int p), .own (iD (an t 0 i).reverse)])
    (sw_while (fun m Γ' => ∃ (pre suf : List Nat), m = pre.length ∧ an t 0 i = pre ++ suf ∧ Γ' = [.sh (schP CS t more), .sh (.int ((pre.getLast?.map fun (y : Nat) => (y : Int)).getD (-1))), .own (iD suf.reverse)]) (an t 0 i).length ⟨an t 0 i, [], rfl, by simp, by rw [an_last t 0 i hi]; simp [iD]⟩ ?_) ?_
  · rintro m Γi ⟨pre, suf, rfl, e, rfl⟩
    rcases List.eq_nil_or_concat pre with rfl | ⟨pre, x, rfl⟩
    · refine ⟨false, (et_test (ep_op (ep_var rfl) ep_int rd_I0b)).cast (by rfl), fun z => absurd z Bool.false_ne_true, fun _ => ⟨_, by rw [e]; rfl⟩⟩
    · rw [List.concat_eq_append] at e ⊢
      have e' : an t 0 i = pre ++ x :: suf := by rw [e]; simp
      have e0 : (((pre ++ [x]).getLast?.map fun (y : Nat) => (y : Int)).getD (-1)) = (x : Int) := by simp
      rw [e0]
      refine ⟨true, (et_test (ep_op (ep_var rfl) ep_int rd_I0b)).cast (decide_eq_true (by omega)), fun _ => ?_, fun z => absurd z.symm Bool.false_ne_true⟩
      obtain ⟨j, h1, h2⟩ := an_par t 0 (-1) i pre x suf hi e'
      have hj : x = j := by omega
      subst hj
      have hx : x < sz t := by have := (List.getElem?_eq_some_iff.mp h2).1; rwa [pa_len] at this
      have hsl : suf.length < 40 := by
        have := congrArg List.length e'
        rw [List.length_append, List.length_cons] at this
        omega
      refine q_app (ds := iD suf.reverse) (d := .int (x : Nat)) (.inl rfl) (ep_var rfl) (by unfold iD; rw [List.length_map, List.length_reverse]; exact Nat.lt_trans hsl (by decide)) ?_
      have e1 : iD suf.reverse ++ [D.int (x : Nat)] = iD (x :: suf).reverse := by simp [iD]
      refine sw_asg (d := .int ((pre.getLast?.map fun (y : Nat) => (y : Int)).getD (-1))) (ep_op (ep_fld (ep_var rfl) T.cls T.f_parents rfl) (ep_var rfl) (rd_ixT (pa_get hx h2))) ?_
      exact ⟨pre.length, by simp, pre, x :: suf, rfl, e', by rw [← e1]; rfl⟩
  · rintro _ ⟨p, rfl⟩
    refine sw_frz (i := 2) rfl ?_
    exact sw_ret (d := .lst (iD (an t 0 i))) ((ef_rev (ep_var rfl)).p.cast (by simp [iD])) ⟨rfl, trivial⟩
/-- what SIGN_IN_WAY holds -/
structure Wx (K : PySem.W.Frag) (w : World) (mg : Str → Option Value) (sw : Addr) (es : Array DictEntry) (n : Nat) : Prop where
  g : ∃ u, mg "SIGN_IN_WAY" = some u ∧ RelV (.ref sw) u
  dk : KDict K w sw es n
  l : KDct K w sw "list" (.str "l")
  m : KDct K w sw "maybe" (.str "m")
  v : PySem.W.nsIn K sw "value" = some none
  r : PySem.W.nsIn K sw "record" = some none
mutual
theorem kd_mem : ∀ (t : Tr), ∀ k ∈ Lw.kd t, k = "value" ∨ k = "list" ∨ k = "maybe" ∨ k = "record"
  | .v, k, h => by simp [Lw.kd] at h; exact .inl h
  | .o true t, k, h => by
    simp only [Lw.kd, List.mem_cons] at h
    rcases h with h | h
    · exact .inr (.inl h)
    · exact kd_mem t k h
  | .o false t, k, h => by
    simp only [Lw.kd, List.mem_cons] at h
    rcases h with h | h
    · exact .inr (.inr (.inl h))
    · exact kd_mem t k h
  | .r fs, k, h => by
    simp only [Lw.kd, List.mem_cons] at h
    rcases h with h | h
    · exact .inr (.inr (.inr h))
    · exact kds_mem fs k h
theorem kds_mem : ∀ (fs : List (Str × Tr)), ∀ k ∈ kds fs, k = "value" ∨ k = "list" ∨ k = "maybe" ∨ k = "record"
  | [], k, h => by simp [kds] at h
  | (_, t) :: r, k, h => by
    simp only [kds, List.mem_append] at h
    rcases h with h | h
    · exact kd_mem t k h
    · exact kds_mem r k h
end
theorem Wx.isIn (W : Wx K w mg sw es2 n2) {k : Str} (h : k = "value" ∨ k = "list" ∨ k = "maybe" ∨ k = "record") : ∃ r, PySem.W.nsIn K sw k = some r ∧ r.isSome = opK k := by
  rcases h with rfl | rfl | rfl | rfl
  · exact ⟨none, W.v, by decide⟩
  · obtain ⟨_, _, u, _, _, h, _⟩ := W.l; exact ⟨some u, h, by rw [show opK "list" = true by decide]; rfl⟩
  · obtain ⟨_, _, u, _, _, h, _⟩ := W.m; exact ⟨some u, h, by rw [show opK "maybe" = true by decide]; rfl⟩
  · exact ⟨none, W.r, by decide⟩
theorem Wx.sg (W : Wx K w mg sw es2 n2) {k : Str} (h : opK k = true) : KDct K w sw k (.str (sgK k)) := by
  unfold opK at h
  rw [Bool.or_eq_true, decide_eq_true_eq, decide_eq_true_eq] at h
  rcases h with rfl | rfl
  · exact W.l
  · exact W.m
theorem line_kd {t : Tr} {i x : Nat} (hi : i < sz t) (h : x ∈ an t 0 i) : x < sz t ∧ ∃ k, (Lw.kd t)[x]? = some k ∧ (Lw.kd t).getD x "" = k ∧ (k = "value" ∨ k = "list" ∨ k = "maybe" ∨ k = "record") := by
  have hx : x < sz t := by have := an_rng t 0 i hi x h; omega
  have hx' : x < (Lw.kd t).length := by rw [kd_len]; exact hx
  exact ⟨hx, (Lw.kd t)[x], List.getElem?_eq_getElem hx', getD_of (List.getElem?_eq_getElem hx'), kd_mem t _ (List.getElem_mem hx')⟩
def C_oline (CS : Addr) : Cn := fun Γ R => ∃ (t : Tr) (i : Nat) (more : List (Str × D)), Γ = [.sh (schP CS t more), .sh (.int (i : Nat))] ∧ i < sz t ∧ sz t ≤ 40 ∧ R = fun d _ => d = .lst (iD (opl (Lw.kd t) (an t 0 i)))
theorem ok_oline (T : Sx K w mg CS C kd es n) (W : Wx K w mg sw es2 n2) (c_line_to : Cal P w K mg base 1 "line_to" (spE (C_line CS))) (F : FnP K "open_line_to" s_open_line_to f fd) : FnOk P w K mg base CX0 2 f fd ["schema", "node"] (spE (C_oline CS)) := by
  refine fn_ok F sc_open_line_to (fun Γ R ⟨t, i, _, h, _⟩ => by subst h; rfl) fun cdv A outer s H E hr => ⟨_, (pss_one (ps_ret (pe_lc (own := [("above", 2)]) (g := (gName 2)) rfl sc_open_line_to.nd (pi_list (pe_c c_line_to hr (by first | decide | omega) rfl (pa_cons (pv 0) (pa_cons (pv 1) pa_nil)))) (blkOk_by (own := [("above", 2)]) (N := ["schema", "node", "above"]) (sc := defScope s_open_line_to) (by decide +kernel)) (fun _ _ _ _ _ => (pg_name (i := 2) sc_open_line_to.nd rfl (Or.inl rfl))) (fun _ _ _ _ _ => pts_one (pt_cmpR (show OpR _ (compareOp .In) (rInKd K sw) from op_in_kd W.dk) (pe_ix (show IxR _ (rIxT K) from ix_tup) (pe_fldK (K := K) (pv 0) rfl) (pv 2) (fun _ _ => rfl)) (pe_gc rfl W.g) (by rfl))) (fun _ _ _ _ _ => (pv 2))))), ?_⟩
  rintro Γ R ⟨t, i, more, rfl, hi, h40, rfl⟩ _
  show SW _ [.sh (schP CS t more), .sh (.int (i : Nat)), .un] _
  have hl := an_len t 0 i hi
  refine sw_ret (d := .lst (iD (opl (Lw.kd t) (an t 0 i)))) ((EvF.cast (ef_lc (an t 0 i) (fun x => .int (x : Nat)) (fun x => if opK ((Lw.kd t).getD x "") = true then some (.int (x : Nat)) else none) (wi_list (ep_call (z := .lst (iD (an t 0 i))) (ea_cons (ep_var rfl) (ea_cons (ep_var rfl) ea_nil)) ⟨t, i, _, rfl, hi, h40, rfl⟩ fun e _ h => h)) (Nat.lt_of_le_of_lt (Nat.le_trans hl h40) (by decide)) fun x hx => ?_) ?_).p) ⟨rfl, trivial⟩
  · obtain ⟨h1, k, h2, h3, h4⟩ := line_kd hi hx
    obtain ⟨r, k1, k2⟩ := W.isIn h4
    refine ⟨_, gv_name (by simp), (et_test (b := opK k) ((ep_op (ep_op (ep_fld (ep_var rfl) T.cls T.f_node_kinds rfl) (ep_var rfl) (rd_ixT (kd_get h2))) ep_ref (rd_inKd k1)).cast ?_)).cast ?_, ?_⟩
    · rw [k2]
    · rw [h3]; cases opK k <;> rfl
    · intro e he
      rw [h3] at he
      split at he
      · cases he; exact ep_var rfl
      · cases he
  · exact filterMap_if (fun x => opK ((Lw.kd t).getD x "")) (fun (x : Nat) => D.int (x : Nat)) _
end
end Lw
set_option Elab.async false
set_option linter.all false
set_option maxRecDepth 100000
set_option autoImplicit false
set_option maxHeartbeats 4000000
namespace Lw
open PySem PySem.Spec PyProof.Rows L2 DL
local macro_rules | `(tactic| walk_at "sd") => `(tactic| first
  | assumption
  | exact .inl ⟨by decide, by decide⟩ | exact ⟨by decide, by decide, by decide⟩ | exact ⟨by decide, by decide⟩
  | (show (0 : Int) < _; first | decide | omega) | exact ⟨by omega, by omega⟩ | exact .inl ⟨by omega, by omega⟩ | exact .inr ⟨by omega, by omega⟩ | exact .inr ⟨by decide, by decide⟩ | omega)
local macro_rules | `(tactic| walk_at "ep") => `(tactic| first
  | exact ep_int | exact ep_str | exact ep_bl | exact ep_non | exact ep_ref | exact ep_ty
  | exact ep_var rfl
  | (refine' ep_ixM (.inr rfl) ?ka ?kr; (case ka => walk_at "ep"); (case kr => exact rfl))
  | (refine' ep_ixM (.inl rfl) ?ka ?kr; (case ka => walk_at "ep"); (case kr => exact rfl))
  | (refine' ep_op ?ka ?kb rd_I0i; (case ka => walk_at "ep"); (case kb => walk_at "ep"))
  | (refine' ep_op ?ka ?kb rd_I0b; (case ka => walk_at "ep"); (case kb => walk_at "ep"))
  | (refine' ep_op ?ka ?kb (rd_Ii ?sd); (case ka => walk_at "ep"); (case kb => walk_at "ep"); (case sd => walk_at "sd"))
  | (refine' ep_op ?ka ?kb rd_eqI; (case ka => walk_at "ep"); (case kb => walk_at "ep"))
  | (refine' ep_op ?ka ?kb rd_eqS; (case ka => walk_at "ep"); (case kb => walk_at "ep"))
  | (refine' ep_op ?ka ?kb rd_neI; (case ka => walk_at "ep"); (case kb => walk_at "ep"))
  | (refine' ep_op ?ka ?kb rd_neS; (case ka => walk_at "ep"); (case kb => walk_at "ep")))
local macro_rules | `(tactic| walk_at "et") => `(tactic| first
  | (refine' et_test ?ka; (case ka => walk_at "ep"))
  | (refine' et_not ?ka; (case ka => walk_at "et"))
  | (refine' et_and ?ka fun _ => ?kb; (case ka => walk_at "et"); (case kb => walk_at "et"))
  | (refine' et_or ?ka fun _ => ?kb; (case ka => walk_at "et"); (case kb => walk_at "et")))
section
variable {P : Program} {w : World} {K : PySem.W.Frag} {mg : Str → Option Value} {base : Heap} {f : Addr} {fd : FuncData} {CS C kd sw : Addr} {es es2 : Array DictEntry} {n n2 : Nat}
theorem enD_int (l : List Nat) : enD (iD l) = (List.range l.length).map fun (i : Nat) => D.tup [.int (i : Int), .int (l.getD i 0 : Nat)] := by
  unfold enD iD
  rw [List.length_map]
  refine List.map_congr_left fun i hi => ?_
  have h : i < l.length := List.mem_range.mp hi
  simp [h]
theorem lvN_at {t : Tr} {l : Nat} (h : l < (lvN (Lw.kd t)).length) : (lvN (Lw.kd t)).getD l 0 < sz t := by
  rw [List.getD_eq_getElem?_getD, List.getElem?_eq_getElem h]
  have m : (lvN (Lw.kd t))[l] ∈ lvN (Lw.kd t) := List.getElem_mem h
  show (lvN (Lw.kd t))[l] < sz t
  generalize (lvN (Lw.kd t))[l] = x at m
  unfold lvN at m
  rw [List.mem_filter, List.mem_range, kd_len] at m
  exact m.1
theorem lvN_le (t : Tr) : (lvN (Lw.kd t)).length ≤ sz t := by
  unfold lvN
  refine Nat.le_trans (List.length_filter_le ..) ?_
  rw [List.length_range, kd_len]; exact Nat.le_refl _
def C_lf (CS : Addr) : Cn := fun Γ R => ∃ (t : Tr) (i : Nat) (more : List (Str × D)), Γ = [.sh (schP CS t more), .sh (.int (i : Nat))] ∧ i < sz t ∧ sz t ≤ 40 ∧ R = fun d _ => d = .tup (iD (lfN t i))
theorem ok_lf (T : Sx K w mg CS C kd es n) (c_line_to : Cal P w K mg base 1 "line_to" (spE (C_line CS))) (F : FnP K "_leaves_from" s__leaves_from f fd) : FnOk P w K mg base CX0 2 f fd ["schema", "node"] (spE (C_lf CS)) := by
  refine fn_ok F sc__leaves_from (fun Γ R ⟨t, i, _, h, _⟩ => by subst h; rfl) fun cdv A outer s H E hr => ⟨_, (pss_one (ps_ret (pe_callTy call_tuple_of rfl T.z_tuple (by decide +kernel) (pa_cons (pe_lc (own := [("leaf", 2), ("place", 3)]) (g := (gTup K 2 (gCons (gName 2) (gCons (gName 3) gNil)))) rfl sc__leaves_from.nd (pi_enumT rfl T.z_enumerate (pa_cons (pe_fld (pv 0) rfl) pa_nil)) (blkOk_by (own := [("leaf", 2), ("place", 3)]) (N := ["schema", "node", "leaf", "place"]) (sc := defScope s__leaves_from) (by decide +kernel)) (fun _ _ _ _ _ => (pg_tup rfl (pgs_cons (pg_name (i := 2) sc__leaves_from.nd rfl (Or.inl rfl)) (pgs_cons (pg_name (i := 3) sc__leaves_from.nd rfl (Or.inl rfl)) pgs_nil)))) (fun _ _ _ _ _ => pts_one (pt_cmpR (show OpR _ (compareOp .In) (rIn K false) from op_in_seq) (pv 1) (pe_c c_line_to hr (by first | decide | omega) rfl (pa_cons (pv 0) (pa_cons (pv 3) pa_nil))) (by rfl))) (fun _ _ _ _ _ => (pv 2))) pa_nil)))), ?_⟩
  rintro Γ R ⟨t, i, more, rfl, hi, h40, rfl⟩ _
  show SW _ [.sh (schP CS t more), .sh (.int (i : Nat)), .un, .un] _
  have hle := lvN_le t
  refine sw_ret (d := .tup (iD (lfN t i))) (ep_cb (ea_cons (EvF.p (EvF.cast (ef_lc (List.range (lvN (Lw.kd t)).length) (fun l => .tup [.int (l : Nat), .int ((lvN (Lw.kd t)).getD l 0 : Nat)]) (fun l => if decide (i ∈ an t 0 ((lvN (Lw.kd t)).getD l 0)) = true then some (.int (l : Nat)) else none) ?_ ?_ ?_) ?_)) ea_nil) rc_tuple) ⟨rfl, trivial⟩
  · have := wi_enumZ (K := K) (ta := tCons (tFld K (tVar 0) "nodes_of_leaves") tNil) (Γ := [.sh (schP CS t more), .sh (.int (i : Nat)), .un, .un]) (ds := iD (lvN (Lw.kd t))) (ea_cons (ep_fld (ep_var rfl) T.cls T.f_nodes_of_leaves rfl) ea_nil)
    rw [enD_int] at this
    exact this
  · rw [List.length_range]; exact Nat.lt_of_le_of_lt (Nat.le_trans hle h40) (by decide)
  · refine fun l hl => ?_
    have hx := lvN_at (t := t) (List.mem_range.mp hl)
    have hin : (List.map (fun (m : Nat) => (m : Int)) (an t 0 ((lvN (Lw.kd t)).getD l 0))).map D.int = iD (an t 0 ((lvN (Lw.kd t)).getD l 0)) := by unfold iD; rw [List.map_map]; rfl
    have hd : decide ((i : Int) ∈ List.map (fun (m : Nat) => (m : Int)) (an t 0 ((lvN (Lw.kd t)).getD l 0))) = decide (i ∈ an t 0 ((lvN (Lw.kd t)).getD l 0)) := by
      refine decide_eq_decide.mpr ⟨fun h => ?_, fun h => List.mem_map.mpr ⟨i, h, rfl⟩⟩
      obtain ⟨m, hm, e⟩ := List.mem_map.mp h
      have e' : m = i := by omega
      exact e' ▸ hm
    refine ⟨_, gv_tup2 (by simp) (by simp), ?_, ?_⟩
    · refine EtP.cast (et_test (ep_op (ep_var rfl) (ep_call (z := .lst (iD (an t 0 ((lvN (Lw.kd t)).getD l 0)))) (ea_cons (ep_var rfl) (ea_cons (ep_var rfl) ea_nil)) ⟨t, _, _, rfl, hx, h40, rfl⟩ fun e _ h => h) (hin ▸ rd_inIL (neg := false)))) ?_
      rw [if_neg Bool.false_ne_true, hd]
      cases decide (i ∈ an t 0 ((lvN (Lw.kd t)).getD l 0)) <;> rfl
    · intro e he
      split at he
      · cases he; exact ep_var rfl
      · cases he
  · unfold lfN
    exact filterMap_if (fun l => decide (i ∈ an t 0 ((lvN (Lw.kd t)).getD l 0))) (fun (l : Nat) => D.int (l : Nat)) _
def C_kc (CS : Addr) : Cn := fun Γ R => ∃ (t : Tr) (i : Nat) (more : List (Str × D)), Γ = [.sh (schP CS t more), .sh (.int (i : Nat))] ∧ i < sz t ∧ sz t ≤ 40 ∧ R = fun d _ => d = .tup [.int ((opl (Lw.kd t) (an t 0 i)).length : Nat), .int ((lsN t i).length : Nat)]
theorem ok_kc (T : Sx K w mg CS C kd es n) (c_open_line_to : Cal P w K mg base 2 "open_line_to" (spE (C_oline CS))) (F : FnP K "_count_levels" s__count_levels f fd) : FnOk P w K mg base CX0 3 f fd ["schema", "node"] (spE (C_kc CS)) := by
  refine fn_ok F sc__count_levels (fun Γ R ⟨t, i, _, h, _⟩ => by subst h; rfl) fun cdv A outer s H E hr => ⟨_, (pss_cons (ps_set (i := 2) sc__count_levels.nd rfl (by first | exact Or.inl rfl | exact Or.inr rfl) (pe_c c_open_line_to hr (by first | decide | omega) rfl (pa_cons (pv 0) (pa_cons (pv 1) pa_nil))))
      (pss_one (ps_ret (pe_tup (pa_cons (pe_callB call_len_seq rfl T.z_len (by decide +kernel) (pa_cons (pv 2) pa_nil)) (pa_cons (pe_callB call_len_seq rfl T.z_len (by decide +kernel) (pa_cons (pe_lc (own := [("above", 3)]) (g := (gName 3)) rfl sc__count_levels.nd (pi_list (pv 2)) (blkOk_by (own := [("above", 3)]) (N := ["schema", "node", "line", "above"]) (sc := defScope s__count_levels) (by decide +kernel)) (fun _ _ _ _ _ => (pg_name (i := 3) sc__count_levels.nd rfl (Or.inl rfl))) (fun _ _ _ _ _ => pts_one (pt_cmpR op_eq (pe_ix (show IxR _ (rIxT K) from ix_tup) (pe_fldK (K := K) (pv 0) rfl) (pv 3) (fun _ _ => rfl)) pe_str (nomark _))) (fun _ _ _ _ _ => (pv 3))) pa_nil)) pa_nil)))))), ?_⟩
  rintro Γ R ⟨t, i, more, rfl, hi, h40, rfl⟩ _
  show SW _ [.sh (schP CS t more), .sh (.int (i : Nat)), .un, .un] _
  have hl := an_len t 0 i hi
  have hol : (opl (Lw.kd t) (an t 0 i)).length ≤ 40 := Nat.le_trans (List.length_filter_le ..) (Nat.le_trans hl h40)
  refine q_asg (d := .lst (iD (opl (Lw.kd t) (an t 0 i)))) (ep_call (ea_cons (ep_var rfl) (ea_cons (ep_var rfl) ea_nil)) ⟨t, i, _, rfl, hi, h40, rfl⟩ fun e _ h => h) ?_
  show SW _ [.sh (schP CS t more), .sh (.int (i : Nat)), .sh (.lst (iD (opl (Lw.kd t) (an t 0 i)))), .un] _
  refine sw_ret (d := .tup [.int ((opl (Lw.kd t) (an t 0 i)).length : Nat), .int ((lsN t i).length : Nat)]) (ep_tup (ea_cons ((ep_cb (ea_cons (ep_var rfl) ea_nil) rc_len).cast (by rw [show (iD (opl (Lw.kd t) (an t 0 i))).length = (opl (Lw.kd t) (an t 0 i)).length by unfold iD; rw [List.length_map]])) (ea_cons ((ep_cb (z := .int ((iD (lsN t i)).length : Nat)) (ea_cons (x := .lst (iD (lsN t i))) (EvF.p (EvF.cast (ef_lc (opl (Lw.kd t) (an t 0 i)) (fun x => .int (x : Nat)) (fun x => if decide ((Lw.kd t).getD x "" = ("list" : Str)) = true then some (.int (x : Nat)) else none) (wi_list (ep_var rfl)) ?_ ?_) ?_)) ea_nil) rc_len).cast ?_) ea_nil)) (by show 2 ≤ sizeLine; decide)) ⟨rfl, trivial⟩
  · exact Nat.lt_of_le_of_lt hol (by decide)
  · intro x hx
    unfold opl at hx
    have hm := (List.mem_filter.mp hx).1
    obtain ⟨h1, k, h2, h3, h4⟩ := line_kd hi hm
    refine ⟨_, gv_name (by simp), EtP.cast (et_test (ep_op (ep_op (ep_fld (ep_var rfl) T.cls T.f_node_kinds rfl) (ep_var rfl) (rd_ixT (kd_get h2))) ep_str rd_eqS)) ?_, ?_⟩
    · rw [h3]; cases decide (k = ("list" : Str)) <;> rfl
    · intro e he
      split at he
      · cases he; exact ep_var rfl
      · cases he
  · exact filterMap_if (fun x => decide ((Lw.kd t).getD x "" = ("list" : Str))) (fun (x : Nat) => D.int (x : Nat)) _
  · unfold iD; rw [List.length_map]
end
end Lw
set_option Elab.async false
set_option linter.all false
set_option maxRecDepth 100000
set_option autoImplicit false
set_option maxHeartbeats 4000000
namespace Lw
open PySem PySem.Spec PyProof.Rows L2 DL
abbrev s_Schema___init__ : Stmt := mth 15 0
theorem sc_Schema___init__ : FnScope ["self", "text", "reader", "below", "node", "kind"] ["self", "text"] (defScope s_Schema___init__) := ⟨rfl, rfl, rfl, by decide +kernel, rfl, by decide +kernel, by decide +kernel⟩
section
variable {P : Program} {w : World} {K : PySem.W.Frag} {mg : Str → Option Value} {base : Heap} {f g : Addr} {fd gd : FuncData} {CS C kd : Addr} {es : Array DictEntry} {n : Nat}
variable {c : RC} {H0 H : Hp} {r : RS} {ca : List Addr} {σ : L2.St} {te ta tb tc td ty tv : TE} {Γ : List En}
theorem vh_rmake {l : List Nat} {t1 : TE} {E : XK} (v1 : Val t1 σ H (.str (SX.S l))) : ValH (tMake C (spRInit C) [] E (tCons t1 tNil)) σ H fun v H' => ∃ c, c.C = C ∧ v = .ref c.p ∧ RdAt c H H' (rs0 l) := fun Q q =>
  v1 _ fun x dx hx hdx hne => ⟨x, dx, H, l, rfl, upd_same, hx, fun a o e => by
    have n1 : a ≠ x := fun z => by subst z; rw [hx] at e; cases e
    have n2 : a ≠ dx := fun z => by subst z; rw [hdx] at e; cases e
    rw [upd_ne n1, upd_ne n2]; exact e, fun c H' e1 e2 h => ⟨rfl, q _ _ ⟨c, e1, by rw [e2], h⟩⟩⟩
theorem vh_all {t : Tr} {tr : TE} {E : XK} (h : RdAt c H0 H (rs0 (tx t))) (hC : c.C = C) (v : Val tr σ H (.ref c.p)) (k : Lim t) : ValH (tMeth C "read_all" (spAll C) [] E tr tNil) σ H fun v H' => v = .non ∧ RdAt c H0 H' ((rs0 (tx t)).node t (-1) none) := by
  obtain ⟨ca, h⟩ := h
  subst hC
  exact fun Q q => v _ ⟨c.p, c.dx, _, rfl, h.ins, rfl, ⟨c, H0, t, rfl, ⟨ca, h⟩, rfl, k, fun H' h' => q _ _ ⟨rfl, h'⟩⟩⟩
theorem rs_end (t : Tr) : ((rs0 (tx t)).node t (-1) none) = ⟨tx t, (tx t).length, Lw.kd t, pa t 0 (-1), nm t none, ch t 0, bg t 0, Lw.en t 0⟩ := by
  unfold RS.node rs0
  simp [addCh]
theorem ok_sinit (T : Sx K w mg CS C kd es n) (c_SchemaReader : C8.Mak P w K mg base 1 "SchemaReader" C (spRInit C) []) (m_read_all : C8.Met P w K mg base 47 C "read_all" (spAll C) []) (c__leaves_from : Cal P w K mg base 2 "_leaves_from" (spE (C_lf CS))) (c__count_levels : Cal P w K mg base 3 "_count_levels" (spE (C_kc CS))) (F : FnM K "__init__" "Schema.__init__" s_Schema___init__ f fd) : FnOk P w K mg base CX0 48 f fd ["self", "text"] (spMk CS (C_sch CS)) := by
  refine F.ok sc_Schema___init__ (fun vs H Q E ⟨_, _, s, dx, ws, args, d, e, _, _, _, _, r, ⟨t, ea, _, _⟩, _⟩ => by subst e ea; have := r.length; simp at this; simp [this]) fun cdv A outer s0 H vs Q E hr h => ⟨_, PSs.nox (pss_cons (ps_set (i := 2) sc_Schema___init__.nd rfl (by first | exact Or.inl rfl | exact Or.inr rfl) (C8.pe_mk c_SchemaReader hr (by first | decide | omega) rfl (pa_cons (pv 1) pa_nil)))
      (pss_cons (ps_expr (C8.pe_mt0 m_read_all hr (by first | decide | omega) (pv 2)))
      (pss_cons (ps_fld (pv 0) (pv 1) rfl)
      (pss_cons (ps_fld (pv 0) (pe_callTy call_tuple_of rfl T.z_tuple (by decide +kernel) (pa_cons (pe_fld (pv 2) rfl) pa_nil)) rfl)
      (pss_cons (ps_fld (pv 0) (pe_callTy call_tuple_of rfl T.z_tuple (by decide +kernel) (pa_cons (pe_fld (pv 2) rfl) pa_nil)) rfl)
      (pss_cons (ps_fld (pv 0) (pe_callTy call_tuple_of rfl T.z_tuple (by decide +kernel) (pa_cons (pe_fld (pv 2) rfl) pa_nil)) rfl)
      (pss_cons (ps_fld (pv 0) (pe_callTy call_tuple_of rfl T.z_tuple (by decide +kernel) (pa_cons (pe_lc (own := [("below", 3)]) (g := (gName 3)) (tt := tYes) rfl sc_Schema___init__.nd (pi_list (pe_fld (pv 2) rfl)) (blkOk_by (own := [("below", 3)]) (N := ["self", "text", "reader", "below", "node", "kind"]) (sc := defScope s_Schema___init__) (by decide +kernel)) (fun _ _ _ _ _ => (pg_name (i := 3) sc_Schema___init__.nd rfl (Or.inl rfl))) (fun _ _ _ _ _ => pts_nil) (fun _ _ _ _ _ => (pe_callTy (show CallR _ _ (DL.rTuple K) from call_tuple_of) rfl T.z_tuple (by decide +kernel) (pa_cons (pv 3) pa_nil)))) pa_nil)) rfl)
      (pss_cons (ps_fld (pv 0) (pe_tupZip rfl rfl T.z_tuple rfl T.z_zip (pa_cons (pe_fld (pv 2) rfl) (pa_cons (pe_fld (pv 2) rfl) pa_nil))) rfl)
      (pss_cons (ps_fld (pv 0) (pe_callTy cr_tupZ rfl T.z_tuple (by decide +kernel) (pa_cons (pe_lc (own := [("node", 4), ("kind", 5)]) (g := (gTup K 2 (gCons (gName 4) (gCons (gName 5) gNil)))) rfl sc_Schema___init__.nd (pi_enum rfl T.z_enumerate (pa_cons (pe_fld (pv 2) rfl) pa_nil)) (blkOk_by (own := [("node", 4), ("kind", 5)]) (N := ["self", "text", "reader", "below", "node", "kind"]) (sc := defScope s_Schema___init__) (by decide +kernel)) (fun _ _ _ _ _ => (pg_tup rfl (pgs_cons (pg_name (i := 4) sc_Schema___init__.nd rfl (Or.inl rfl)) (pgs_cons (pg_name (i := 5) sc_Schema___init__.nd rfl (Or.inl rfl)) pgs_nil)))) (fun _ _ _ _ _ => pts_one (pt_cmpR op_eq (pv 5) pe_str (nomark _))) (fun _ _ _ _ _ => (pv 4))) pa_nil)) rfl)
      (pss_cons (ps_fld (pv 0) (pe_callTy call_tuple_of rfl T.z_tuple (by decide +kernel) (pa_cons (pe_lc (own := [("node", 4)]) (g := (gName 4)) (tt := tYes) rfl sc_Schema___init__.nd (pi_range1 rfl T.z_range (pa_cons (pe_callB call_len_seq rfl T.z_len (by decide +kernel) (pa_cons (pe_fld (pv 2) rfl) pa_nil)) pa_nil)) (blkOk_by (own := [("node", 4)]) (N := ["self", "text", "reader", "below", "node", "kind"]) (sc := defScope s_Schema___init__) (by decide +kernel)) (fun _ _ _ _ _ => (pg_name (i := 4) sc_Schema___init__.nd rfl (Or.inl rfl))) (fun _ _ _ _ _ => pts_nil) (fun _ _ _ _ _ => (pe_c c__leaves_from hr (by first | decide | omega) rfl (pa_cons (pv 0) (pa_cons (pv 4) pa_nil))))) pa_nil)) rfl)
      (pss_one (ps_fld (pv 0) (pe_callTy call_tuple_of rfl T.z_tuple (by decide +kernel) (pa_cons (pe_lc (own := [("node", 4)]) (g := (gName 4)) (tt := tYes) rfl sc_Schema___init__.nd (pi_range1 rfl T.z_range (pa_cons (pe_callB call_len_seq rfl T.z_len (by decide +kernel) (pa_cons (pe_fld (pv 2) rfl) pa_nil)) pa_nil)) (blkOk_by (own := [("node", 4)]) (N := ["self", "text", "reader", "below", "node", "kind"]) (sc := defScope s_Schema___init__) (by decide +kernel)) (fun _ _ _ _ _ => (pg_name (i := 4) sc_Schema___init__.nd rfl (Or.inl rfl))) (fun _ _ _ _ _ => pts_nil) (fun _ _ _ _ _ => (pe_c c__count_levels hr (by first | decide | omega) rfl (pa_cons (pv 0) (pa_cons (pv 4) pa_nil))))) pa_nil)) rfl)))))))))))), ?_⟩
  obtain ⟨F0, H0, s, dx, ws, args, d, rfl, x0, x1, h0, hs, r, ⟨t, rfl, k, rfl⟩, q⟩ := h
  obtain ⟨v, _, rfl, rv, rfl⟩ := r
  have rv' : v = .str (SX.S (tx t)) := rv
  subst rv'
  refine st_seq (st_setH (vh_rmake (l := tx t) (val_var rfl)) ?_)
  rintro _ H1 ⟨c, rfl, rfl, h1⟩
  dsimp only
  show tSeq _ _ _ [some (.ref s), some (.str (SX.S (tx t))), some (.ref c.p), none, none, none] _
  refine st_seq (st_dropH (vh_all h1 rfl (val_var rfl) k) ?_)
  rintro _ H2 ⟨_, ca, h2⟩
  rw [rs_end] at h2
  dsimp only
  -- all that is read is shared from here on
  have fH : ∀ a ∈ c.foot ca, H a = none := h2.nw
  have e12 : ∀ a o, H a = some o → H2 a = some o := h2.keep
  obtain ⟨F1, hF1, hF2⟩ : ∃ F1 : Hp, (∀ a ∈ c.foot ca, F1 a = H2 a) ∧ (∀ a, a ∉ c.foot ca → F1 a = F0 a) := ⟨fun a => if a ∈ c.foot ca then H2 a else F0 a, fun a m => if_pos m, fun a m => if_neg m⟩
  have F0n : ∀ a ∈ c.foot ca, F0 a = none := fun a m => by
    cases e : F0 a with
    | none => rfl
    | some o => have := fH a m; rw [x1 _ _ (x0 _ _ e)] at this; cases this
  have sn : s ∉ c.foot ca := fun m => by have := fH s m; rw [hs] at this; cases this
  have Gd : Good ⟨F0, H0, fun _ => none⟩ F1 H2 [some (.ref s), some (.str (SX.S (tx t))), some (.ref c.p), none, none, none] [.un, .sh (.str (SX.S (tx t))), .sh (rdD c.C ⟨tx t, (tx t).length, Lw.kd t, pa t 0 (-1), nm t none, ch t 0, bg t 0, Lw.en t 0⟩), .un, .un, .un] := by
    refine ⟨fun a o e => ?_, fun a o e => ?_, fun a o e _ => e12 _ _ (x1 _ _ e), (fun a ⟨_, z⟩ => nomatch z), fun a e => ?_, rfl, fun i e he => ?_, fun i j a e e' p1 p2 m1 => ?_⟩
    · by_cases m : a ∈ c.foot ca
      · have e' : F0 a = some o := e
        rw [F0n a m] at e'; cases e'
      · rw [hF2 a m]; exact e
    · by_cases m : a ∈ c.foot ca
      · rw [hF1 a m] at e; exact e
      · rw [hF2 a m] at e; exact e12 _ _ (x1 _ _ (x0 _ _ e))
    · by_cases m : a ∈ c.foot ca
      · refine .inr ?_
        show H0 a = none
        cases z : H0 a with
        | none => rfl
        | some o => have := fH a m; rw [x1 _ _ z] at this; cases this
      · rw [hF2 a m] at e; exact .inl e
    · match i, he with
      | 0, he => cases he; exact ⟨_, rfl, trivial⟩
      | 1, he => cases he; exact ⟨_, rfl, _, rfl, rfl⟩
      | 2, he => cases he; exact ⟨_, rfl, _, rfl, h2.rep hF1⟩
      | 3, he => cases he; exact ⟨_, rfl, trivial⟩
      | 4, he => cases he; exact ⟨_, rfl, trivial⟩
      | 5, he => cases he; exact ⟨_, rfl, trivial⟩
    · match i, p1 with
      | 0, p1 => cases p1; cases m1
      | 1, p1 => cases p1; cases m1
      | 2, p1 => cases p1; cases m1
      | 3, p1 => cases p1; cases m1
      | 4, p1 => cases p1; cases m1
      | 5, p1 => cases p1; cases m1
  have j0 : J ⟨F0, H0, fun _ => none⟩ s CS dx F1 H2 _ _ [] := ⟨Gd, (by
    rw [hF2 s sn]
    cases e : F0 s with
    | none => rfl
    | some o => rw [x0 _ _ e] at h0; cases h0), h0, e12 _ _ hs, rfl⟩
  clear Gd
  have X := T.rx
  have hz : sz t ≤ 40 := k.nodes
  refine st_seq (st_setF j0 (ep_var rfl) T.cls T.f_text (by decide) fun v1 F2 H3 j1 y1 r1 => ?_)
  have l1 := putF_lt (f := "_text") (v := v1) (fs := []) (n := 1) (Nat.zero_lt_one)
  generalize hA1 : putF "_text" v1 [] = a1 at l1 j1
  dsimp only
  refine st_seq (st_setF j1 (ep_cb (ea_cons (ep_fld (ep_var rfl) X.cls X.f_kinds rfl) ea_nil) rc_tuple) T.cls T.f_node_kinds (Nat.lt_trans l1 (by decide)) fun v2 F3 H4 j2 y2 r2 => ?_)
  have l2 := putF_lt (f := "node_kinds") (v := v2) l1
  generalize hA2 : putF "node_kinds" v2 a1 = a2 at l2 j2
  dsimp only
  refine st_seq (st_setF j2 (ep_cb (ea_cons (ep_fld (ep_var rfl) X.cls X.f_parents rfl) ea_nil) rc_tuple) T.cls T.f_parents (Nat.lt_trans l2 (by decide)) fun v3 F4 H5 j3 y3 r3 => ?_)
  have l3 := putF_lt (f := "parents") (v := v3) l2
  generalize hA3 : putF "parents" v3 a2 = a3 at l3 j3
  dsimp only
  refine st_seq (st_setF j3 (ep_cb (ea_cons (ep_fld (ep_var rfl) X.cls X.f_names rfl) ea_nil) rc_tuple) T.cls T.f_names (Nat.lt_trans l3 (by decide)) fun v4 F5 H6 j4 y4 r4 => ?_)
  have l4 := putF_lt (f := "names") (v := v4) l3
  generalize hA4 : putF "names" v4 a3 = a4 at l4 j4
  dsimp only
  refine st_seq (st_setF (d := .tup ((ch t 0).map fun l => .tup (iD l))) j4 (ep_cb (ea_cons (EvF.p (ef_map (ch t 0) (fun l => .lst (iD l)) (fun l => .tup (iD l)) (wi_list (ep_fld (ep_var rfl) X.cls X.f_children rfl)) ?_ ?_)) ea_nil) rc_tuple) T.cls T.f_children (Nat.lt_trans l4 (by decide)) fun v5 F6 H7 j5 y5 r5 => ?_)
  · rw [ch_len]; exact Nat.lt_of_le_of_lt hz (by decide)
  · exact fun l hl => ⟨_, gv_name (by simp), ep_cb (ea_cons (ep_var rfl) ea_nil) rc_tuple⟩
  have l5 := putF_lt (f := "children") (v := v5) l4
  generalize hA5 : putF "children" v5 a4 = a5 at l5 j5
  dsimp only
  refine st_seq (st_setF (d := spD t) j5 (ep_tupZip (ea_cons (ep_fld (ep_var rfl) X.cls X.f_begins rfl) (ea_cons (ep_fld (ep_var rfl) X.cls X.f_ends rfl) ea_nil)) ?_) T.cls T.f_spans (Nat.lt_trans l5 (by decide)) fun v5s F6s H7s j5s y5s r5s => ?_)
  · unfold iD
    rw [List.length_map, List.length_map, bg_len, en_len]; exact Nat.le_trans (Nat.min_le_left ..) (Nat.le_trans hz (by decide))
  have l5s := putF_lt (f := "spans") (v := v5s) l5
  generalize hA5s : putF "spans" v5s a5 = a5s at l5s j5s
  dsimp only
  refine st_seq (st_setF (d := tzD (iD (lvN (Lw.kd t)))) j5s (ep_cb (ea_cons (EvF.p (EvF.cast (ef_lc (List.range (Lw.kd t).length) (fun i => .tup [.int (i : Nat), .str ((Lw.kd t).getD i "")]) (fun i => if decide ((Lw.kd t).getD i "" = ("value" : Str)) = true then some (.int (i : Nat)) else none) ?_ ?_ ?_) ?_)) ea_nil) rc_tupZ) T.cls T.f_nodes_of_leaves (Nat.lt_trans l5s (by decide)) fun v6 F7 H8 j6 y6 r6 => ?_)
  · have := wi_enum (K := K) (ta := tCons (tFld K (tVar 2) "kinds") tNil) (Γ := [.un, .sh (.str (SX.S (tx t))), .sh (rdD c.C ⟨tx t, (tx t).length, Lw.kd t, pa t 0 (-1), nm t none, ch t 0, bg t 0, Lw.en t 0⟩), .un, .un, .un]) (ds := (Lw.kd t).map D.str) (ea_cons (ep_fld (ep_var rfl) X.cls X.f_kinds rfl) ea_nil)
    rw [enD_str] at this
    exact this
  · rw [List.length_range, kd_len]; exact Nat.lt_of_le_of_lt hz (by decide)
  · refine fun i hi => ⟨_, gv_tup2 (by simp) (by simp), ?_, ?_⟩
    · refine EtP.cast (et_test (ep_op (ep_var rfl) ep_str rd_eqS)) ?_
      by_cases z : (Lw.kd t).getD i "" = ("value" : Str)
      · rw [decide_eq_true z]; rfl
      · rw [decide_eq_false z]; rfl
    · intro e he
      by_cases z : (Lw.kd t).getD i "" = ("value" : Str)
      · rw [decide_eq_true z, if_pos rfl] at he; cases he; exact ep_var rfl
      · rw [decide_eq_false z, if_neg Bool.false_ne_true] at he; cases he
  · rw [filterMap_if]; rfl
  generalize hA6 : putF "nodes_of_leaves" v6 a5s = a6 at j6
  have e6 : a6 = ([("_text", v1), ("node_kinds", v2), ("parents", v3), ("names", v4), ("children", v5), ("spans", v5s), ("nodes_of_leaves", v6)] : List (Str × V)) := by
    have e0 : ∀ (f : Str) (v : V), putF f v [] = [(f, v)] := fun _ _ => rfl
    rw [e0] at hA1
    subst hA1
    rw [putF_ne (by decide), e0] at hA2
    subst hA2
    rw [putF_ne (by decide), putF_ne (by decide), e0] at hA3
    subst hA3
    rw [putF_ne (by decide), putF_ne (by decide), putF_ne (by decide), e0] at hA4
    subst hA4
    rw [putF_ne (by decide), putF_ne (by decide), putF_ne (by decide), putF_ne (by decide), e0] at hA5
    subst hA5
    rw [putF_ne (by decide), putF_ne (by decide), putF_ne (by decide), putF_ne (by decide), putF_ne (by decide), e0] at hA5s
    subst hA5s
    rw [putF_ne (by decide), putF_ne (by decide), putF_ne (by decide), putF_ne (by decide), putF_ne (by decide), putF_ne (by decide), e0] at hA6
    exact hA6.symm
  subst e6
  dsimp only
  have q6 : RepF F7 [("_text", .str (SX.S (tx t))), ("node_kinds", .tup ((Lw.kd t).map D.str)), ("parents", .tup ((pa t 0 (-1)).map D.int)), ("names", .tup ((nm t none).map nD)), ("children", .tup ((ch t 0).map fun l => .tup (iD l))), ("spans", spD t), ("nodes_of_leaves", tzD (iD (lvN (Lw.kd t))))] ([("_text", v1), ("node_kinds", v2), ("parents", v3), ("names", v4), ("children", v5), ("spans", v5s), ("nodes_of_leaves", v6)] : List (Str × V)) :=
    ⟨_, _, rfl, (((((r1.mono y2).mono y3).mono y4).mono y5).mono y5s).mono y6, _, _, rfl, ((((r2.mono y3).mono y4).mono y5).mono y5s).mono y6, _, _, rfl, (((r3.mono y4).mono y5).mono y5s).mono y6, _, _, rfl, ((r4.mono y5).mono y5s).mono y6, _, _, rfl, (r5.mono y5s).mono y6, _, _, rfl, r5s.mono y6, _, _, rfl, r6, rfl⟩
  have rng : ∀ {Γ' : List En}, Γ'[2]? = some (.sh (rdD c.C ⟨tx t, (tx t).length, Lw.kd t, pa t 0 (-1), nm t none, ch t 0, bg t 0, Lw.en t 0⟩)) → WiP (iRng1 (tCons (tCB (rLenS K) (tCons (tFld K (tVar 2) "kinds") tNil)) tNil)) Γ' ((List.range (sz t)).map fun (i : Nat) => D.int (i : Nat)) := fun {Γ'} hg => by
    have w1 := wi_rng1 (Γ := Γ') (ta := tCons (tCB (rLenS K) (tCons (tFld K (tVar 2) "kinds") tNil)) tNil) (n := (sz t : Nat)) (ea_cons ((ep_cb (ea_cons (ep_fld (ep_var hg) X.cls X.f_kinds rfl) ea_nil) rc_len).cast (by rw [List.length_map, kd_len])) ea_nil) (by omega) (by omega)
    have e : rgD 0 ((sz t : Nat) : Int).toNat = (List.range (sz t)).map fun (i : Nat) => D.int (i : Nat) := by
      unfold rgD
      rw [Int.toNat_natCast]
      exact List.map_congr_left fun i _ => by rw [Int.zero_add]
    rwa [e] at w1
  have pI : ∀ l : List Nat, Pl (.tup (iD l)) := fun l => .tup fun d hd => by
    unfold iD at hd
    obtain ⟨m, _, rfl⟩ := List.mem_map.mp hd
    exact .int
  have hr2 : Room 2 (A.deeper (envOfC "Schema.__init__" (defScope s_Schema___init__) s0.heap.objs.size f cdv)) := hr.mono (by decide)
  refine st_seq (st_setFS (d := lfD t) j6 rfl q6 (.tup fun d hd => by obtain ⟨i, _, rfl⟩ := List.mem_map.mp hd; exact pI _) (ep_cb (ea_cons (EvF.p (ef_map (List.range (sz t)) (fun (i : Nat) => .int (i : Nat)) (fun i => .tup (iD (lfN t i))) (rng rfl) (by rw [List.length_range]; exact Nat.lt_of_le_of_lt hz (by decide)) fun i hi => ⟨_, gv_name (by simp), ep_call (ea_cons (x := schP CS t []) (ep_var rfl) (ea_cons (ep_var rfl) ea_nil)) ⟨t, i, [], rfl, List.mem_range.mp hi, hz, rfl⟩ fun e _ h => h⟩)) ea_nil) rc_tuple) T.cls T.f_leaves_of_nodes (Nat.lt_trans (show 7 < 8 by decide) (by decide)) fun v7 F8 H9 j7 y7 r7 => ?_)
  have e7 : putF "leaves_of_nodes" v7 ([("_text", v1), ("node_kinds", v2), ("parents", v3), ("names", v4), ("children", v5), ("spans", v5s), ("nodes_of_leaves", v6)] : List (Str × V)) = ([("_text", v1), ("node_kinds", v2), ("parents", v3), ("names", v4), ("children", v5), ("spans", v5s), ("nodes_of_leaves", v6), ("leaves_of_nodes", v7)] : List (Str × V)) := by
    rw [putF_ne (by decide), putF_ne (by decide), putF_ne (by decide), putF_ne (by decide), putF_ne (by decide), putF_ne (by decide), putF_ne (by decide)]; rfl
  rw [e7] at j7
  dsimp only
  have q7 : RepF F8 (("_text", .str (SX.S (tx t))) :: ("node_kinds", .tup ((Lw.kd t).map D.str)) :: ("parents", .tup ((pa t 0 (-1)).map D.int)) :: ("names", .tup ((nm t none).map nD)) :: ("children", .tup ((ch t 0).map fun l => .tup (iD l))) :: ("spans", spD t) :: ("nodes_of_leaves", tzD (iD (lvN (Lw.kd t)))) :: [("leaves_of_nodes", lfD t)]) ([("_text", v1), ("node_kinds", v2), ("parents", v3), ("names", v4), ("children", v5), ("spans", v5s), ("nodes_of_leaves", v6), ("leaves_of_nodes", v7)] : List (Str × V)) := by
    obtain ⟨_, _, z1, w1, _, _, z2, w2, _, _, z3, w3, _, _, z4, w4, _, _, z5, w5, _, _, z5s, w5s, _, _, z6, w6, _⟩ := q6
    cases z1; cases z2; cases z3; cases z4; cases z5; cases z5s; cases z6
    exact ⟨_, _, rfl, w1.mono y7, _, _, rfl, w2.mono y7, _, _, rfl, w3.mono y7, _, _, rfl, w4.mono y7, _, _, rfl, w5.mono y7, _, _, rfl, w5s.mono y7, _, _, rfl, w6.mono y7, _, _, rfl, r7, rfl⟩
  refine st_setFS (d := kcD t) j7 rfl q7 (.tup fun d hd => by obtain ⟨i, _, rfl⟩ := List.mem_map.mp hd; exact .tup fun d hd => by rcases List.mem_cons.mp hd with z | z; · subst z; exact .int
                                                                                                                                  · rw [List.mem_singleton.mp z]; exact .int) (ep_cb (ea_cons (EvF.p (ef_map (List.range (sz t)) (fun (i : Nat) => .int (i : Nat)) (fun i => .tup [.int ((opl (Lw.kd t) (an t 0 i)).length : Nat), .int ((lsN t i).length : Nat)]) (rng rfl) (by rw [List.length_range]; exact Nat.lt_of_le_of_lt hz (by decide)) fun i hi => ⟨_, gv_name (by simp), ep_call (ea_cons (x := schP CS t [("leaves_of_nodes", lfD t)]) (ep_var rfl) (ea_cons (ep_var rfl) ea_nil)) ⟨t, i, _, rfl, List.mem_range.mp hi, hz, rfl⟩ fun e _ h => h⟩)) ea_nil) rc_tuple) T.cls T.f_levels (Nat.lt_trans (show 8 < 9 by decide) (by decide)) fun v8 F9 H10 j8 y8 r8 => ?_
  have e8 : putF "levels" v8 ([("_text", v1), ("node_kinds", v2), ("parents", v3), ("names", v4), ("children", v5), ("spans", v5s), ("nodes_of_leaves", v6), ("leaves_of_nodes", v7)] : List (Str × V)) = ([("_text", v1), ("node_kinds", v2), ("parents", v3), ("names", v4), ("children", v5), ("spans", v5s), ("nodes_of_leaves", v6), ("leaves_of_nodes", v7), ("levels", v8)] : List (Str × V)) := by
    rw [putF_ne (by decide), putF_ne (by decide), putF_ne (by decide), putF_ne (by decide), putF_ne (by decide), putF_ne (by decide), putF_ne (by decide), putF_ne (by decide)]; rfl
  rw [e8] at j8
  obtain ⟨_, _, z1, w1, _, _, z2, w2, _, _, z3, w3, _, _, z4, w4, _, _, z5, w5, _, _, z5s, w5s, _, _, z6, w6, _, _, z7, w7, _⟩ := q7
  cases z1; cases z2; cases z3; cases z4; cases z5; cases z5s; cases z6; cases z7
  obtain ⟨z1, z2⟩ := j8.fin x0 (ds := ("_text", .str (SX.S (tx t))) :: ("node_kinds", .tup ((Lw.kd t).map D.str)) :: ("parents", .tup ((pa t 0 (-1)).map D.int)) :: ("names", .tup ((nm t none).map nD)) :: ("children", .tup ((ch t 0).map fun l => .tup (iD l))) :: ("spans", spD t) :: ("nodes_of_leaves", tzD (iD (lvN (Lw.kd t)))) :: [("leaves_of_nodes", lfD t), ("levels", kcD t)])
    ⟨_, _, rfl, w1.mono y8, _, _, rfl, w2.mono y8, _, _, rfl, w3.mono y8, _, _, rfl, w4.mono y8, _, _, rfl, w5.mono y8, _, _, rfl, w5s.mono y8, _, _, rfl, w6.mono y8, _, _, rfl, w7.mono y8, _, _, rfl, r8, rfl⟩
  exact q _ H10 z1 z2
end
end Lw
set_option Elab.async false
set_option linter.all false
set_option maxRecDepth 100000
set_option autoImplicit false
set_option maxHeartbeats 4000000
namespace DL
open PySem PySem.Spec PyProof.Rows L2
/-- len(o) of an object whose class has its own len -/
def rLenO (C : Addr) (sp : Sp) (E : XK) : List V → Hp → VK → Prop := fun xs H Q => ∃ a dx fs, xs = [.ref a] ∧ H a = some (.ins C dx fs) ∧ sp [.ref a] H (fun v H' => ∃ n : Nat, v = .int n ∧ n < 2 ^ 62 ∧ Q v H') E
theorem call_lenO {X : Cx} {CX : CXT} {C f : Addr} {fd : FuncData} {ps : List Str} {sp : Sp} {k : Nat} {E : XK} (F : FnOk X.prog X.w X.K X.mg X.base CX k f fd ps sp) (hs : PySem.W.findIn X.K (.ref C) "__len__" = some (some (.ref f))) (hf : PySem.W.isFn X.K (.ref f) = true) (hb : Binds X.K fd ps [])
    (hr : Room (k + 1) X.A) (hx : Passes CX X E) : CallR X (.builtin "len") (rLenO C sp E) := by
  intro pins s σ H xs us Q I r h
  obtain ⟨a, dx, fs, rfl, ha, h⟩ := h
  obtain ⟨u, rfl, rx⟩ := vals1 r
  cases rx
  obtain ⟨mA, O, _⟩ := ins_get I.hok ha
  obtain ⟨od, J, _⟩ := O.look
  obtain ⟨m, hF⟩ := I.fr
  refine PySem.W.len_K hF I.ok.mod.kin J hs hf ?_
  have hl := F.len _ _ _ _ h
  have r2 : Vals [V.ref a] [Value.ref a] := .cons rfl .nil
  refine wpAny_call (codeAny_mono (F.run X.A.in1 X.stack s H ⟨[.ref a], []⟩ [.ref a] [.ref a] _ E hr.in1 I.env0.in1 (by
    have := hb s [.ref a] I.kIn (by simpa using hl)
    simpa using this) r2 h) fun r s' hq => ?_)
  cases r with
  | error e => exact hx pins σ H s e s' I hq
  | ok fl =>
    cases fl with
    | ret w =>
      obtain ⟨z, H', I', rz, n, ez, hn, q⟩ := I.after hq
      subst ez
      obtain ⟨t, rfl⟩ := rz
      exact ⟨⟨by omega, by omega⟩, .int n, H', I'.tok _, ⟨_, rfl⟩, q⟩
    | next => exact False.elim hq
    | brk => exact False.elim hq
    | cont => exact False.elim hq
theorem rc_lenO {C : Addr} {fs : List (Str × D)} {Cc : Cn} {R : D → List En → Prop} {n : Nat} {E : XK} (hC : Cc [.sh (.obj C fs)] R) (hR : ∀ e Γ', R e Γ' → e = .int n) (hn : n < 2 ^ 62) : RC (rLenO C (spE Cc) E) [.obj C fs] (.int n) := fun F H vs e r Q k => by
  have hg := good_args (es := [.obj C fs]) e r
  obtain ⟨v, _, rfl, ⟨a, dx, xs, rfl, ha, r1⟩, rfl⟩ := r
  refine ⟨a, dx, xs, rfl, e _ _ ha, _, F, _, R, hg, argOk_sh [.obj C fs], hC, fun w d Γ' F' H' hr G x rw' => ?_⟩
  have e1 := hR d Γ' hr
  subst e1
  have ew : w = .int n := rw'
  subst ew
  exact ⟨n, rfl, hn, k _ F' H' ⟨x, fun a o q => G.hh a o q (fun ⟨_, z⟩ => by cases z), G.fh, G.nw⟩ rfl⟩
end DL
namespace Lw
open PySem PySem.Spec PyProof.Rows L2 DL
local macro_rules | `(tactic| walk_at "sd") => `(tactic| first
  | assumption
  | exact .inl ⟨by decide, by decide⟩ | exact ⟨by decide, by decide, by decide⟩ | exact ⟨by decide, by decide⟩
  | (show (0 : Int) < _; first | decide | omega) | exact ⟨by omega, by omega⟩ | exact .inl ⟨by omega, by omega⟩ | exact .inr ⟨by omega, by omega⟩ | exact .inr ⟨by decide, by decide⟩ | omega)
local macro_rules | `(tactic| walk_at "ep") => `(tactic| first
  | exact ep_int | exact ep_str | exact ep_bl | exact ep_non | exact ep_ref | exact ep_ty
  | exact ep_var rfl
  | (refine' ep_ixM (.inr rfl) ?ka ?kr; (case ka => walk_at "ep"); (case kr => exact rfl))
  | (refine' ep_ixM (.inl rfl) ?ka ?kr; (case ka => walk_at "ep"); (case kr => exact rfl))
  | (refine' ep_op ?ka ?kb rd_I0i; (case ka => walk_at "ep"); (case kb => walk_at "ep"))
  | (refine' ep_op ?ka ?kb rd_I0b; (case ka => walk_at "ep"); (case kb => walk_at "ep"))
  | (refine' ep_op ?ka ?kb (rd_Ii ?sd); (case ka => walk_at "ep"); (case kb => walk_at "ep"); (case sd => walk_at "sd"))
  | (refine' ep_op ?ka ?kb rd_eqI; (case ka => walk_at "ep"); (case kb => walk_at "ep"))
  | (refine' ep_op ?ka ?kb rd_eqS; (case ka => walk_at "ep"); (case kb => walk_at "ep"))
  | (refine' ep_op ?ka ?kb rd_neI; (case ka => walk_at "ep"); (case kb => walk_at "ep"))
  | (refine' ep_op ?ka ?kb rd_neS; (case ka => walk_at "ep"); (case kb => walk_at "ep")))
local macro_rules | `(tactic| walk_at "et") => `(tactic| first
  | (refine' et_test ?ka; (case ka => walk_at "ep"))
  | (refine' et_not ?ka; (case ka => walk_at "et"))
  | (refine' et_and ?ka fun _ => ?kb; (case ka => walk_at "et"); (case kb => walk_at "et"))
  | (refine' et_or ?ka fun _ => ?kb; (case ka => walk_at "et"); (case kb => walk_at "et")))
abbrev s_Schema___len__ : Stmt := mth 15 2
theorem sc_Schema___len__ : FnScope ["self"] ["self"] (defScope s_Schema___len__) := ⟨rfl, rfl, rfl, by decide +kernel, rfl, by decide +kernel, by decide +kernel⟩
section
variable {P : Program} {w : World} {K : PySem.W.Frag} {mg : Str → Option Value} {base : Heap} {f : Addr} {fd : FuncData} {CS C kd : Addr} {es : Array DictEntry} {n : Nat}
def C_slen (CS : Addr) : Cn := fun Γ R => ∃ t, Γ = [.sh (schD CS t)] ∧ R = fun d _ => d = .int ((lvN (Lw.kd t)).length : Nat)
theorem ok_slen (T : Sx K w mg CS C kd es n) (F : FnM K "__len__" "Schema.__len__" s_Schema___len__ f fd) : FnOk P w K mg base CX0 1 f fd ["self"] (spE (C_slen CS)) := by
  have X := T.rx
  refine fn_ok F sc_Schema___len__ (fun Γ R ⟨t, h, _⟩ => by subst h; rfl) fun cdv A outer s H E hr => ⟨_, (pss_one (ps_ret (pe_callB call_len_seq rfl X.z_len (by decide +kernel) (pa_cons (pe_fld (pv 0) rfl) pa_nil)))), ?_⟩
  rintro Γ R ⟨t, rfl, rfl⟩ _
  show SW _ [.sh (schD CS t)] _
  exact sw_ret (d := .int ((lvN (Lw.kd t)).length : Nat)) ((ep_cb (ea_cons (ep_fld (ep_var rfl) T.cls T.f_nodes_of_leaves rfl) ea_nil) rc_lenZ).cast (by simp [iD])) ⟨rfl, trivial⟩
end
end Lw
set_option Elab.async false
set_option linter.all false
set_option maxRecDepth 100000
namespace PySem.NT
open PySem
theorem slot_type_ne : Slot "type" (cmpInfo .NotEq).2.1 "object.__ne__" :=
  .of (owner := "object") (n := "__ne__") (by rw [typeLookup_type, builtinLookup_eq_fast]; kernel_rfl) (by decide +kernel) (by decide +kernel) (by decide +kernel)
    (by first | exact .inl (by decide +kernel) | exact .inr (by decide +kernel)) (by rw [isSubtype_type]; kernel_rfl)
section
variable {prog : Program} {w : World} {A : Around} {E : Value → Shared → Prop} {s : Shared} {Q : Value → Shared → Prop}
theorem ne_type_same {X : String} (hX : ∀ s' : Shared, s'.TypeIs (.type X) "type") (h : Q (.bool false) s) : wpAny (model prog w) A (compareOp .NotEq (.type X) (.type X)) Q E s := by
  show wpAny _ A (richCompare .NotEq _ _) Q E s
  refine wpAny_richCompare_same (T := "type") (hX s) (hX s) slot_type_ne ?_
  refine wpAny_call (codeAny_call_builtin slot_type_ne.plain F.entry_object_ne (slot_type_ne.check _ _ _ _ _ _ _ _ (hX s) (F.args_object_ne_2 _ _) ?_))
  unfold Builtin.«object.__ne__»
  refine wpAny_bind (m := slotArgs _ _ _) (wpAny_pure ?_)
  refine wpAny_bind (wpAny_cRoomFor_or (.inl rfl) ?_)
  refine wpAny_bind (m := callSpecialIfBound? (.type X) (Str.ofString "__eq__") [.type X]) (wpAny_callSpecialIfBound?_slot (T := "type") (id := "object.__eq__") (hX s) TypeEq.slot_type_eq ?_)
  refine call_gives TypeEq.slot_type_eq (hX s) F.entry_object_eq (F.args_object_eq_2 _ _) (TypeEq.object_eq_same rfl (by simp)) ?_
  dsimp only
  refine wpAny_bind (wpAny_truthy_bool ?_)
  exact wpAny_pure ⟨(by intro e; cases e), h⟩
end
end PySem.NT
set_option Elab.async false
set_option linter.all false
set_option maxRecDepth 100000
set_option autoImplicit false
set_option maxHeartbeats 4000000
/-! U1: k27: the program's checks and questions. -/
namespace DL
open PySem PySem.Spec PyProof.Rows L2
abbrev rNeTI : R2 := fun x y H Q => x = .ty "int" ∧ y = .ty "int" ∧ Q (.bl false) H
theorem op_neTI {X : Cx} : OpR X (compareOp .NotEq) rNeTI := by
  intro pins s σ H x y v u Q I rx ry h
  obtain ⟨rfl, rfl, q⟩ := h
  cases (show v = Value.type "int" from rx)
  cases (show u = Value.type "int" from ry)
  have q2 : EP X pins σ Q (.bool false) s := ⟨.bl false, H, I, rfl, q⟩
  exact PySem.NT.ne_type_same (X := "int") TypeEq.meta_int q2
section
variable {Γ : List En} {ta tb : TE}
theorem ep_tyI {i : Int} (h : EvP ta Γ (.int i)) : EvP (tThenZ ta kTyp) Γ (.ty "int") := fun c F H σ G Q k => h c F H σ G _ fun v F1 H1 S1 r1 => by
  have e : v = .int i := r1
  subst e
  exact ⟨"int", rfl, k (.ty "int") F1 H1 S1 rfl⟩
theorem rd_neTI : RD rNeTI (.ty "int") (.ty "int") (.bl false) := fun F H vx vy e rx ry Q k => ⟨rx, ry, k _ F H (.refl e) rfl⟩
/-- a < b < c of ints -/
theorem ep_chainI {ta tb tc : TE} {r1 r2 : Int → Int → Bool} {i j l : Int} (ha : EvP ta Γ (.int i)) (hb : EvP tb Γ (.int j)) (hc : EvP tc Γ (.int l)) : EvP (tChain (rI0 fun i j => .bl (r1 i j)) (rI0 fun i j => .bl (r2 i j)) ta tb tc) Γ (.bl (r1 i j && r2 j l)) := fun c F H σ G Q k =>
  ha c F H σ G _ fun v F1 H1 S1 q1 => hb c F1 H1 σ (G.step S1) _ fun u F2 H2 S2 q2 => by
    have e1 : v = .int i := q1
    have e2 : u = .int j := q2
    subst e1 e2
    refine ⟨i, j, rfl, rfl, r1 i j, rfl, ?_⟩
    cases e : r1 i j with
    | true =>
      rw [if_pos rfl]
      exact hc c F2 H2 σ ((G.step S1).step S2) _ fun w F3 H3 S3 q3 => by
        have e3 : w = .int l := q3
        subst e3
        exact ⟨j, l, rfl, rfl, k _ F3 H3 ((S1.trans S2).trans S3) (by rw [e]; rfl)⟩
    | false =>
      rw [if_neg Bool.false_ne_true]
      exact k _ F2 H2 (S1.trans S2) (by rw [e]; rfl)
end
abbrev rNeTL : R2 := fun x y H Q => x = .ty "list" ∧ y = .ty "list" ∧ Q (.bl false) H
theorem op_neTL {X : Cx} : OpR X (compareOp .NotEq) rNeTL := by
  intro pins s σ H x y v u Q I rx ry h
  obtain ⟨rfl, rfl, q⟩ := h
  cases (show v = Value.type "list" from rx)
  cases (show u = Value.type "list" from ry)
  have q2 : EP X pins σ Q (.bool false) s := ⟨.bl false, H, I, rfl, q⟩
  exact PySem.NT.ne_type_same (X := "list") TypeEq.meta_list q2
theorem rd_neTL : RD rNeTL (.ty "list") (.ty "list") (.bl false) := fun F H vx vy e rx ry Q k => ⟨rx, ry, k _ F H (.refl e) rfl⟩
theorem ep_tyL {Γ : List En} {ta : TE} {ds : List D} (h : EvP ta Γ (.lst ds)) : EvP (tThenZ ta kTyp) Γ (.ty "list") := fun c F H σ G Q k => h c F H σ G _ fun v F1 H1 S1 r1 => by
  obtain ⟨a, xs, rfl, h1, h2⟩ := r1
  refine ⟨"list", ?_, k (.ty "list") F1 H1 S1 rfl⟩
  show (match H1 a with | some (.lst _) => some "list" | some (.tup _) => some "tuple" | _ => none) = _
  rw [S1.fh _ _ h1]
theorem FnOk.or {P : Program} {w : World} {K : PySem.W.Frag} {mg : Str → Option Value} {base : Heap} {k : Nat} {f : Addr} {fd : FuncData} {ps : List Str} {C1 C2 : Cn} (h1 : FnOk P w K mg base CX0 k f fd ps (spE C1)) (h2 : FnOk P w K mg base CX0 k f fd ps (spE C2)) : FnOk P w K mg base CX0 k f fd ps (spE fun Γ R => C1 Γ R ∨ C2 Γ R) :=
  ⟨fun vs H Q E ⟨c, F, Γ, R, G, a, hC, q⟩ => hC.elim (fun h => h1.len vs H Q E ⟨c, F, Γ, R, G, a, h, q⟩) fun h => h2.len vs H Q E ⟨c, F, Γ, R, G, a, h, q⟩,
   fun A outer s H args us vs Q E r0 r1 r2 r3 ⟨c, F, Γ, R, G, a, hC, q⟩ => hC.elim (fun h => h1.run A outer s H args us vs Q E r0 r1 r2 r3 ⟨c, F, Γ, R, G, a, h, q⟩) fun h => h2.run A outer s H args us vs Q E r0 r1 r2 r3 ⟨c, F, Γ, R, G, a, h, q⟩⟩
section
variable {K : PySem.W.Frag} {Γ : List En} {te : TE}
theorem rc_any {bs : List Bool} : RC (rAny K) [.lst (bs.map D.bl)] (.bl (bs.any id)) := fun F H vs e r Q k => by
  obtain ⟨v, _, rfl, ⟨a, xs, rfl, h1, h2⟩, rfl⟩ := r
  have ex := h2.bls_eq
  subst ex
  exact ⟨a, bs, rfl, .inl (.inl (e _ _ h1)), k _ F H (.refl e) rfl⟩
theorem rd_inIT {neg : Bool} {a : Int} {ys : List Int} : RD (rIn K neg) (.int a) (.tup (ys.map D.int)) (.bl (if neg then !decide (a ∈ ys) else decide (a ∈ ys))) := fun F H vx vy e rx ry Q k => by
  obtain ⟨p, xs, rfl, hp, rs⟩ := ry
  have ex := rs.ints_eq
  subst ex
  have rx' : vx = .int a := rx
  subst rx'
  exact ⟨p, _, rfl, .inr (.inl (.inl (e _ _ hp))), rfl, flat_ints ys, by rw [inV_int]; exact k _ F H (.refl e) rfl⟩
/-- tuple(range(n)) -/
theorem ep_tupRg {n : Nat} (h : EvP te Γ (.int (n : Nat))) (hn : n ≤ 16777216) : EvP (tTupRg (tRg1 te)) Γ (.tup ((List.range n).map fun (i : Nat) => D.int (i : Int))) := fun c F H σ G Q k => h c F H σ G _ fun v F1 H1 S1 r1 => by
  cases (show v = .int (n : Nat) from r1)
  refine ⟨_, rfl, ⟨by omega, by omega, by omega, by omega, by omega⟩, fun q hq => ?_⟩
  have e : rgV 0 (n : Nat) = ((List.range n).map fun (i : Nat) => (i : Int)).map V.int := by
    unfold rgV
    rw [List.map_map]
    have : ((n : Int) - 0).toNat = n := by omega
    rw [this]
    exact List.map_congr_left fun i _ => by show V.int (0 + (i : Int)) = V.int (i : Int); rw [Int.zero_add]
  have e2 : ((List.range n).map fun (i : Nat) => D.int (i : Int)) = ((List.range n).map fun (i : Nat) => (i : Int)).map D.int := by rw [List.map_map]; rfl
  have S2 := Stp.new S1.fh (.tup (rgV 0 (n : Nat))) hq
  exact k _ _ _ (S1.trans S2) ⟨q, _, rfl, upd_same, by rw [e2, e]; exact Reps.ints _⟩
end
theorem find_at {α : Type} {p : α → Bool} : ∀ {l : List α} {i : Nat} {x : α}, l[i]? = some x → p x = true → (∀ j y, j < i → l[j]? = some y → p y = false) → l.find? p = some x
  | a :: l, 0, x, h, hp, _ => by
    cases h
    rw [List.find?_cons_of_pos hp]
  | a :: l, i + 1, x, h, hp, hn => by
    rw [List.find?_cons_of_neg (by rw [hn 0 a (Nat.zero_lt_succ _) rfl]; exact Bool.false_ne_true)]
    exact find_at (by simpa using h) hp fun j y hj e => hn (j + 1) y (by omega) (by simpa using e)
end DL
namespace Lw
open PySem PySem.Spec PyProof.Rows L2 DL
local macro_rules | `(tactic| walk_at "sd") => `(tactic| first
  | assumption
  | exact .inl ⟨by decide, by decide⟩ | exact ⟨by decide, by decide, by decide⟩ | exact ⟨by decide, by decide⟩
  | (show (0 : Int) < _; first | decide | omega) | exact ⟨by omega, by omega⟩ | exact .inl ⟨by omega, by omega⟩ | exact .inr ⟨by omega, by omega⟩ | exact .inr ⟨by decide, by decide⟩ | omega)
local macro_rules | `(tactic| walk_at "ep") => `(tactic| first
  | exact ep_int | exact ep_str | exact ep_bl | exact ep_non | exact ep_ref | exact ep_ty
  | exact ep_var rfl
  | (refine' ep_ixM (.inr rfl) ?ka ?kr; (case ka => walk_at "ep"); (case kr => exact rfl))
  | (refine' ep_ixM (.inl rfl) ?ka ?kr; (case ka => walk_at "ep"); (case kr => exact rfl))
  | (refine' ep_op ?ka ?kb rd_I0i; (case ka => walk_at "ep"); (case kb => walk_at "ep"))
  | (refine' ep_op ?ka ?kb rd_I0b; (case ka => walk_at "ep"); (case kb => walk_at "ep"))
  | (refine' ep_op ?ka ?kb (rd_Ii ?sd); (case ka => walk_at "ep"); (case kb => walk_at "ep"); (case sd => walk_at "sd"))
  | (refine' ep_op ?ka ?kb rd_eqI; (case ka => walk_at "ep"); (case kb => walk_at "ep"))
  | (refine' ep_op ?ka ?kb rd_eqS; (case ka => walk_at "ep"); (case kb => walk_at "ep"))
  | (refine' ep_op ?ka ?kb rd_neI; (case ka => walk_at "ep"); (case kb => walk_at "ep"))
  | (refine' ep_op ?ka ?kb rd_neS; (case ka => walk_at "ep"); (case kb => walk_at "ep")))
local macro_rules | `(tactic| walk_at "et") => `(tactic| first
  | (refine' et_test ?ka; (case ka => walk_at "ep"))
  | (refine' et_not ?ka; (case ka => walk_at "et"))
  | (refine' et_and ?ka fun _ => ?kb; (case ka => walk_at "et"); (case kb => walk_at "et"))
  | (refine' et_or ?ka fun _ => ?kb; (case ka => walk_at "et"); (case kb => walk_at "et")))
theorem sc_leaves_below : FnScope ["schema", "node"] ["schema", "node"] (defScope s_leaves_below) := ⟨rfl, rfl, rfl, by decide +kernel, rfl, by decide +kernel, by decide +kernel⟩
section
variable {P : Program} {w : World} {K : PySem.W.Frag} {mg : Str → Option Value} {base : Heap} {f : Addr} {fd : FuncData} {CS C kd sw : Addr} {es es2 : Array DictEntry} {n n2 : Nat}
/-- what the checks name -/
structure Yx (mg : Str → Option Value) : Prop where
  z_type : mg "type" = none
  z_int : mg "int" = none
  z_zip : mg "zip" = none
  z_len : mg "len" = none
theorem lvN_lt {t : Tr} {i x : Nat} (h : (lvN (Lw.kd t))[i]? = some x) : x < sz t ∧ (Lw.kd t)[x]? = some "value" := by
  have m := List.mem_of_getElem? h
  unfold lvN at m
  rw [List.mem_filter, List.mem_range, kd_len] at m
  refine ⟨m.1, ?_⟩
  have e := of_decide_eq_true m.2
  have hx : x < (Lw.kd t).length := by rw [kd_len]; exact m.1
  rw [List.getD_eq_getElem?_getD, List.getElem?_eq_getElem hx] at e
  rw [List.getElem?_eq_getElem hx]
  exact congrArg some e
/-- how len of a schema runs -/
structure SLen (P : Program) (w : World) (K : PySem.W.Frag) (mg : Str → Option Value) (base : Heap) (CS : Addr) : Prop where
  ex : ∃ f fd ps, FnOk P w K mg base CX0 1 f fd ps (spE (C_slen CS)) ∧ PySem.W.findIn K (.ref CS) "__len__" = some (some (.ref f)) ∧ PySem.W.isFn K (.ref f) = true ∧ Binds K fd ps []
theorem SLen.len {X : Cx} {j : Nat} (L : SLen X.prog X.w X.K X.mg X.base CS) (hr : Room j X.A) (h : 2 ≤ j := by first | decide | omega) : CallR X (.builtin "len") (rLenO CS (spE (C_slen CS)) E0) := by
  obtain ⟨f, fd, ps, F, hs, hf, hb⟩ := L.ex
  exact call_lenO F hs hf hb (hr.mono h) pass0
def C_cl (CS : Addr) : Cn := fun Γ R => ∃ (t : Tr) (i : Nat), Γ = [.sh (schD CS t), .sh (.int (i : Nat))] ∧ i < (lvN (Lw.kd t)).length ∧ sz t ≤ 40 ∧ R = fun d _ => d = .non
theorem rc_neg {i : Int} : DL.RC (fun vs H Q => ∃ v, vs = [v] ∧ (rU fun i => .int (-i)) v H Q) [.int i] (.int (-i)) := fun F H vs e r Q k => by
  obtain ⟨v, _, rfl, rv, rfl⟩ := r
  have rv' : v = .int i := rv
  subst rv'
  exact ⟨_, rfl, i, rfl, k _ F H (.refl e) rfl⟩
theorem pss_assocU {X : Cx} {b : List Stmt} {t u v : TS} (h : PSs X b (tSeq t (tSeq u v))) : PSs X b (tSeq (tSeq t u) v) := h
theorem pyDs_iD : ∀ l : List Nat, pyDs (iD l) = some (l.map fun (x : Nat) => PyData.int (x : Nat))
  | [] => rfl
  | x :: l => by
    show (match pyD (.int (x : Nat)), pyDs (iD l) with | some p, some ps => some (p :: ps) | _, _ => none) = _
    rw [pyDs_iD l]; rfl
theorem shaped_iD (l : List Nat) : SeqAt.shaped (.list (l.map fun (x : Nat) => PyData.int (x : Nat))) = true := by
  have a : ∀ l : List Nat, PyData.canLayAll0 (l.map fun (x : Nat) => PyData.int (x : Nat)) = true := by
    intro l
    induction l with
    | nil => rfl
    | cons x l ih => show (true && PyData.canLayAll0 (l.map fun (x : Nat) => PyData.int (x : Nat))) = true; rw [ih]; rfl
  have b : ∀ l : List Nat, PyData.depthAll (l.map fun (x : Nat) => PyData.int (x : Nat)) = 0 := by
    intro l
    induction l with
    | nil => rfl
    | cons x l ih => show max 0 (PyData.depthAll (l.map fun (x : Nat) => PyData.int (x : Nat))) = 0; rw [ih]; rfl
  unfold SeqAt.shaped
  have e1 : PyData.canLay0 (.list (l.map fun (x : Nat) => PyData.int (x : Nat))) = true := a l
  have e2 : PyData.depth (.list (l.map fun (x : Nat) => PyData.int (x : Nat))) = 1 := by show PyData.depthAll (l.map fun (x : Nat) => PyData.int (x : Nat)) + 1 = 1; rw [b]
  rw [e1, e2]; rfl
/-- an ascending list of leaves -/
structure Asc (t : Tr) (l : List Nat) : Prop where
  up : l.Pairwise (· < ·)
  lt : ∀ x ∈ l, x < lv t
theorem Asc.len {t : Tr} {l : List Nat} (A : Asc t l) : l.length ≤ lv t := by
  have key : ∀ (l : List Nat) (a m : Nat), l.Pairwise (· < ·) → (∀ x ∈ l, a ≤ x ∧ x < m) → l.length ≤ m - a := by
    intro l
    induction l with
    | nil => intros; simp
    | cons x l ih =>
      intro a m h1 h2
      have h3 := h2 x (List.mem_cons_self ..)
      have h4 := ih (x + 1) m (List.pairwise_cons.mp h1).2 fun y hy => ⟨(List.pairwise_cons.mp h1).1 y hy, (h2 y (List.mem_cons_of_mem _ hy)).2⟩
      simp only [List.length_cons]; omega
  have := key l 0 (lv t) A.up fun x hx => ⟨Nat.zero_le _, A.lt x hx⟩
  omega
theorem lv_le_sz (t : Tr) : lv t ≤ sz t := by rw [← lvN_len]; exact lvN_le t
def C_cal (CS : Addr) : Cn := fun Γ R => ∃ (t : Tr) (l : List Nat), Γ = [.sh (schD CS t), .sh (.lst (iD l))] ∧ Asc t l ∧ sz t ≤ 40 ∧ R = fun d _ => d = .non
abbrev iI (l : List Int) : List D := l.map D.int
theorem iD_eq (l : List Nat) : iD l = iI (l.map fun (x : Nat) => (x : Int)) := by
  show _ = (l.map fun (x : Nat) => (x : Int)).map D.int
  rw [List.map_map]; rfl
/-- needed nodes -/
structure Ndd (t : Tr) (ns : List Int) : Prop where
  up : ns.Pairwise (· < ·)
  ge : ∀ x ∈ ns, -1 ≤ x ∧ x < (sz t : Nat)
  kd : ∀ x ∈ ns, 0 ≤ x → (Lw.kd t)[x.toNat]? ≠ some ("record" : Str)
theorem asc_len {a m : Int} : ∀ {l : List Int}, l.Pairwise (· < ·) → (∀ x ∈ l, a ≤ x ∧ x < m) → (l.length : Int) ≤ m - a ∨ l = [] := by
  intro l
  induction l generalizing a with
  | nil => intros; exact .inr rfl
  | cons x l ih =>
    intro h1 h2
    have h3 := h2 x List.mem_cons_self
    refine .inl ?_
    rcases ih (a := x + 1) (List.pairwise_cons.mp h1).2 (fun y hy => ⟨(List.pairwise_cons.mp h1).1 y hy, (h2 y (List.mem_cons_of_mem _ hy)).2⟩) with h | h
    · rw [List.length_cons]; omega
    · subst h; show ((0 + 1 : Nat) : Int) ≤ _; omega
theorem Ndd.len {t : Tr} {ns : List Int} (h : Ndd t ns) : ns.length ≤ sz t + 1 := by
  rcases asc_len h.up h.ge with e | e
  · omega
  · subst e; exact Nat.zero_le _
def wtb (ns : List Int) : List Int := -1 :: ns.filter fun x => decide (0 ≤ x)
def lbl (t : Tr) (i : Int) : List Nat := if i < 0 then List.range (lv t) else lfN t i.toNat
def hasB (t : Tr) (nd : Int) (ws : List Int) : Bool := ws.any fun o => !decide (o = nd) && (decide (nd < 0) || decide (nd ∈ if o < 0 then [] else (an t 0 o.toNat).map fun (x : Nat) => (x : Int)))
def lowN (t : Tr) (ns : List Int) : List Int := (wtb ns).filter fun x => !hasB t x (wtb ns)
def told (t : Tr) (ls : List Nat) (x : Int) : Bool := ls.any fun l => decide (l ∈ lbl t x)
def untN (t : Tr) (ns : List Int) (ls : List Nat) : Option Int := (wtb ns).find? fun x => !told t ls x
def oI : Option Int → D
  | none => .non
  | some x => .int x
theorem wtb_mem {t : Tr} {ns : List Int} (h : Ndd t ns) {x : Int} (m : x ∈ wtb ns) : -1 ≤ x ∧ x < (sz t : Nat) := by
  rcases List.mem_cons.mp m with rfl | m
  · exact ⟨Int.le_refl _, by have := sz_pos t; omega⟩
  · exact h.ge x (List.mem_filter.mp m).1
theorem wtb_len {t : Tr} {ns : List Int} (h : Ndd t ns) : (wtb ns).length ≤ sz t + 2 := by
  have h1 := h.len
  have h2 := List.length_filter_le (fun x => decide (0 ≤ x)) ns
  show (ns.filter fun x => decide (0 ≤ x)).length + 1 ≤ _
  omega
/-- line_to, of the table too -/
def C_lineI (CS : Addr) : Cn := fun Γ R => ∃ (t : Tr) (i : Int) (more : List (Str × D)), Γ = [.sh (schP CS t more), .sh (.int i)] ∧ -1 ≤ i ∧ i < (sz t : Nat) ∧ sz t ≤ 40 ∧ R = fun d _ => d = .lst (iI (if i < 0 then [] else (an t 0 i.toNat).map fun (x : Nat) => (x : Int)))
def C_lineM (CS : Addr) : Cn := fun Γ R => ∃ (t : Tr) (more : List (Str × D)), Γ = [.sh (schP CS t more), .sh (.int (-1))] ∧ R = fun d _ => d = .lst []
theorem ok_lineM (F : FnP K "line_to" s_line_to f fd) : FnOk P w K mg base CX0 1 f fd ["schema", "node"] (spE (C_lineM CS)) := by
  refine fn_ok F sc_line_to (fun Γ R ⟨t, _, h, _⟩ => by subst h; rfl) fun cdv A outer s H E hr => ⟨_, (pss_cons (ps_set (i := 2) sc_line_to.nd rfl (by first | exact Or.inl rfl | exact Or.inr rfl) (pe_lst pa_nil))
      (pss_cons (ps_while PassesOwn.never (pt_cmpR op_ge (pv 1) pe_int (nomark _)) (pss_cons (ps_expr (pe_bm PySem.F.plainAttrs_list PySem.F.slot_list_append PySem.F.type_list_append mt_append (pv 2) (pa_cons (pv 1) pa_nil)))
      (pss_one (ps_set (i := 1) sc_line_to.nd rfl (by first | exact Or.inl rfl | exact Or.inr rfl) (pe_ix ix_tup (pe_fld (pv 0) rfl) (pv 1) (fun _ _ => rfl))))))
      (pss_one (ps_ret (pe_revL (pv 2)))))), ?_⟩
  rintro Γ R ⟨t, more, rfl, rfl⟩ _
  show SW _ [.sh (schP CS t more), .sh (.int (-1)), .un] _
  refine q_asgF (ds := []) (ef_lst ea_nil (Nat.zero_le _)) ?_
  show SW _ [.sh (schP CS t more), .sh (.int (-1)), .own []] _
  refine sw_seq (fun Γ' => Γ' = [.sh (schP CS t more), .sh (.int (-1)), .own []]) (sw_while (fun m Γ' => Γ' = [.sh (schP CS t more), .sh (.int (-1)), .own []]) 0 rfl ?_) ?_
  · rintro m _ rfl
    exact ⟨false, (et_test (ep_op (ep_var rfl) ep_int rd_I0b)).cast (by rfl), fun z => absurd z Bool.false_ne_true, fun _ => rfl⟩
  · rintro _ rfl
    refine sw_frz (i := 2) rfl ?_
    exact sw_ret (d := .lst []) ((ef_rev (ep_var rfl)).p.cast rfl) ⟨rfl, trivial⟩
theorem ok_lineI (T : Sx K w mg CS C kd es n) (F : FnP K "line_to" s_line_to f fd) : FnOk P w K mg base CX0 1 f fd ["schema", "node"] (spE (C_lineI CS)) := by
  have h := FnOk.or (ok_line (P := P) (w := w) (mg := mg) (base := base) T F) (ok_lineM (P := P) (w := w) (mg := mg) (base := base) (CS := CS) F)
  have key : ∀ Γ R, C_lineI CS Γ R → C_line CS Γ R ∨ C_lineM CS Γ R := fun Γ R ⟨t, i, more, e, i0, i1, h40, eR⟩ => by
    by_cases z : i < 0
    · have ei : i = -1 := by omega
      subst ei
      exact .inr ⟨t, more, e, by rw [eR]; rfl⟩
    · refine .inl ⟨t, i.toNat, more, by rw [e, show ((i.toNat : Nat) : Int) = i by omega], by omega, h40, ?_⟩
      rw [eR, if_neg z, ← iD_eq]
  exact ⟨fun vs H Q E ⟨c, F, Γ, R, G, a, hC, q⟩ => h.len vs H Q E ⟨c, F, Γ, R, G, a, key Γ R hC, q⟩, fun A outer s H args us vs Q E r0 r1 r2 r3 ⟨c, F, Γ, R, G, a, hC, q⟩ => h.run A outer s H args us vs Q E r0 r1 r2 r3 ⟨c, F, Γ, R, G, a, key Γ R hC, q⟩⟩
def C_lb (CS : Addr) : Cn := fun Γ R => ∃ (t : Tr) (i : Int), Γ = [.sh (schD CS t), .sh (.int i)] ∧ -1 ≤ i ∧ i < (sz t : Nat) ∧ sz t ≤ 40 ∧ R = fun d _ => d = .tup (iD (lbl t i))
theorem ok_lb (T : Tx mg) (S' : Sx K w mg CS C kd es n) (L : SLen P w K mg base CS) (F : FnP K "leaves_below" s_leaves_below f fd) : FnOk P w K mg base CX0 3 f fd ["schema", "node"] (spE (C_lb CS)) := by
  refine fn_ok F sc_leaves_below (fun Γ R ⟨t, i, h, _⟩ => by subst h; rfl) fun cdv A outer s H E hr => ⟨_, (pss_cons (ps_if (pt_cmpR op_lt (pv 1) pe_int (nomark _)) (pss_one (ps_ret (pe_tupRg rfl rfl T.z_tuple (prg_1 rfl T.z_range (pe_callB (L.len hr) rfl T.z_len (by decide +kernel) (pa_cons (pv 0) pa_nil)))))) pss_nil)
      (pss_one (ps_ret (pe_ix ix_tup (pe_fld (pv 0) rfl) (pv 1) (fun _ _ => rfl))))), ?_⟩
  rintro Γ R ⟨t, i, rfl, i0, i1, h40, rfl⟩ _
  show SW _ [.sh (schD CS t), .sh (.int i)] _
  have hle := lvN_le t
  refine sw_guard (b := decide (i < 0)) (et_test (ep_op (ep_var rfl) ep_int rd_I0b)) (fun z => ?_) fun z => ?_
  · have z := of_decide_eq_true z
    refine sw_ret (EvP.cast (ep_tupRg (n := lv t) (ep_cb (z := .int (lv t : Nat)) (ea_cons (x := schD CS t) (ep_var rfl) ea_nil) (rc_lenO (Cc := C_slen CS) (R := fun d _ => d = .int ((lvN (Lw.kd t)).length : Nat)) ⟨t, rfl, rfl⟩ (fun e _ h => by rw [h, lvN_len]) (by rw [lvN_len] at hle; omega))) (by rw [lvN_len] at hle; omega)) ?_) ⟨rfl, trivial⟩
    rw [lbl, if_pos z]; rfl
  · have z := of_decide_eq_false z
    refine sw_ret (d := .tup (iD (lfN t i.toNat))) (ep_op (ep_fld (ep_var rfl) S'.cls S'.f_leaves_of_nodes rfl) (ep_var rfl) (rd_ixT ?_)) ⟨by rw [lbl, if_neg z], trivial⟩
    have ei : i = ((i.toNat : Nat) : Int) := by omega
    rw [ei]
    refine atI_nat ?_
    rw [Int.toNat_natCast]
    rw [List.getElem?_map, List.getElem?_range (by omega)]
    rfl
def C_cn (CS : Addr) : Cn := fun Γ R => ∃ (t : Tr) (ns : List Int), Γ = [.sh (schD CS t), .sh (.lst (iI ns))] ∧ Ndd t ns ∧ sz t ≤ 40 ∧ R = fun d _ => d = .non
def C_wt : Cn := fun Γ R => ∃ (t : Tr) (ns : List Int), Γ = [.sh (.lst (iI ns))] ∧ Ndd t ns ∧ sz t ≤ 40 ∧ R = fun d _ => d = .lst (iI (wtb ns))
def C_fu (CS : Addr) : Cn := fun Γ R => ∃ (t : Tr) (ns : List Int) (ls : List Nat), Γ = [.sh (schD CS t), .sh (.lst (iI ns)), .sh (.lst (iD ls))] ∧ Ndd t ns ∧ Asc t ls ∧ sz t ≤ 40 ∧ R = fun d _ => d = oI (untN t ns ls)
def C_hb (CS : Addr) : Cn := fun Γ R => ∃ (t : Tr) (x : Int) (ws : List Int), Γ = [.sh (schD CS t), .sh (.int x), .sh (.lst (iI ws))] ∧ (∀ y ∈ ws, -1 ≤ y ∧ y < (sz t : Nat)) ∧ ws.length ≤ 100 ∧ sz t ≤ 40 ∧ R = fun d _ => d = .bl (hasB t x ws)
def C_low (CS : Addr) : CnF := fun es Rl => ∃ (t : Tr) (ns : List Int), es = [schD CS t, .lst (iI ns)] ∧ Ndd t ns ∧ sz t ≤ 40 ∧ Rl = fun ds => ds = iI (lowN t ns)
def C_ie (CS : Addr) : Cn := fun Γ R => ∃ (t : Tr) (ns : List Int) (ls : List Nat), Γ = [.sh (schD CS t), .sh (.lst (iI ns)), .sh (.lst (iD ls))] ∧ Ndd t ns ∧ Asc t ls ∧ sz t ≤ 40 ∧ R = fun d _ => d = .bl (untN t ns ls).isNone
end
end Lw
set_option Elab.async false
set_option linter.all false
set_option maxRecDepth 100000
set_option maxHeartbeats 4000000
namespace DL
open PySem PySem.Spec PyProof.Rows L2
abbrev rInt1 : List V → Hp → VK → Prop := fun xs H Q => (∃ i, xs = [.int i] ∧ Q (.int i) H) ∨ ∃ k, xs = [.bl k] ∧ Q (.int (if k then 1 else 0)) H
theorem rc_intB {k : Bool} : RC rInt1 [.bl k] (.int (if k then 1 else 0)) := fun F H vs e r Q q => by
  obtain ⟨v, _, rfl, rv, rfl⟩ := r
  have ev : v = .bl k := rv
  subst ev
  exact .inr ⟨k, rfl, q _ F H (.refl e) rfl⟩
end DL
namespace Lw
open PySem PySem.Spec PyProof.Rows L2 DL
theorem sc__law_wish : FnScope ["tape", "tree", "one"] ["tape", "tree"] (defScope s__law_wish) := ⟨rfl, rfl, rfl, by decide +kernel, rfl, by decide +kernel, by decide +kernel⟩
theorem sc__law_test : FnScope ["tape", "tree", "spot", "levels", "one", "some", "two", "more", "below"] ["tape", "tree", "spot", "levels"] (defScope s__law_test) := ⟨rfl, rfl, rfl, by decide +kernel, rfl, by decide +kernel, by decide +kernel⟩
def kindT : Tr → Str
  | .v => "value"
  | .o true _ => "list"
  | .o false _ => "maybe"
  | .r _ => "record"
mutual
theorem subs_kd : ∀ (t : Tr) (n : Nat), (subs t n).map (fun p => kindT p.1) = Lw.kd t
  | .v, n => rfl
  | .o true t, n => by rw [subs, List.map_cons, subs_kd t (n + 1)]; rfl
  | .o false t, n => by rw [subs, List.map_cons, subs_kd t (n + 1)]; rfl
  | .r fs, n => by rw [subs, List.map_cons, subss_kd fs (n + 1)]; rfl
theorem subss_kd : ∀ (fs : List (Str × Tr)) (n : Nat), (subss fs n).map (fun p => kindT p.1) = kds fs
  | [], n => rfl
  | (s, t) :: r, n => by rw [subss, List.map_append, subs_kd t n, subss_kd r (n + sz t), kds]
end
theorem subs_at {t : Tr} {i : Nat} (h : i < sz t) : ∃ u, (subs t 0)[i]? = some (u, i) ∧ (Lw.kd t)[i]? = some (kindT u) := by
  have hl : i < (subs t 0).length := by rw [subs_len]; exact h
  have e1 := congrArg (·[i]?) (subs_ix t 0)
  have e2 := congrArg (·[i]?) (subs_kd t 0)
  simp only [List.getElem?_map, List.getElem?_eq_getElem hl, List.getElem?_range h, Option.map_some] at e1 e2
  have e3 : ((subs t 0)[i]).2 = i := by have := Option.some.inj e1; omega
  exact ⟨((subs t 0)[i]).1, by rw [List.getElem?_eq_getElem hl]; exact congrArg some (Prod.ext rfl e3), e2.symm⟩
theorem trN_kind (u : Tr) (n : Nat) : ∃ a b, trN u n = .tup [.str (kindT u), .int (n : Nat), a, b] := by
  cases u with
  | v => exact ⟨_, _, rfl⟩
  | o l u => cases l <;> exact ⟨_, _, rfl⟩
  | r fs => exact ⟨_, _, rfl⟩
/-- asks without asks in them, of a tree -/
def okW (t : Tr) (w : Str) (x : Int) : Prop := -1 ≤ x ∧ x < (sz t : Nat) ∧ (w = "count" ∨ 0 ≤ x ∧ (((w = "values" ∨ w = "sum" ∨ w = "least" ∨ w = "greatest") ∧ (Lw.kd t)[x.toNat]? = some ("value" : Str)) ∨ (w = "there" ∧ (Lw.kd t)[x.toNat]? = some ("maybe" : Str)) ∨ (w = "lengths" ∧ (Lw.kd t)[x.toNat]? = some ("list" : Str))))
def C_wish : CnY S3 := fun k es R => ∃ (t : Tr) (n : Nat), es = [trN t 0] ∧ SpS k n ∧ n + 10 ≤ 1000000000 ∧ dp t < 7 ∧ sz t ≤ 1000 ∧ R = fun d k' => ∃ (w : Str) (x : Int), d = .tup [.str w, .int x] ∧ okW t w x ∧ SpS k' (n + 10)
section
variable {P : Program} {w : World} {K : PySem.W.Frag} {mg : Str → Option Value} {base : Heap} {f : Addr} {fd : FuncData}
theorem ok_wish (T : Tx mg) (c__law_next : Cal P w K mg base 1 "_law_next" (spY K3 C_next)) (c__law_all : Cal P w K mg base 8 "_law_all" (spE (C_all 7))) (F : FnP K "_law_wish" s__law_wish f fd) : FnOk P w K mg base CX0 9 f fd ["tape", "tree"] (spY K3 C_wish) := by
  refine fn_okY K3.two F sc__law_wish (fun k es R ⟨t, n, h, _⟩ => by subst h; rfl) fun cdv A outer s H E hr => ⟨_, (pss_cons (ps_set (i := 2) sc__law_wish.nd rfl (by first | exact Or.inl rfl | exact Or.inr rfl) (pe_ix ix_list (pe_c c__law_all hr (by first | decide | omega) rfl (pa_cons (pv 1) pa_nil)) (pe_c c__law_next hr (by first | decide | omega) rfl (pa_cons (pv 0) (pa_cons (pe_callB call_len_seq rfl T.z_len (by decide +kernel) (pa_cons (pe_c c__law_all hr (by first | decide | omega) rfl (pa_cons (pv 1) pa_nil)) pa_nil)) pa_nil))) (fun _ _ => rfl)))
      (pss_cons (ps_if (pt_cmpR op_eq (pe_c c__law_next hr (by first | decide | omega) rfl (pa_cons (pv 0) (pa_cons pe_int pa_nil))) pe_int (nomark _)) (pss_one (ps_ret (pe_tup (pa_cons pe_str (pa_cons (pe_un un_neg pe_int) pa_nil))))) pss_nil)
      (pss_cons (ps_if (pt_cmpR op_eq (pe_ix ix_tup (pv 2) pe_int (fun _ _ => rfl)) pe_str (nomark _)) (pss_one (ps_ret (pe_tup (pa_cons (pe_ix ix_list (pe_lst (pa_cons pe_str (pa_cons pe_str (pa_cons pe_str (pa_cons pe_str (pa_cons pe_str pa_nil)))))) (pe_c c__law_next hr (by first | decide | omega) rfl (pa_cons (pv 0) (pa_cons pe_int pa_nil))) (fun _ _ => rfl)) (pa_cons (pe_ix ix_tup (pv 2) pe_int (fun _ _ => rfl)) pa_nil))))) pss_nil)
      (pss_cons (ps_if (PW.pt (pw_or (pt_cmpR op_eq (pe_c c__law_next hr (by first | decide | omega) rfl (pa_cons (pv 0) (pa_cons pe_int pa_nil))) pe_int (nomark _)) (pw_or1 (pt_cmpR op_eq (pe_ix ix_tup (pv 2) pe_int (fun _ _ => rfl)) pe_str (nomark _))))) (pss_one (ps_ret (pe_tup (pa_cons pe_str (pa_cons (pe_ix ix_tup (pv 2) pe_int (fun _ _ => rfl)) pa_nil))))) pss_nil)
      (pss_one (ps_ret (pe_tup (pa_cons (pe_ix ix_list (pe_lst (pa_cons pe_str (pa_cons pe_str pa_nil))) (pe_callTy call_int1 rfl T.z_int (by decide +kernel) (pa_cons (pe_cmpR op_eq (pe_ix ix_tup (pv 2) pe_int (fun _ _ => rfl)) pe_str (nomark _)) pa_nil)) (fun _ _ => rfl)) (pa_cons (pe_ix ix_tup (pv 2) pe_int (fun _ _ => rfl)) pa_nil))))))))), ?_⟩
  rintro z k es R ⟨a, rfl⟩ ⟨t, n, rfl, hs, hn, hd, hz, rfl⟩
  show SY (cell3 a) _ [.sh (.ref a), .sh (trN t 0), .un] k _
  have hz0 := sz_pos t
  have all : ∀ {Γ : List En}, Γ[1]? = some (.sh (trN t 0)) → EvP (tCall (spE (C_all 7)) [] E0 (tCons (tVar 1) tNil)) Γ (.lst (suD (subs t 0))) := fun h => ep_call (ea_cons (ep_var h) ea_nil) ⟨t, 0, rfl, hd, hz, rfl⟩ fun e _ h => h
  refine qy_asg (R := fun d k' => ∃ (i : Nat) (u : Tr), d = trN u i ∧ i < sz t ∧ (Lw.kd t)[i]? = some (kindT u) ∧ SpS k' (n + 1)) (ey_opP (all rfl) (ey_next (m := (sz t : Nat)) rfl (ea_cons (x := .int (sz t : Nat)) (EvP.cast (ep_cb (ea_cons (all rfl) ea_nil) rc_len) (by rw [List.length_map, subs_len])) ea_nil) hs (by omega) (by omega) (by omega) fun r k' g0 g1 h => ?_)) ?_
  · obtain ⟨u, e1, e2⟩ := subs_at (t := t) (i := r.toNat) (by omega)
    refine ⟨trN u r.toNat, rd_ixL ?_, r.toNat, u, rfl, by omega, e2, h⟩
    have er : r = ((r.toNat : Nat) : Int) := by omega
    rw [er, Int.toNat_natCast]
    exact atI_nat (by rw [List.getElem?_map, e1]; rfl)
  rintro _ k1 ⟨i, u, rfl, hi, hk, h1⟩
  obtain ⟨b, c, eu⟩ := trN_kind u i
  rw [eu]
  show SY (cell3 a) _ [.sh (.ref a), .sh (trN t 0), .sh (.tup [.str (kindT u), .int (i : Nat), b, c])] k1 _
  have e0 : ∀ {Γ : List En}, Γ[2]? = some (.sh (.tup [.str (kindT u), .int (i : Nat), b, c])) → EvP (tOp (rIxT K) (tVar 2) (tC (.int 0))) Γ (.str (kindT u)) := fun h => ep_op (ep_var h) ep_int (rd_ixT rfl)
  have e1 : ∀ {Γ : List En}, Γ[2]? = some (.sh (.tup [.str (kindT u), .int (i : Nat), b, c])) → EvP (tOp (rIxT K) (tVar 2) (tC (.int 1))) Γ (.int (i : Nat)) := fun h => ep_op (ep_var h) ep_int (rd_ixT rfl)
  have hcount : okW t "count" (i : Nat) := ⟨by omega, by omega, .inl rfl⟩
  refine sy_guardY (R := fun _ k' => SpS k' (n + 2)) (ety_test (R1 := fun d k' => (∃ v, d = .bl v) ∧ SpS k' (n + 2)) (ey_opL (R1 := fun d k' => (∃ r, d = .int r) ∧ SpS k' (n + 2)) (ey_next rfl (ea_cons ep_int ea_nil) h1 (by omega) (by decide) (by decide) fun r k' _ _ h => ⟨⟨r, rfl⟩, h⟩) fun x k' ⟨⟨r, e⟩, h⟩ => by subst e; exact ⟨_, _, ep_int, rd_eqI, ⟨_, rfl⟩, h⟩) fun d k' ⟨⟨v, e⟩, h⟩ => ⟨v, e, h⟩) (fun k2 h2 => ?_) fun k2 h2 => ?_
  · exact sy_retP (d := .tup [.str "count", .int (-1)]) (ep_tup (ea_cons ep_str (ea_cons (ep_un (x := .int 1) ep_int rc_neg) ea_nil)) (by show 2 ≤ sizeLine; decide)) ⟨"count", -1, rfl, ⟨by omega, by omega, .inl rfl⟩, h2.mono (by omega)⟩
  refine sy_guard (v := decide (kindT u = ("value" : Str))) (et_test (ep_op (e0 rfl) ep_str rd_eqS)) (fun hv => ?_) fun hv => ?_
  · have hv := of_decide_eq_true hv
    rw [hv] at hk
    have ws : ∀ r : Nat, r < 5 → ∃ w : Str, ([D.str "values", .str "sum", .str "least", .str "greatest", .str "count"] : List D)[r]? = some (.str w) ∧ okW t w (i : Nat) := fun r hr => by
      rcases (show r = 0 ∨ r = 1 ∨ r = 2 ∨ r = 3 ∨ r = 4 by omega) with rfl | rfl | rfl | rfl | rfl
      · exact ⟨_, rfl, by omega, by omega, .inr ⟨by omega, .inl ⟨.inl rfl, by rw [Int.toNat_natCast]; exact hk⟩⟩⟩
      · exact ⟨_, rfl, by omega, by omega, .inr ⟨by omega, .inl ⟨.inr (.inl rfl), by rw [Int.toNat_natCast]; exact hk⟩⟩⟩
      · exact ⟨_, rfl, by omega, by omega, .inr ⟨by omega, .inl ⟨.inr (.inr (.inl rfl)), by rw [Int.toNat_natCast]; exact hk⟩⟩⟩
      · exact ⟨_, rfl, by omega, by omega, .inr ⟨by omega, .inl ⟨.inr (.inr (.inr rfl)), by rw [Int.toNat_natCast]; exact hk⟩⟩⟩
      · exact ⟨_, rfl, hcount⟩
    refine sy_ret (R := fun d k' => ∃ (w : Str) (x : Int), d = .tup [.str w, .int x] ∧ okW t w x ∧ SpS k' (n + 10)) (ey_tup (R' := fun ds k' => ∃ w : Str, ds = [.str w, .int (i : Nat)] ∧ okW t w (i : Nat) ∧ SpS k' (n + 10)) (eay_cons (R1 := fun d k' => ∃ w : Str, d = .str w ∧ okW t w (i : Nat) ∧ SpS k' (n + 10)) (ey_opP (x := .lst [.str "values", .str "sum", .str "least", .str "greatest", .str "count"]) (EvF.p (ef_lst (ea_cons ep_str (ea_cons ep_str (ea_cons ep_str (ea_cons ep_str (ea_cons ep_str ea_nil))))) (by show 5 ≤ sizeLine; decide))) (ey_next rfl (ea_cons ep_int ea_nil) h2 (by omega) (by decide) (by decide) fun r k' g0 g1 h => ?_)) fun x k' ⟨w, e, q⟩ => eay_consP (e1 rfl) (eay_nil ⟨w, by rw [e], q⟩)) fun ds k' ⟨w, e, q⟩ => ⟨by rw [e]; show 2 ≤ sizeLine; decide, w, _, by rw [e], q⟩) fun d k' h => h
    obtain ⟨w, hw, ho⟩ := ws r.toNat (by omega)
    have er : r = ((r.toNat : Nat) : Int) := by omega
    refine ⟨.str w, rd_ixL (by rw [er]; exact atI_nat hw), w, rfl, ho, h.mono (by omega)⟩
  have hv := of_decide_eq_false hv
  refine sy_guardY (R := fun v k' => (v = false → kindT u ≠ ("record" : Str)) ∧ SpS k' (n + 3)) (ety_or (R' := fun v k' => SpS k' (n + 3)) (ety_test (R1 := fun d k' => (∃ v, d = .bl v) ∧ SpS k' (n + 3)) (ey_opL (R1 := fun d k' => (∃ r, d = .int r) ∧ SpS k' (n + 3)) (ey_next rfl (ea_cons ep_int ea_nil) h2 (by omega) (by decide) (by decide) fun r k' _ _ h => ⟨⟨r, rfl⟩, h⟩) fun x k' ⟨⟨r, e⟩, h⟩ => by subst e; exact ⟨_, _, ep_int, rd_eqI, ⟨_, rfl⟩, h⟩) fun d k' ⟨⟨v, e⟩, h⟩ => ⟨v, e, h⟩) (fun k' h => ⟨(fun z => by cases z), h⟩) fun k' h => ety_p (et_test (ep_op (e0 rfl) ep_str rd_eqS)) ⟨fun z => of_decide_eq_false z, h⟩) (fun k3 ⟨_, h3⟩ => ?_) fun k3 ⟨hnr, h3⟩ => ?_
  · exact sy_retP (d := .tup [.str "count", .int (i : Nat)]) (ep_tup (ea_cons ep_str (ea_cons (e1 rfl) ea_nil)) (by show 2 ≤ sizeLine; decide)) ⟨"count", _, rfl, hcount, h3.mono (by omega)⟩
  have hnr := hnr rfl
  obtain ⟨l, e⟩ : ∃ l : Bool, kindT u = (if l then "list" else "maybe") := by
    cases u with
    | v => exact absurd rfl hv
    | o l u => exact ⟨l, by cases l <;> rfl⟩
    | r fs => exact absurd rfl hnr
  refine sy_retP (d := .tup [.str (if l then "lengths" else "there"), .int (i : Nat)]) (ep_tup (ea_cons (ep_op (x := .lst [.str "there", .str "lengths"]) (y := .int (if l then 1 else 0)) (EvF.p (ef_lst (ea_cons ep_str (ea_cons ep_str ea_nil)) (by show 2 ≤ sizeLine; decide))) (EvP.cast (ep_cb (ea_cons (EvP.cast (ep_op (e0 rfl) ep_str rd_eqS) (congrArg D.bl (show decide (kindT u = ("list" : Str)) = l by rw [e]; cases l <;> decide))) ea_nil) rc_intB) (by cases l <;> rfl)) (by cases l <;> exact rd_ixL rfl)) (ea_cons (e1 rfl) ea_nil)) (by show 2 ≤ sizeLine; decide)) ⟨_, _, rfl, ⟨by omega, by omega, .inr ⟨by omega, ?_⟩⟩, h3.mono (by omega)⟩
  rw [Int.toNat_natCast]
  cases l with
  | true => exact .inr (.inr ⟨rfl, by rw [hk, e]; rfl⟩)
  | false => exact .inr (.inl ⟨rfl, by rw [hk, e]; rfl⟩)
end
end Lw
set_option Elab.async false
set_option linter.all false
set_option maxRecDepth 100000
set_option maxHeartbeats 4000000
/-! M4: subtrees as stretches of nodes; the leaves below needed nodes; the lightest list of leaves. -/
namespace Lw
open PySem PySem.Spec PyProof.Rows L2 DL
mutual
/-- how many nodes are at or below node i -/
def se : Tr → Nat → Nat
  | .v, _ => 1
  | .o _ t, 0 => sz t + 1
  | .o _ t, i + 1 => se t i
  | .r fs, 0 => szs fs + 1
  | .r fs, i + 1 => ses fs i
def ses : List (Str × Tr) → Nat → Nat
  | [], _ => 0
  | (_, t) :: r, i => if i < sz t then se t i else ses r (i - sz t)
end
mutual
theorem se_le : ∀ (t : Tr) (i : Nat), i < sz t → 1 ≤ se t i ∧ i + se t i ≤ sz t
  | .v, i, h => by simp only [sz, se] at *; omega
  | .o _ t, 0, h => by simp only [sz, se] at *; omega
  | .o _ t, i + 1, h => by
    have := se_le t i (by simp only [sz] at h; omega)
    simp only [sz, se] at *; omega
  | .r fs, 0, h => by simp only [sz, se] at *; omega
  | .r fs, i + 1, h => by
    have := ses_le fs i (by simp only [sz] at h; omega)
    simp only [sz, se] at *; omega
theorem ses_le : ∀ (fs : List (Str × Tr)) (i : Nat), i < szs fs → 1 ≤ ses fs i ∧ i + ses fs i ≤ szs fs
  | [], i, h => by simp only [szs] at h; omega
  | (_, t) :: r, i, h => by
    simp only [szs, ses] at *
    by_cases z : i < sz t
    · rw [if_pos z]
      have := se_le t i z
      omega
    · rw [if_neg z]
      have := ses_le r (i - sz t) (by omega)
      omega
end
mutual
theorem mem_an : ∀ (t : Tr) (n i j : Nat), i < sz t → j < sz t → (n + i ∈ an t n j ↔ i ≤ j ∧ j < i + se t i)
  | .v, n, i, j, hi, hj => by
    simp only [sz] at hi hj
    have : i = 0 := by omega
    have : j = 0 := by omega
    subst i j
    simp [an, se]
  | .o _ t, n, 0, 0, hi, hj => by simp [an, se]
  | .o _ t, n, 0, j + 1, hi, hj => by simp only [sz] at hj; simp [an, se]; omega
  | .o _ t, n, i + 1, 0, hi, hj => by simp [an, se]
  | .o _ t, n, i + 1, j + 1, hi, hj => by
    have h := mem_an t (n + 1) i j (by simp only [sz] at hi; omega) (by simp only [sz] at hj; omega)
    have e : n + 1 + i = n + (i + 1) := by omega
    rw [e] at h
    simp only [an, se, List.mem_cons, h]
    constructor
    · rintro (q | q) <;> omega
    · intro q; right; omega
  | .r fs, n, 0, 0, hi, hj => by simp [an, se]
  | .r fs, n, 0, j + 1, hi, hj => by simp only [sz] at hj; simp [an, se]; omega
  | .r fs, n, i + 1, 0, hi, hj => by simp [an, se]
  | .r fs, n, i + 1, j + 1, hi, hj => by
    have h := mem_ans fs (n + 1) i j (by simp only [sz] at hi; omega) (by simp only [sz] at hj; omega)
    have e : n + 1 + i = n + (i + 1) := by omega
    rw [e] at h
    simp only [an, se, List.mem_cons, h]
    constructor
    · rintro (q | q) <;> omega
    · intro q; right; omega
theorem mem_ans : ∀ (fs : List (Str × Tr)) (k i j : Nat), i < szs fs → j < szs fs → (k + i ∈ ans fs k j ↔ i ≤ j ∧ j < i + ses fs i)
  | [], k, i, j, hi, hj => by simp only [szs] at hi; omega
  | (_, t) :: r, k, i, j, hi, hj => by
    simp only [szs] at hi hj
    simp only [ans, ses]
    by_cases zi : i < sz t
    · rw [if_pos zi]
      by_cases zj : j < sz t
      · rw [if_pos zj]; exact mem_an t k i j zi zj
      · rw [if_neg zj]
        have := se_le t i zi
        constructor
        · intro q
          have := ans_rng r (k + sz t) (j - sz t) (by omega) _ q
          omega
        · intro q; omega
    · rw [if_neg zi]
      by_cases zj : j < sz t
      · rw [if_pos zj]
        constructor
        · intro q
          have := an_rng t k j zj _ q
          omega
        · intro q; omega
      · rw [if_neg zj]
        have h := mem_ans r (k + sz t) (i - sz t) (j - sz t) (by omega) (by omega)
        have e : k + sz t + (i - sz t) = k + i := by omega
        rw [e] at h
        rw [h]
        constructor <;> intro q <;> omega
end
mutual
theorem se_in : ∀ (t : Tr) (i j : Nat), i < sz t → i ≤ j → j < i + se t i → j + se t j ≤ i + se t i
  | .v, i, j, h, h1, h2 => by simp only [sz, se] at *; omega
  | .o _ t, 0, 0, h, h1, h2 => Nat.le_refl _
  | .o _ t, 0, j + 1, h, h1, h2 => by
    simp only [se] at *
    have := se_le t j (by omega)
    omega
  | .o _ t, i + 1, 0, h, h1, h2 => by omega
  | .o _ t, i + 1, j + 1, h, h1, h2 => by
    simp only [se, sz] at *
    have := se_in t i j (by omega) (by omega) (by omega)
    omega
  | .r fs, 0, 0, h, h1, h2 => Nat.le_refl _
  | .r fs, 0, j + 1, h, h1, h2 => by
    simp only [se] at *
    have := ses_le fs j (by omega)
    omega
  | .r fs, i + 1, 0, h, h1, h2 => by omega
  | .r fs, i + 1, j + 1, h, h1, h2 => by
    simp only [se, sz] at *
    have := ses_in fs i j (by omega) (by omega) (by omega)
    omega
theorem ses_in : ∀ (fs : List (Str × Tr)) (i j : Nat), i < szs fs → i ≤ j → j < i + ses fs i → j + ses fs j ≤ i + ses fs i
  | [], i, j, h, _, _ => by simp only [szs] at h; omega
  | (_, t) :: r, i, j, h, h1, h2 => by
    simp only [szs, ses] at *
    by_cases zi : i < sz t
    · rw [if_pos zi] at h2 ⊢
      have := se_le t i zi
      rw [if_pos (by omega)]
      exact se_in t i j zi h1 h2
    · rw [if_neg zi] at h2 ⊢
      rw [if_neg (by omega)]
      have := ses_in r (i - sz t) (j - sz t) (by omega) (by omega) (by omega)
      omega
end
mutual
theorem se_leaf : ∀ (t : Tr), okr t → ∀ i, i < sz t → ∃ j, i ≤ j ∧ j < i + se t i ∧ (Lw.kd t)[j]? = some ("value" : Str)
  | .v, _, i, h => by
    simp only [sz] at h
    have : i = 0 := by omega
    subst i
    exact ⟨0, Nat.le_refl _, by simp [se], rfl⟩
  | .o l t, k, 0, h => by
    obtain ⟨j, _, h2, h3⟩ := se_leaf t k 0 (sz_pos t)
    have := se_le t 0 (sz_pos t)
    refine ⟨j + 1, by omega, by simp only [se]; omega, ?_⟩
    cases l <;> simpa [Lw.kd] using h3
  | .o l t, k, i + 1, h => by
    obtain ⟨j, h1, h2, h3⟩ := se_leaf t k i (by simp only [sz] at h; omega)
    refine ⟨j + 1, by omega, by simp only [se]; omega, ?_⟩
    cases l <;> simpa [Lw.kd] using h3
  | .r fs, k, 0, h => by
    obtain ⟨k1, k2, k3, k4⟩ := k
    cases fs with
    | nil => exact absurd rfl k1
    | cons f r =>
      obtain ⟨s, t⟩ := f
      obtain ⟨j, _, h2, h3⟩ := ses_leaf ((s, t) :: r) k4 0 (by simp only [szs]; have := sz_pos t; omega)
      have := ses_le ((s, t) :: r) 0 (by simp only [szs]; have := sz_pos t; omega)
      refine ⟨j + 1, by omega, by simp only [se]; omega, by simpa [Lw.kd] using h3⟩
  | .r fs, k, i + 1, h => by
    obtain ⟨j, h1, h2, h3⟩ := ses_leaf fs k.2.2.2 i (by simp only [sz] at h; omega)
    exact ⟨j + 1, by omega, by simp only [se]; omega, by simpa [Lw.kd] using h3⟩
theorem ses_leaf : ∀ (fs : List (Str × Tr)), okrs fs → ∀ i, i < szs fs → ∃ j, i ≤ j ∧ j < i + ses fs i ∧ (kds fs)[j]? = some ("value" : Str)
  | [], _, i, h => by simp only [szs] at h; omega
  | (_, t) :: r, k, i, h => by
    simp only [szs, ses] at *
    by_cases z : i < sz t
    · rw [if_pos z]
      obtain ⟨j, h1, h2, h3⟩ := se_leaf t k.1 i z
      have := se_le t i z
      refine ⟨j, h1, h2, ?_⟩
      simp only [kds]
      rw [List.getElem?_append_left (by rw [kd_len]; omega)]; exact h3
    · rw [if_neg z]
      obtain ⟨j, h1, h2, h3⟩ := ses_leaf r k.2 (i - sz t) (by omega)
      refine ⟨j + sz t, by omega, by omega, ?_⟩
      simp only [kds]
      rw [List.getElem?_append_right (by rw [kd_len]; omega), kd_len]
      have e : j + sz t - sz t = j := by omega
      rw [e]; exact h3
end
/-- the first node behind what is at or below a node; -1 is the table -/
def upN (t : Tr) (x : Int) : Int := if x < 0 then (sz t : Nat) else x + (se t x.toNat : Nat)
theorem upN_le {t : Tr} {x : Int} (h1 : -1 ≤ x) (h2 : x < (sz t : Nat)) : x < upN t x ∧ upN t x ≤ (sz t : Nat) := by
  unfold upN
  by_cases z : x < 0
  · rw [if_pos z]; have := sz_pos t; omega
  · rw [if_neg z]; have := se_le t x.toNat (by omega); omega
theorem upN_in {t : Tr} {x y : Int} (h1 : -1 ≤ x) (h2 : x < (sz t : Nat)) (h3 : x ≤ y) (h4 : y < upN t x) : upN t y ≤ upN t x := by
  have hy := upN_le (t := t) (x := y) (by omega) (by have := upN_le h1 h2; omega)
  by_cases z : x < 0
  · unfold upN at h4 ⊢
    rw [if_pos z] at h4 ⊢
    unfold upN at hy
    exact hy.2
  · unfold upN at h4 ⊢
    rw [if_neg z] at h4 ⊢
    rw [if_neg (by omega)]
    have := se_in t x.toNat y.toNat (by omega) (by omega) (by omega)
    omega
theorem at_in {t : Tr} {x y : Int} (h1 : -1 ≤ x) (h2 : x < (sz t : Nat)) (h3 : -1 ≤ y) (h4 : y < (sz t : Nat)) : (decide (x < 0) || decide (x ∈ if y < 0 then [] else (an t 0 y.toNat).map fun (k : Nat) => (k : Int))) = decide (x ≤ y ∧ y < upN t x) := by
  by_cases z : x < 0
  · rw [decide_eq_true z, Bool.true_or]
    unfold upN
    rw [if_pos z]
    exact (decide_eq_true ⟨by omega, h4⟩).symm
  · rw [decide_eq_false z, Bool.false_or]
    refine decide_eq_decide.mpr ?_
    unfold upN
    rw [if_neg z]
    by_cases w : y < 0
    · rw [if_pos w]
      constructor
      · intro h; cases h
      · intro h; omega
    · rw [if_neg w]
      have h := mem_an t 0 x.toNat y.toNat (by omega) (by omega)
      rw [Nat.zero_add] at h
      constructor
      · intro q
        obtain ⟨k, hk, e⟩ := List.mem_map.mp q
        have ek : k = x.toNat := by omega
        subst ek
        have := h.mp hk
        omega
      · intro q
        exact List.mem_map.mpr ⟨x.toNat, h.mpr (by omega), by omega⟩
abbrev lN (t : Tr) (l : Nat) : Nat := (lvN (Lw.kd t)).getD l 0
theorem lvN_up (ks : List Str) : (lvN ks).Pairwise (· < ·) := List.Pairwise.filter _ List.pairwise_lt_range
theorem lN_lt {t : Tr} {l : Nat} (h : l < lv t) : lN t l < sz t ∧ (Lw.kd t)[lN t l]? = some ("value" : Str) := by
  have hl : l < (lvN (Lw.kd t)).length := by rw [lvN_len]; exact h
  have e : (lvN (Lw.kd t))[l]? = some (lN t l) := by
    show _ = some ((lvN (Lw.kd t)).getD l 0)
    rw [List.getD_eq_getElem?_getD, List.getElem?_eq_getElem hl]; rfl
  exact lvN_lt e
theorem lN_mono {t : Tr} {l k : Nat} (h : l < k) (hk : k < lv t) : lN t l < lN t k := by
  have hk' : k < (lvN (Lw.kd t)).length := by rw [lvN_len]; exact hk
  have := List.pairwise_iff_getElem.mp (lvN_up (Lw.kd t)) l k (by omega) hk' h
  show (lvN (Lw.kd t)).getD l 0 < (lvN (Lw.kd t)).getD k 0
  rw [List.getD_eq_getElem?_getD, List.getD_eq_getElem?_getD, List.getElem?_eq_getElem hk', List.getElem?_eq_getElem (by omega)]
  exact this
theorem lN_of {t : Tr} {j : Nat} (h : (Lw.kd t)[j]? = some ("value" : Str)) : ∃ l, l < lv t ∧ lN t l = j := by
  have hj : j < (Lw.kd t).length := (List.getElem?_eq_some_iff.mp h).1
  have m : j ∈ lvN (Lw.kd t) := by
    unfold lvN
    rw [List.mem_filter, List.mem_range]
    exact ⟨hj, decide_eq_true (getD_of h)⟩
  obtain ⟨l, hl, e⟩ := List.getElem_of_mem m
  refine ⟨l, by rw [← lvN_len]; exact hl, ?_⟩
  show (lvN (Lw.kd t)).getD l 0 = j
  rw [List.getD_eq_getElem?_getD, List.getElem?_eq_getElem hl, e]; rfl
theorem lbl_mem {t : Tr} {x : Int} (h1 : -1 ≤ x) (h2 : x < (sz t : Nat)) (l : Nat) : l ∈ lbl t x ↔ l < lv t ∧ x ≤ (lN t l : Nat) ∧ ((lN t l : Nat) : Int) < upN t x := by
  unfold lbl upN
  by_cases z : x < 0
  · rw [if_pos z, if_pos z, List.mem_range]
    constructor
    · intro h; have := lN_lt h; omega
    · intro h; exact h.1
  · rw [if_neg z, if_neg z]
    unfold lfN
    rw [List.mem_filter, List.mem_range, lvN_len, decide_eq_true_eq]
    constructor
    · rintro ⟨h3, h4⟩
      have := lN_lt h3
      have := (mem_an t 0 x.toNat (lN t l) (by omega) this.1).mp (by rw [Nat.zero_add]; exact h4)
      omega
    · rintro ⟨h3, h4, h5⟩
      have := lN_lt h3
      have := (mem_an t 0 x.toNat (lN t l) (by omega) this.1).mpr (by omega)
      rw [Nat.zero_add] at this
      exact ⟨h3, this⟩
theorem lbl_up (t : Tr) (x : Int) : (lbl t x).Pairwise (· < ·) := by
  unfold lbl
  split
  · exact List.pairwise_lt_range
  · exact List.Pairwise.filter _ List.pairwise_lt_range
theorem lbl_ne {t : Tr} {x : Int} (hk : okr t) (h1 : -1 ≤ x) (h2 : x < (sz t : Nat)) : lbl t x ≠ [] := by
  have : ∃ l, l ∈ lbl t x := by
    by_cases z : x < 0
    · obtain ⟨j, _, _, h5⟩ := se_leaf t hk 0 (sz_pos t)
      obtain ⟨l, hl, _⟩ := lN_of h5
      refine ⟨l, ?_⟩
      unfold lbl
      rw [if_pos z]; exact List.mem_range.mpr hl
    · obtain ⟨j, h3, h4, h5⟩ := se_leaf t hk x.toNat (by omega)
      obtain ⟨l, hl, e⟩ := lN_of h5
      refine ⟨l, (lbl_mem h1 h2 l).mpr ⟨hl, by omega, ?_⟩⟩
      unfold upN
      rw [if_neg z]; omega
  obtain ⟨l, hl⟩ := this
  exact List.ne_nil_of_mem hl
theorem hasB_iff {t : Tr} {x : Int} {ws : List Int} (h1 : -1 ≤ x) (h2 : x < (sz t : Nat)) (hw : ∀ y ∈ ws, -1 ≤ y ∧ y < (sz t : Nat)) : hasB t x ws = true ↔ ∃ y ∈ ws, y ≠ x ∧ x ≤ y ∧ y < upN t x := by
  unfold hasB
  rw [List.any_eq_true]
  constructor
  · rintro ⟨y, hy, e⟩
    rw [at_in h1 h2 (hw y hy).1 (hw y hy).2, Bool.and_eq_true, Bool.not_eq_true', decide_eq_false_iff_not, decide_eq_true_eq] at e
    exact ⟨y, hy, e⟩
  · rintro ⟨y, hy, e⟩
    refine ⟨y, hy, ?_⟩
    rw [at_in h1 h2 (hw y hy).1 (hw y hy).2, Bool.and_eq_true, Bool.not_eq_true', decide_eq_false_iff_not, decide_eq_true_eq]
    exact e
theorem wtb_up {t : Tr} {ns : List Int} (h : Ndd t ns) : (wtb ns).Pairwise (· < ·) := by
  unfold wtb
  refine List.pairwise_cons.mpr ⟨fun y hy => ?_, List.Pairwise.filter _ h.up⟩
  have := of_decide_eq_true (List.mem_filter.mp hy).2
  omega
theorem low_up {t : Tr} {ns : List Int} (h : Ndd t ns) : (lowN t ns).Pairwise fun x y => x < y ∧ upN t x ≤ y := by
  unfold lowN
  refine List.Pairwise.imp_of_mem (R := (· < ·)) (fun {x y} hx hy hlt => ⟨hlt, ?_⟩) (List.Pairwise.filter _ (wtb_up h))
  obtain ⟨m1, n1⟩ := List.mem_filter.mp hx
  have r1 := wtb_mem h m1
  have n1' : ¬ hasB t x (wtb ns) = true := by
    rw [Bool.not_eq_true', ] at n1
    rw [n1]; decide
  rw [hasB_iff r1.1 r1.2 fun y hy => wtb_mem h hy] at n1'
  exact Int.not_lt.mp fun q => n1' ⟨y, (List.mem_filter.mp hy).1, by omega, by omega, q⟩
/-- each needed node has a lowest one at or below it -/
theorem low_below {t : Tr} {ns : List Int} (h : Ndd t ns) {x : Int} (hx : x ∈ wtb ns) : ∃ y ∈ lowN t ns, x ≤ y ∧ upN t y ≤ upN t x := by
  have rx := wtb_mem h hx
  have key : ∀ (k : Nat) (y : Int), y ∈ wtb ns → x ≤ y → y < upN t x → (upN t x - y).toNat ≤ k → ∃ z ∈ lowN t ns, x ≤ z ∧ upN t z ≤ upN t x := by
    intro k
    induction k with
    | zero => intro y _ _ h3 h4; omega
    | succ k ih =>
      intro y hy h2 h3 h4
      have ry := wtb_mem h hy
      by_cases z : hasB t y (wtb ns) = true
      · obtain ⟨o, ho, e1, e2, e3⟩ := (hasB_iff ry.1 ry.2 fun y hy => wtb_mem h hy).mp z
        have := upN_in rx.1 rx.2 h2 h3
        exact ih o ho (by omega) (by omega) (by omega)
      · exact ⟨y, List.mem_filter.mpr ⟨hy, by simpa using z⟩, h2, upN_in rx.1 rx.2 h2 h3⟩
  exact key _ x hx (Int.le_refl _) (upN_le rx.1 rx.2).1 (Nat.le_refl _)
end Lw
set_option Elab.async false
set_option linter.all false
set_option maxRecDepth 100000
set_option maxHeartbeats 4000000
namespace DL
open PySem PySem.Spec PyProof.Rows L2
theorem sy_asgGY {S : Type} {z : Cl S} {te : TE} {g : TG} {Γ : List En} {k : S} {R : D → S → Prop} {P : PoY S} (h : EvY z te Γ k R) (hn : ∀ d k', R d k' → ∃ Γ', GtY z g d Γ Γ' ∧ P.nx Γ' k') : SY z (tAsg te g) Γ k P := fun c F H σ G E e1 e2 => h c F H σ G _ fun v d k' F' H' hr G' x r => by
  obtain ⟨Γ', hg, hp⟩ := hn d k' hr
  exact hg c F' H' σ v k' G' r _ fun σ2 G2 => e1 Γ' k' F' H' σ2 hp G2 x
end DL
namespace Lw
open PySem PySem.Spec PyProof.Rows L2 DL
/-- tests -/
inductive Te where
  | leaf (w : Bool) (x : Nat) (s : Nat) (m : Nat)
  | two (w : Bool) (a b : Te)
def sgD (s : Nat) : Str := ⟨#[60 + s % 3]⟩
def teD : Te → D
  | .leaf w x s m => .tup [.str (if w then "all" else "some"), .int (x : Nat), .str (sgD s), .int ((m % 9 : Nat) : Int)]
  | .two w a b => .tup [.str (if w then "either" else "both"), teD a, .tup [.str "not", teD b]]
def teN : Te → List Nat
  | .leaf _ x _ _ => [x]
  | .two _ a b => teN a ++ teN b
/-- levels of tests within tests, a not counted -/
def teL : Te → Nat
  | .leaf _ _ _ _ => 1
  | .two _ a b => max (teL a) (teL b) + 1
/-- the leaves' nodes of t that are below spot, or of the table -/
def below (t : Tr) (spot : Int) (x : Nat) : Prop := (Lw.kd t)[x]? = some ("value" : Str) ∧ spot ≤ (x : Int) ∧ ((x : Nat) : Int) < upN t spot
mutual
/-- a subtree is a stretch of the tree -/
theorem sub_at : ∀ (t : Tr) (n i : Nat) (u : Tr) (m : Nat), (subs t n)[i]? = some (u, m) → m = n + i ∧ se t i = sz u ∧ (∀ j, j < sz u → (Lw.kd t)[i + j]? = (Lw.kd u)[j]?) ∧ (okr t → okr u) ∧ dp u ≤ dp t
  | .v, n, 0, u, m, h => by
    simp only [subs, List.getElem?_cons_zero, Option.some.injEq, Prod.mk.injEq] at h
    obtain ⟨rfl, rfl⟩ := h
    exact ⟨rfl, rfl, fun j _ => by rw [Nat.zero_add], id, Nat.le_refl _⟩
  | .v, n, i + 1, u, m, h => by simp [subs] at h
  | .o l t, n, 0, u, m, h => by
    simp only [subs, List.getElem?_cons_zero, Option.some.injEq, Prod.mk.injEq] at h
    obtain ⟨rfl, rfl⟩ := h
    exact ⟨rfl, rfl, fun j _ => by rw [Nat.zero_add], id, Nat.le_refl _⟩
  | .o l t, n, i + 1, u, m, h => by
    simp only [subs, List.getElem?_cons_succ] at h
    obtain ⟨h1, h2, h3, h4, h5⟩ := sub_at t (n + 1) i u m h
    refine ⟨by omega, h2, fun j hj => ?_, fun k => h4 k, Nat.le_succ_of_le h5⟩
    rw [← h3 j hj, show i + 1 + j = (i + j) + 1 by omega]
    cases l <;> simp [Lw.kd]
  | .r fs, n, 0, u, m, h => by
    simp only [subs, List.getElem?_cons_zero, Option.some.injEq, Prod.mk.injEq] at h
    obtain ⟨rfl, rfl⟩ := h
    exact ⟨rfl, rfl, fun j _ => by rw [Nat.zero_add], id, Nat.le_refl _⟩
  | .r fs, n, i + 1, u, m, h => by
    simp only [subs, List.getElem?_cons_succ] at h
    obtain ⟨h1, h2, h3, h4, h5⟩ := subss_at fs (n + 1) i u m h
    refine ⟨by omega, h2, fun j hj => ?_, fun k => h4 k.2.2.2, Nat.le_succ_of_le h5⟩
    rw [← h3 j hj, show i + 1 + j = (i + j) + 1 by omega]
    simp [Lw.kd]
theorem subss_at : ∀ (fs : List (Str × Tr)) (n i : Nat) (u : Tr) (m : Nat), (subss fs n)[i]? = some (u, m) → m = n + i ∧ ses fs i = sz u ∧ (∀ j, j < sz u → (kds fs)[i + j]? = (Lw.kd u)[j]?) ∧ (okrs fs → okr u) ∧ dp u ≤ dps fs
  | [], n, i, u, m, h => by simp [subss] at h
  | (s, t) :: r, n, i, u, m, h => by
    simp only [subss] at h
    by_cases z : i < sz t
    · rw [List.getElem?_append_left (by rw [subs_len]; exact z)] at h
      obtain ⟨h1, h2, h3, h4, h5⟩ := sub_at t n i u m h
      have hle := se_le t i z
      refine ⟨h1, by simp only [ses]; rw [if_pos z]; exact h2, fun j hj => ?_, fun k => h4 k.1, Nat.le_trans h5 (Nat.le_max_left _ _)⟩
      rw [← h3 j hj]
      simp only [kds]
      rw [List.getElem?_append_left (by rw [kd_len]; omega)]
    · rw [List.getElem?_append_right (by rw [subs_len]; omega), subs_len] at h
      obtain ⟨h1, h2, h3, h4, h5⟩ := subss_at r (n + sz t) (i - sz t) u m h
      refine ⟨by omega, by simp only [ses]; rw [if_neg z]; exact h2, fun j hj => ?_, fun k => h4 k.2, Nat.le_trans h5 (Nat.le_max_right _ _)⟩
      rw [← h3 j hj]
      simp only [kds]
      rw [List.getElem?_append_right (by rw [kd_len]; omega), kd_len, show i + j - sz t = i - sz t + j by omega]
end
def Bt : Nat → Nat
  | 0 => 5
  | l + 1 => 2 + 2 * Bt l
def C_test (N : Nat) : CnY S3 := fun k es R => ∃ (t : Tr) (n lev : Nat) (spot : Int), es = [trN t 0, .int spot, .int ((lev + 1 : Nat) : Int)] ∧ lev < N ∧ SpS k n ∧ n + Bt lev ≤ 1000000000 ∧ okr t ∧ dp t < 7 ∧ sz t ≤ 1000 ∧ (spot = -1 ∨ 0 ≤ spot ∧ (Lw.kd t)[spot.toNat]? = some ("list" : Str)) ∧
  R = fun d k' => ∃ te : Te, d = .tup [teD te, .lst (iD (teN te))] ∧ teL te ≤ lev + 1 ∧ (∀ x ∈ teN te, below t spot x) ∧ (teN te).length ≤ 2 ^ lev ∧ SpS k' (n + Bt lev)
section
variable {P : Program} {w : World} {K : PySem.W.Frag} {mg : Str → Option Value} {base : Heap} {f : Addr} {fd : FuncData}
theorem Bt_pos : ∀ l, 5 ≤ Bt l
  | 0 => Nat.le_refl _
  | l + 1 => by have := Bt_pos l; show 5 ≤ 2 + 2 * Bt l; omega
theorem ok_test (T : Tx mg) (c__law_next : Cal P w K mg base 1 "_law_next" (spY K3 C_next)) (c__law_all : Cal P w K mg base 8 "_law_all" (spE (C_all 7))) (F : FnP K "_law_test" s__law_test f fd) (kf : PySem.W.keepIn K (.ref f) = true) (mf : mg "_law_test" = some (.ref f)) (bf : Binds K fd ["tape", "tree", "spot", "levels"] []) :
    ∀ N : Nat, N ≤ 3 → FnOk P w K mg base CX0 (N + 9) f fd ["tape", "tree", "spot", "levels"] (spY K3 (C_test N))
  | 0, _ => fn_noneY fun k es R ⟨_, _, _, _, _, h, _⟩ => absurd h (Nat.not_lt_zero _)
  | N + 1, hN3 => by
    have ih := ok_test T c__law_next c__law_all F kf mf bf N (by omega)
    have c__law_test : Cal P w K mg base (N + 9) "_law_test" (spY K3 (C_test N)) := ⟨f, fd, _, ih, mf, kf, bf⟩
    refine fn_okY K3.two F sc__law_test (fun k es R ⟨t, n, l, s, h, _⟩ => by subst h; rfl) fun cdv A outer s H E hr => ⟨_, (pss_cons (ps_if (PW.pt (pw_and (pt_cmpR op_gt (pv 3) pe_int (nomark _)) (pw_and1 (pt_cmpR op_eq (pe_c c__law_next hr (by first | decide | omega) rfl (pa_cons (pv 0) (pa_cons pe_int pa_nil))) pe_int (nomark _))))) (pss_cons (ps_asg (pe_c c__law_test hr (by first | decide | omega) rfl (pa_cons (pv 0) (pa_cons (pv 1) (pa_cons (pv 2) (pa_cons (pe_op op_sub (pv 3) pe_int) pa_nil))))) (pg_tup rfl (pgs_cons (pg_name (i := 4) sc__law_test.nd rfl (by first | exact Or.inl rfl | exact Or.inr rfl)) (pgs_cons (pg_name (i := 5) sc__law_test.nd rfl (by first | exact Or.inl rfl | exact Or.inr rfl)) pgs_nil))))
      (pss_cons (ps_asg (pe_c c__law_test hr (by first | decide | omega) rfl (pa_cons (pv 0) (pa_cons (pv 1) (pa_cons (pv 2) (pa_cons (pe_op op_sub (pv 3) pe_int) pa_nil))))) (pg_tup rfl (pgs_cons (pg_name (i := 6) sc__law_test.nd rfl (by first | exact Or.inl rfl | exact Or.inr rfl)) (pgs_cons (pg_name (i := 7) sc__law_test.nd rfl (by first | exact Or.inl rfl | exact Or.inr rfl)) pgs_nil))))
      (pss_one (ps_ret (pe_tup (pa_cons (pe_tup (pa_cons (pe_ix ix_list (pe_lst (pa_cons pe_str (pa_cons pe_str pa_nil))) (pe_c c__law_next hr (by first | decide | omega) rfl (pa_cons (pv 0) (pa_cons pe_int pa_nil))) (fun _ _ => rfl)) (pa_cons (pv 4) (pa_cons (pe_tup (pa_cons pe_str (pa_cons (pv 6) pa_nil))) pa_nil)))) (pa_cons (pe_op op_cat (pv 5) (pv 7)) pa_nil))))))) pss_nil)
      (pss_cons (ps_set (i := 8) sc__law_test.nd rfl (by first | exact Or.inl rfl | exact Or.inr rfl) (pe_ifExp (pt_cmpR op_eq (pv 2) (pe_un un_neg pe_int) (nomark _)) (pv 1) (pe_ix ix_tup (pe_ix ix_tup (pe_ix ix_list (pe_c c__law_all hr (by first | decide | omega) rfl (pa_cons (pv 1) pa_nil)) (pv 2) (fun _ _ => rfl)) pe_int (fun _ _ => rfl)) pe_int (fun _ _ => rfl))))
      (pss_cons (ps_setLc (i := 5) (own := [("one", 4)]) (g := (gName 4)) rfl sc__law_test.nd rfl rfl (sw_true rfl rfl rfl (by decide +kernel)) (pi_list (pe_c c__law_all hr (by first | decide | omega) rfl (pa_cons (pv 8) pa_nil))) (blkOk_by (own := [("one", 4)]) (N := ["tape", "tree", "spot", "levels", "one", "some", "two", "more", "below"]) (sc := defScope s__law_test) (by decide +kernel)) (fun _ _ _ _ _ => (pg_name (i := 4) sc__law_test.nd rfl (Or.inl rfl))) (fun _ _ _ _ _ => pts_one (pt_cmpR op_eq (pe_ix (show IxR _ (rIxT K) from ix_tup) (pv 4) pe_int (fun _ _ => rfl)) pe_str (nomark _))) (fun _ _ _ _ _ => (pe_ix (show IxR _ (rIxT K) from ix_tup) (pv 4) pe_int (fun _ _ => rfl))))
      (pss_cons (ps_set (i := 4) sc__law_test.nd rfl (by first | exact Or.inl rfl | exact Or.inr rfl) (pe_ix ix_list (pv 5) (pe_c c__law_next hr (by first | decide | omega) rfl (pa_cons (pv 0) (pa_cons (pe_callB call_len_seq rfl T.z_len (by decide +kernel) (pa_cons (pv 5) pa_nil)) pa_nil))) (fun _ _ => rfl)))
      (pss_one (ps_ret (pe_tup (pa_cons (pe_tup (pa_cons (pe_ix ix_list (pe_lst (pa_cons pe_str (pa_cons pe_str pa_nil))) (pe_c c__law_next hr (by first | decide | omega) rfl (pa_cons (pv 0) (pa_cons pe_int pa_nil))) (fun _ _ => rfl)) (pa_cons (pv 4) (pa_cons (pe_ix ix_str pe_str (pe_c c__law_next hr (by first | decide | omega) rfl (pa_cons (pv 0) (pa_cons pe_int pa_nil))) (fun _ _ => rfl)) (pa_cons (pe_c c__law_next hr (by first | decide | omega) rfl (pa_cons (pv 0) (pa_cons pe_int pa_nil))) pa_nil))))) (pa_cons (pe_lst (pa_cons (pv 4) pa_nil)) pa_nil))))))))), ?_⟩
    rintro z k es R ⟨a, rfl⟩ ⟨t, n, lev, spot, rfl, hlev, hs, hn, hok, hd, hz, hsp, rfl⟩
    show SY (cell3 a) _ [.sh (.ref a), .sh (trN t 0), .sh (.int spot), .sh (.int ((lev + 1 : Nat) : Int)), .un, .un, .un, .un, .un] k _
    have hB := Bt_pos lev
    refine sy_guardY (R := fun v k' => (v = true → 0 < lev) ∧ SpS k' (n + 1)) (ety_and (R' := fun v k' => v = decide (0 < lev) ∧ k' = k) (ety_p (et_test ((ep_op (ep_var rfl) ep_int rd_I0b).cast (congrArg D.bl (decide_eq_decide.mpr (by omega))))) ⟨rfl, rfl⟩) (fun k' ⟨_, e⟩ => ⟨(fun z => by cases z), (by subst e; exact hs.mono (by omega))⟩) ?_) ?_ ?_
    · rintro k' ⟨hv, rfl⟩
      have hv := of_decide_eq_true hv.symm
      exact ety_test (R1 := fun d k2 => (∃ v, d = .bl v) ∧ SpS k2 (n + 1)) (ey_opL (R1 := fun d k2 => (∃ r, d = .int r) ∧ SpS k2 (n + 1)) (ey_next rfl (ea_cons ep_int ea_nil) hs (by omega) (by decide) (by decide) fun r k2 _ _ h => ⟨⟨r, rfl⟩, h⟩) fun x k2 ⟨⟨r, e⟩, h⟩ => by subst e; exact ⟨_, _, ep_int, rd_eqI, ⟨_, rfl⟩, h⟩) fun d k2 ⟨⟨v, e⟩, h⟩ => ⟨v, e, fun _ => hv, h⟩
    · rintro k1 ⟨hl, h1⟩
      obtain ⟨q, rfl⟩ : ∃ q, lev = q + 1 := ⟨lev - 1, by have := hl rfl; omega⟩
      have hBs : Bt (q + 1) = 2 + 2 * Bt q := rfl
      have el : ∀ {Γ : List En}, Γ[3]? = some (.sh (.int ((q + 1 + 1 : Nat) : Int))) → EvP (tOp (rI0 fun i j => V.int (i - j)) (tVar 3) (tC (.int 1))) Γ (.int ((q + 1 : Nat) : Int)) := fun h => EvP.cast (ep_op (ep_var h) ep_int rd_I0i) (by congr 1; omega)
      refine SY.seq (M := fun Γ' k' => ∃ te : Te, Γ' = [.sh (.ref a), .sh (trN t 0), .sh (.int spot), .sh (.int ((q + 1 + 1 : Nat) : Int)), .sh (teD te), .sh (.lst (iD (teN te))), .un, .un, .un] ∧ teL te ≤ q + 1 ∧ (∀ x ∈ teN te, below t spot x) ∧ (teN te).length ≤ 2 ^ q ∧ SpS k' (n + 1 + Bt q)) (sy_asgGY (ey_call ⟨a, rfl⟩ rfl (ea_cons (ep_var rfl) (ea_cons (ep_var rfl) (ea_cons (el rfl) ea_nil))) ⟨t, n + 1, q, spot, rfl, by omega, h1, by omega, hok, hd, hz, hsp, rfl⟩) fun d k' ⟨te, e, p⟩ => by subst e; exact ⟨_, gty_tup2, te, rfl, p⟩) ?_
      rintro _ k2 ⟨te1, rfl, p1, p2, p3, h2⟩
      refine SY.seq (M := fun Γ' k' => ∃ te2 : Te, Γ' = [.sh (.ref a), .sh (trN t 0), .sh (.int spot), .sh (.int ((q + 1 + 1 : Nat) : Int)), .sh (teD te1), .sh (.lst (iD (teN te1))), .sh (teD te2), .sh (.lst (iD (teN te2))), .un] ∧ teL te2 ≤ q + 1 ∧ (∀ x ∈ teN te2, below t spot x) ∧ (teN te2).length ≤ 2 ^ q ∧ SpS k' (n + 1 + Bt q + Bt q)) (sy_asgGY (ey_call ⟨a, rfl⟩ rfl (ea_cons (ep_var rfl) (ea_cons (ep_var rfl) (ea_cons (el rfl) ea_nil))) ⟨t, n + 1 + Bt q, q, spot, rfl, by omega, h2, by omega, hok, hd, hz, hsp, rfl⟩) fun d k' ⟨te, e, p⟩ => by subst e; exact ⟨_, gty_tup2, te, rfl, p⟩) ?_
      rintro _ k3 ⟨te2, rfl, r1, r2, r3, h3⟩
      have hpw : 2 ^ q ≤ 2 ^ 2 := Nat.pow_le_pow_right (by decide) (by omega)
      have hpw' : 2 ^ (q + 1) = 2 ^ q + 2 ^ q := by rw [Nat.pow_succ]; omega
      refine sy_ret (R := fun d k' => ∃ w : Bool, d = .tup [teD (.two w te1 te2), .lst (iD (teN (.two w te1 te2)))] ∧ SpS k' (n + Bt (q + 1))) (ey_tup (R' := fun ds k' => ∃ w : Bool, ds = [teD (.two w te1 te2), .lst (iD (teN (.two w te1 te2)))] ∧ SpS k' (n + Bt (q + 1)))
        (eay_cons (R1 := fun d k' => ∃ w : Bool, d = teD (.two w te1 te2) ∧ SpS k' (n + Bt (q + 1))) (ey_tup (R' := fun ds k' => ∃ w : Bool, ds = [.str (if w then "either" else "both"), teD te1, .tup [.str "not", teD te2]] ∧ SpS k' (n + Bt (q + 1)))
          (eay_cons (R1 := fun d k' => ∃ w : Bool, d = .str (if w then "either" else "both") ∧ SpS k' (n + Bt (q + 1))) (ey_opP (x := .lst [.str "both", .str "either"]) (EvF.p (ef_lst (ea_cons ep_str (ea_cons ep_str ea_nil)) (by show 2 ≤ sizeLine; decide))) (ey_next rfl (ea_cons ep_int ea_nil) h3 (by omega) (by decide) (by decide) fun r k' g0 g1 h => ?_))
            fun x k' ⟨w, e, p⟩ => eay_consP (ep_var rfl) (eay_consP (ep_tup (ea_cons ep_str (ea_cons (ep_var rfl) ea_nil)) (by show 2 ≤ sizeLine; decide)) (eay_nil ⟨w, by rw [e], p⟩))) fun ds k' ⟨w, e, p⟩ => ⟨by rw [e]; show 3 ≤ sizeLine; decide, w, by rw [e]; rfl, p⟩)
          fun x k' ⟨w, e, p⟩ => eay_consP (EvF.p (ef_op (ep_var rfl) (ep_var rfl) (rdf_cat (by unfold iD; rw [List.length_map, List.length_map, sizeLine_eq]; omega)))) (eay_nil ⟨w, by rw [e]; show _ = [_, D.lst (iD (teN te1 ++ teN te2))]; unfold iD; rw [List.map_append], p⟩)) fun ds k' ⟨w, e, p⟩ => ⟨by rw [e]; show 2 ≤ sizeLine; decide, w, by rw [e], p⟩) fun d k' ⟨w, e, p⟩ => ⟨.two w te1 te2, e, by show max _ _ + 1 ≤ _; omega, fun x hx => (List.mem_append.mp hx).elim (p2 x) (r2 x), by show (teN te1 ++ teN te2).length ≤ _; rw [List.length_append]; omega, p⟩
      rcases (show r = 0 ∨ r = 1 by omega) with rfl | rfl
      · exact ⟨.str "both", rd_ixL rfl, false, rfl, h.mono (by omega)⟩
      · exact ⟨.str "either", rd_ixL rfl, true, rfl, h.mono (by omega)⟩
    · rintro k1 ⟨_, h1⟩
      have hpart : ∃ (b : Tr) (m : Nat), EvP (tIf (tTest (tOp rEq (tVar 2) (tUn (rU fun i => .int (-i)) (tC (.int 1))))) (tVar 1) (tOp (rIxT K) (tOp (rIxT K) (tOp (rIxL K) (tCall (spE (C_all 7)) [] E0 (tCons (tVar 1) tNil)) (tVar 2)) (tC (.int 3))) (tC (.int 0)))) [.sh (.ref a), .sh (trN t 0), .sh (.int spot), .sh (.int ((lev + 1 : Nat) : Int)), .un, .un, .un, .un, .un] (trN b m) ∧ okr b ∧ dp b < 7 ∧ sz b ≤ 1000 ∧ ∀ i, i < sz b → (Lw.kd b)[i]? = some ("value" : Str) → below t spot (m + i) := by
        rcases hsp with rfl | ⟨s0, hk⟩
        · refine ⟨t, 0, ep_if (b := true) ((et_test (ep_op (ep_var rfl) (ep_un (x := .int 1) ep_int rc_neg) rd_eqI)).cast rfl) (fun _ => ep_var rfl) (fun z => by cases z), hok, hd, hz, fun i hi hv => ?_⟩
          rw [Nat.zero_add]
          refine ⟨hv, by omega, ?_⟩
          show ((i : Nat) : Int) < (sz t : Nat)
          omega
        · have hlt : spot.toNat < sz t := by
            have := (List.getElem?_eq_some_iff.mp hk).1
            rwa [kd_len] at this
          obtain ⟨u, e1, e2⟩ := subs_at hlt
          obtain ⟨_, g2, g3, g4, g5⟩ := sub_at t 0 spot.toNat u spot.toNat e1
          rw [hk] at e2
          obtain ⟨b, rfl⟩ : ∃ b, u = .o true b := by
            have e2 := Option.some.inj e2
            cases u with
            | v => exact absurd e2 (by decide)
            | o l b => cases l with
              | true => exact ⟨b, rfl⟩
              | false => exact absurd e2 (show ¬ ("list" : Str) = "maybe" by decide)
            | r fs => exact absurd e2 (show ¬ ("list" : Str) = "record" by decide)
          have es : spot = ((spot.toNat : Nat) : Int) := by omega
          have hsb : se t spot.toNat = sz b + 1 := g2
          have hub := (se_le t spot.toNat hlt).2
          refine ⟨b, spot.toNat + 1, ep_if (b := false) ((et_test (ep_op (ep_var rfl) (ep_un (x := .int 1) ep_int rc_neg) rd_eqI)).cast (decide_eq_false (by omega))) (fun z => by cases z) (fun _ => ep_op (x := .tup [trN b (spot.toNat + 1)]) (ep_op (x := trN (.o true b) spot.toNat) (ep_op (ep_call (z := .lst (suD (subs t 0))) (ea_cons (ep_var rfl) ea_nil) ⟨t, 0, rfl, hd, hz, rfl⟩ fun e _ h => h) (ep_var rfl) (rd_ixL (by rw [es]; exact atI_nat (by rw [List.getElem?_map, Int.toNat_natCast, e1]; rfl)))) ep_int (rd_ixT rfl)) ep_int (rd_ixT rfl)), g4 hok, by have : dp b + 1 ≤ dp t := g5; omega, by omega, fun i hi hv => ?_⟩
          have q := g3 (i + 1) (by show i + 1 < sz b + 1; omega)
          have q2 : (Lw.kd (.o true b))[i + 1]? = (Lw.kd b)[i]? := by simp [Lw.kd]
          rw [q2, hv] at q
          refine ⟨by rw [show spot.toNat + 1 + i = spot.toNat + (i + 1) by omega]; exact q, by omega, ?_⟩
          unfold upN
          rw [if_neg (by omega), hsb]; omega
      obtain ⟨b, m, ev, bok, bd, bz, hb⟩ := hpart
      refine qy_asgP ev ?_
      show SY (cell3 a) _ [.sh (.ref a), .sh (trN t 0), .sh (.int spot), .sh (.int ((lev + 1 : Nat) : Int)), .un, .un, .un, .un, .sh (trN b m)] k1 _
      obtain ⟨vs, evs⟩ : ∃ vs : List Nat, vs = ((subs b m).filter fun p => decide (kindT p.1 = ("value" : Str))).map (·.2) := ⟨_, rfl⟩
      have hin : ∀ x ∈ vs, below t spot x := fun x hx => by
        rw [evs] at hx
        obtain ⟨p, hp, rfl⟩ := List.mem_map.mp hx
        obtain ⟨hp1, hp2⟩ := List.mem_filter.mp hp
        obtain ⟨i, hi, e⟩ := List.getElem_of_mem hp1
        rw [subs_len] at hi
        obtain ⟨u, m'⟩ := p
        obtain ⟨q1, q2, q3, _⟩ := sub_at b m i u m' (by rw [List.getElem?_eq_getElem (by rw [subs_len]; exact hi), e])
        have hk0 : (Lw.kd b)[i]? = some ("value" : Str) := by
          have e2 := congrArg (·[i]?) (subs_kd b m)
          simp only [List.getElem?_map] at e2
          rw [List.getElem?_eq_getElem (by rw [subs_len]; exact hi), e] at e2
          have hp2 : kindT u = ("value" : Str) := of_decide_eq_true hp2
          rw [← e2]
          exact congrArg some hp2
        show below t spot m'
        rw [q1]; exact hb i hi hk0
      have hne : vs ≠ [] := by
        obtain ⟨j, _, hj2, hj3⟩ := se_leaf b bok 0 (sz_pos b)
        have hj : j < sz b := by have := (List.getElem?_eq_some_iff.mp hj3).1; rwa [kd_len] at this
        have hl : j < (subs b m).length := by rw [subs_len]; exact hj
        have e2 := congrArg (·[j]?) (subs_kd b m)
        simp only [List.getElem?_map, List.getElem?_eq_getElem hl, Option.map_some, hj3] at e2
        rw [evs]
        exact List.ne_nil_of_mem (List.mem_map_of_mem (List.mem_filter.mpr ⟨List.getElem_mem hl, decide_eq_true (Option.some.inj e2)⟩))
      have hvl : vs.length ≤ 1000 := by
        rw [evs, List.length_map]
        exact Nat.le_trans (List.length_filter_le _ _) (by rw [subs_len]; exact bz)
      refine qy_asgP (d := .lst (iD vs)) (EvF.p (EvF.cast (ef_lc (subs b m) (fun p => trN p.1 p.2) (fun p => if decide (kindT p.1 = ("value" : Str)) = true then some (.int (p.2 : Nat)) else none) (wi_list (ep_call (z := .lst (suD (subs b m))) (ea_cons (ep_var rfl) ea_nil) ⟨b, m, rfl, bd, bz, rfl⟩ fun e _ h => h)) (by rw [subs_len, sizeLine_eq]; omega) fun p hp => ⟨_, gv_name (by simp), ?_, ?_⟩) (by rw [filterMap_if, evs]; unfold iD; rw [List.map_map]; rfl))) ?_
      · obtain ⟨c1, c2, e⟩ := trN_kind p.1 p.2
        rw [e]
        refine EtP.cast (et_test (ep_op (ep_op (ep_var rfl) ep_int (rd_ixT rfl)) ep_str rd_eqS)) ?_
        cases decide (kindT p.1 = ("value" : Str)) <;> rfl
      · intro e he
        split at he
        · cases he
          obtain ⟨c1, c2, e⟩ := trN_kind p.1 p.2
          rw [e]
          exact ep_op (ep_var rfl) ep_int (rd_ixT rfl)
        · cases he
      show SY (cell3 a) _ [.sh (.ref a), .sh (trN t 0), .sh (.int spot), .sh (.int ((lev + 1 : Nat) : Int)), .un, .sh (.lst (iD vs)), .un, .un, .sh (trN b m)] k1 _
      have hvp : 0 < vs.length := List.length_pos_iff.mpr hne
      refine qy_asg (R := fun d k' => ∃ x : Nat, d = .int (x : Nat) ∧ below t spot x ∧ SpS k' (n + 2)) (ey_opP (ep_var rfl) (ey_next (m := (vs.length : Nat)) rfl (ea_cons (x := .int (vs.length : Nat)) (EvP.cast (ep_cb (ea_cons (x := .lst (iD vs)) (ep_var rfl) ea_nil) rc_len) (by unfold iD; rw [List.length_map])) ea_nil) h1 (by omega) (by omega) (by omega) fun r k' g0 g1 h => ?_)) ?_
      · obtain ⟨q, rfl⟩ : ∃ q : Nat, r = (q : Int) := ⟨r.toNat, by omega⟩
        have hr : q < vs.length := by omega
        refine ⟨.int ((vs[q] : Nat) : Int), rd_ixL ?_, vs[q], rfl, hin _ (List.getElem_mem hr), h⟩
        exact atI_nat (by unfold iD; rw [List.getElem?_map, List.getElem?_eq_getElem hr]; rfl)
      rintro _ k2 ⟨x, rfl, hx, h2⟩
      show SY (cell3 a) _ [.sh (.ref a), .sh (trN t 0), .sh (.int spot), .sh (.int ((lev + 1 : Nat) : Int)), .sh (.int (x : Nat)), .sh (.lst (iD vs)), .un, .un, .sh (trN b m)] k2 _
      refine sy_ret (R := fun d k' => ∃ (w : Bool) (s : Nat) (mm : Nat), d = .tup [teD (.leaf w x s mm), .lst (iD [x])] ∧ SpS k' (n + Bt lev)) (ey_tup (R' := fun ds k' => ∃ (w : Bool) (s : Nat) (mm : Nat), ds = [teD (.leaf w x s mm), .lst (iD [x])] ∧ SpS k' (n + Bt lev))
        (eay_cons (R1 := fun d k' => ∃ (w : Bool) (s : Nat) (mm : Nat), d = teD (.leaf w x s mm) ∧ SpS k' (n + Bt lev)) (ey_tup (R' := fun ds k' => ∃ (w : Bool) (s : Nat) (mm : Nat), ds = [.str (if w then "all" else "some"), .int (x : Nat), .str (sgD s), .int ((mm % 9 : Nat) : Int)] ∧ SpS k' (n + Bt lev))
          (eay_cons (R1 := fun d k' => ∃ w : Bool, d = .str (if w then "all" else "some") ∧ SpS k' (n + 3)) (ey_opP (x := .lst [.str "some", .str "all"]) (EvF.p (ef_lst (ea_cons ep_str (ea_cons ep_str ea_nil)) (by show 2 ≤ sizeLine; decide))) (ey_next rfl (ea_cons ep_int ea_nil) h2 (by omega) (by decide) (by decide) fun r k' g0 g1 h => by
              rcases (show r = 0 ∨ r = 1 by omega) with rfl | rfl
              · exact ⟨.str "some", rd_ixL rfl, false, rfl, h⟩
              · exact ⟨.str "all", rd_ixL rfl, true, rfl, h⟩))
            fun d1 k3 ⟨w, e1, h3⟩ => eay_consP (ep_var rfl) (eay_cons (R1 := fun d k' => ∃ s : Nat, d = .str (sgD s) ∧ SpS k' (n + 4)) (ey_opP (x := .str "<=>") ep_str (ey_next rfl (ea_cons ep_int ea_nil) h3 (by omega) (by decide) (by decide) fun r k' g0 g1 h => by
              rcases (show r = 0 ∨ r = 1 ∨ r = 2 by omega) with rfl | rfl | rfl
              · exact ⟨.str (sgD 0), rd_ixStr (by decide +kernel) rfl, 0, rfl, h⟩
              · exact ⟨.str (sgD 1), rd_ixStr (by decide +kernel) rfl, 1, rfl, h⟩
              · exact ⟨.str (sgD 2), rd_ixStr (by decide +kernel) rfl, 2, rfl, h⟩))
            fun d2 k4 ⟨s, e2, h4⟩ => eay_cons (R1 := fun d k' => ∃ mm : Nat, d = .int ((mm % 9 : Nat) : Int) ∧ SpS k' (n + Bt lev)) (ey_next rfl (ea_cons ep_int ea_nil) h4 (by omega) (by decide) (by decide) fun r k' g0 g1 h => ⟨r.toNat, congrArg D.int (by omega), h.mono (by omega)⟩) fun d3 k5 ⟨mm, e3, h5⟩ => eay_nil ⟨w, s, mm, by rw [e1, e2, e3], h5⟩)) fun ds k' ⟨w, s, mm, e, h⟩ => ⟨by rw [e]; show 4 ≤ sizeLine; decide, w, s, mm, by rw [e]; rfl, h⟩)
          fun d1 k3 ⟨w, s, mm, e, h⟩ => eay_consP (EvF.p (ef_lst (ea_cons (ep_var rfl) ea_nil) (by show 1 ≤ sizeLine; decide))) (eay_nil ⟨w, s, mm, by rw [e]; rfl, h⟩)) fun ds k' ⟨w, s, mm, e, h⟩ => ⟨by rw [e]; show 2 ≤ sizeLine; decide, w, s, mm, by rw [e], h⟩) fun d k' ⟨w, s, mm, e, h⟩ => ⟨.leaf w x s mm, e, Nat.succ_le_succ (Nat.zero_le _), fun y hy => by rw [List.mem_singleton.mp hy]; exact hx, Nat.one_le_two_pow, h⟩
end
end Lw
set_option Elab.async false
set_option linter.all false
set_option maxRecDepth 100000
set_option maxHeartbeats 4000000
namespace Lw
open PySem PySem.Spec PyProof.Rows L2 DL
theorem sc__is_comparison : FnScope ["schema", "node", "thing", "_", "place", "sign", "number"] ["schema", "node", "thing"] (defScope s__is_comparison) := ⟨rfl, rfl, rfl, by decide +kernel, rfl, by decide +kernel, by decide +kernel⟩
def C_cmp (CS : Addr) : Cn := fun Γ R => ∃ (t : Tr) (spot : Int) (w : Bool) (x s : Nat) (m : Nat), Γ = [.sh (schD CS t), .sh (.int spot), .sh (teD (.leaf w x s m))] ∧ -1 ≤ spot ∧ spot < (sz t : Nat) ∧ below t spot x ∧ sz t ≤ 40 ∧ R = fun d _ => d = .bl true
section
variable {P : Program} {w : World} {K : PySem.W.Frag} {mg : Str → Option Value} {base : Heap} {f : Addr} {fd : FuncData} {CS C kd : Addr} {es : Array DictEntry} {n : Nat}
theorem ok_cmp (T : Tx mg) (S' : Sx K w mg CS C kd es n) (c_leaves_below : Cal P w K mg base 3 "leaves_below" (spE (C_lb CS))) (F : FnP K "_is_comparison" s__is_comparison f fd) : FnOk P w K mg base CX0 4 f fd ["schema", "node", "thing"] (spE (C_cmp CS)) := by
  refine fn_ok F sc__is_comparison (fun Γ R ⟨t, sp, w, x, s, m, h, _⟩ => by subst h; rfl) fun cdv A outer s H E hr => ⟨_, (pss_cons (ps_asg (pv 2) (pg_tup rfl (pgs_cons (pg_name (i := 3) sc__is_comparison.nd rfl (by first | exact Or.inl rfl | exact Or.inr rfl)) (pgs_cons (pg_name (i := 4) sc__is_comparison.nd rfl (by first | exact Or.inl rfl | exact Or.inr rfl)) (pgs_cons (pg_name (i := 5) sc__is_comparison.nd rfl (by first | exact Or.inl rfl | exact Or.inr rfl)) (pgs_cons (pg_name (i := 6) sc__is_comparison.nd rfl (by first | exact Or.inl rfl | exact Or.inr rfl)) pgs_nil))))))
      (pss_cons (ps_if (PW.pt (pw_or (pt_cmpR op_neTI (pe_typeOf rfl T.z_type (pv 4)) (pe_bltn (v := .ty "int") rfl T.z_int (by decide +kernel) rfl) (nomark _)) (pw_or (pt_cmpR (show OpR _ (compareOp .NotIn) (rIn K true) from op_notIn_seq) (pv 4) (pe_fld (pv 0) rfl) (by rfl)) (pw_or1 (pt_cmpR op_neTI (pe_typeOf rfl T.z_type (pv 6)) (pe_bltn (v := .ty "int") rfl T.z_int (by decide +kernel) rfl) (nomark _)))))) (pss_one (ps_ret pe_bl)) pss_nil)
      (pss_cons (ps_if (pt_cmpR (show OpR _ (compareOp .NotIn) (rIn K true) from op_notIn_seq) (pe_bmZ PySem.F.slot_tuple_index PySem.F.type_tuple_index mt_tixI (pe_fld (pv 0) rfl) (pa_cons (pv 4) pa_nil)) (pe_c c_leaves_below hr (by first | decide | omega) rfl (pa_cons (pv 0) (pa_cons (pv 1) pa_nil))) (by rfl)) (pss_one (ps_ret pe_bl)) pss_nil)
      (pss_one (ps_ret (pe_or (pe_cmpR op_eq (pv 5) pe_str (nomark _)) (pe_or (pe_cmpR op_eq (pv 5) pe_str (nomark _)) (pe_one (pe_cmpR op_eq (pv 5) pe_str (nomark _)))))))))), ?_⟩
  rintro Γ R ⟨t, spot, ww, x, sg, m, rfl, p0, p1, hb, h40, rfl⟩ _
  obtain ⟨b1, b2, b3⟩ := hb
  show SW _ [.sh (schD CS t), .sh (.int spot), .sh (teD (.leaf ww x sg m)), .un, .un, .un, .un] _
  refine sw_seq1 (sw_asgG (d := .tup [.str (if ww then "all" else "some"), .int (x : Nat), .str (sgD sg), .int ((m % 9 : Nat) : Int)]) (ep_var rfl) gt_tup4 rfl) ?_
  show SW _ [.sh (schD CS t), .sh (.int spot), .sh (teD (.leaf ww x sg m)), .sh (.str (if ww then "all" else "some")), .sh (.int (x : Nat)), .sh (.str (sgD sg)), .sh (.int ((m % 9 : Nat) : Int))] _
  have hx : (x : Int) ∈ (lvN (Lw.kd t)).map fun (n : Nat) => (n : Int) := by
    obtain ⟨l, hl, e⟩ := lN_of b1
    refine List.mem_map.mpr ⟨x, ?_, rfl⟩
    unfold lvN
    rw [List.mem_filter, List.mem_range]
    exact ⟨(List.getElem?_eq_some_iff.mp b1).1, decide_eq_true (getD_of b1)⟩
  have enl : iD (lvN (Lw.kd t)) = ((lvN (Lw.kd t)).map fun (n : Nat) => (n : Int)).map D.int := iD_eq _
  have fl : EvP (tFld K (tVar 0) "nodes_of_leaves") [.sh (schD CS t), .sh (.int spot), .sh (teD (.leaf ww x sg m)), .sh (.str (if ww then "all" else "some")), .sh (.int (x : Nat)), .sh (.str (sgD sg)), .sh (.int ((m % 9 : Nat) : Int))] (tzD (((lvN (Lw.kd t)).map fun (n : Nat) => (n : Int)).map D.int)) := by
    rw [← enl]
    exact ep_fld (ep_var rfl) S'.cls S'.f_nodes_of_leaves rfl
  refine sw_guard (b := false) (et_or (a := false) (et_test (ep_op (ep_tyI (ep_var rfl)) ep_ty rd_neTI)) fun _ => et_or (a := false) ((et_test (ep_op (ep_var rfl) fl (rd_inZ (neg := true)))).cast (by rw [if_pos rfl, decide_eq_true hx]; rfl)) fun _ => et_test (ep_op (ep_tyI (ep_var rfl)) ep_ty rd_neTI)) (fun z => absurd z Bool.false_ne_true) fun _ => ?_
  obtain ⟨j, ej⟩ : ∃ j : Nat, ((lvN (Lw.kd t)).map fun (n : Nat) => (n : Int)).idxOf (x : Int) = j := ⟨_, rfl⟩
  have hj : j < lv t := by
    have := List.idxOf_lt_length_iff.mpr hx
    rw [ej, List.length_map, lvN_len] at this; exact this
  have hjx : lN t j = x := by
    have h1 : ((lvN (Lw.kd t)).map fun (n : Nat) => (n : Int)).idxOf (x : Int) < ((lvN (Lw.kd t)).map fun (n : Nat) => (n : Int)).length := List.idxOf_lt_length_iff.mpr hx
    have h2 := List.getElem_idxOf h1
    simp only [ej, List.getElem_map] at h2
    show (lvN (Lw.kd t)).getD j 0 = x
    rw [List.getD_eq_getElem?_getD, List.getElem?_eq_getElem (by rw [lvN_len]; exact hj)]
    show (lvN (Lw.kd t))[j]'(by rw [lvN_len]; exact hj) = x
    omega
  have hin : j ∈ lbl t spot := (lbl_mem p0 p1 j).mpr ⟨hj, by rw [hjx]; exact b2, by rw [hjx]; exact b3⟩
  have hin' : ((j : Nat) : Int) ∈ (lbl t spot).map fun (n : Nat) => (n : Int) := List.mem_map.mpr ⟨j, hin, rfl⟩
  refine sw_guard (b := false) ((et_test (ep_op (x := .int (j : Nat)) (EvP.cast (ep_tixI fl (ep_var rfl) hx) (by rw [ej])) (ep_call (z := .tup (((lbl t spot).map fun (n : Nat) => (n : Int)).map D.int)) (ea_cons (x := schD CS t) (ep_var rfl) (ea_cons (x := .int spot) (ep_var rfl) ea_nil)) ⟨t, spot, rfl, p0, p1, h40, rfl⟩ fun e _ h => by rw [h, iD_eq]) (rd_inIT (neg := true)))).cast (by rw [if_pos rfl, decide_eq_true hin']; rfl)) (fun z => absurd z Bool.false_ne_true) fun _ => ?_
  refine sw_ret (d := .bl true) (EvP.cast (ep_orV (ep_op (ep_var rfl) ep_str rd_eqS) fun _ => ep_orV (ep_op (ep_var rfl) ep_str rd_eqS) fun _ => ep_op (ep_var rfl) ep_str rd_eqS) ?_) ⟨rfl, trivial⟩
  refine congrArg D.bl ?_
  unfold sgD
  rcases (show sg % 3 = 0 ∨ sg % 3 = 1 ∨ sg % 3 = 2 by omega) with h | h | h <;> rw [h] <;> decide
end
end Lw
set_option Elab.async false
set_option linter.all false
set_option maxRecDepth 100000
set_option maxHeartbeats 4000000
namespace DL
open PySem PySem.Spec PyProof.Rows L2
abbrev rNeTT : R2 := fun x y H Q => x = .ty "tuple" ∧ y = .ty "tuple" ∧ Q (.bl false) H
theorem op_neTT {X : Cx} : OpR X (compareOp .NotEq) rNeTT := by
  intro pins s σ H x y v u Q I rx ry h
  obtain ⟨rfl, rfl, q⟩ := h
  cases (show v = Value.type "tuple" from rx)
  cases (show u = Value.type "tuple" from ry)
  have q2 : EP X pins σ Q (.bool false) s := ⟨.bl false, H, I, rfl, q⟩
  exact PySem.NT.ne_type_same (X := "tuple") TypeEq.meta_tuple q2
theorem rd_neTT : RD rNeTT (.ty "tuple") (.ty "tuple") (.bl false) := fun F H vx vy e rx ry Q k => ⟨rx, ry, k _ F H (.refl e) rfl⟩
theorem ep_tyTT {Γ : List En} {ta : TE} {ds : List D} (h : EvP ta Γ (.tup ds)) : EvP (tThenZ ta kTyp) Γ (.ty "tuple") := fun c F H σ G Q k => h c F H σ G _ fun v F1 H1 S1 r1 => by
  obtain ⟨a, xs, rfl, h1, h2⟩ := r1
  refine ⟨"tuple", ?_, k (.ty "tuple") F1 H1 S1 rfl⟩
  show (match H1 a with | some (.lst _) => some "list" | some (.tup _) => some "tuple" | _ => none) = _
  rw [S1.fh _ _ h1]
end DL
namespace Lw
open PySem PySem.Spec PyProof.Rows L2 DL
/-- tests with the word not -/
inductive Tg where
  | leaf (w : Bool) (x : Nat) (s : Nat) (m : Nat)
  | nt (b : Tg)
  | two (w : Bool) (a b : Tg)
def tgD : Tg → D
  | .leaf w x s m => .tup [.str (if w then "all" else "some"), .int (x : Nat), .str (sgD s), .int ((m % 9 : Nat) : Int)]
  | .nt b => .tup [.str "not", tgD b]
  | .two w a b => .tup [.str (if w then "either" else "both"), tgD a, tgD b]
def tgL : Tg → Nat
  | .leaf _ _ _ _ => 1
  | .nt b => tgL b + 1
  | .two _ a b => max (tgL a) (tgL b) + 1
def tgN : Tg → List Nat
  | .leaf _ x _ _ => [x]
  | .nt b => tgN b
  | .two _ a b => tgN a ++ tgN b
def Te.tg : Te → Tg
  | .leaf w x s m => .leaf w x s m
  | .two w a b => .two w a.tg (.nt b.tg)
theorem tg_D : ∀ e : Te, tgD e.tg = teD e
  | .leaf _ _ _ _ => rfl
  | .two w a b => by simp only [Te.tg, tgD, teD, tg_D a, tg_D b]
theorem tg_N : ∀ e : Te, tgN e.tg = teN e
  | .leaf _ _ _ _ => rfl
  | .two w a b => by simp only [Te.tg, tgN, teN, tg_N a, tg_N b]
theorem tg_L : ∀ e : Te, tgL e.tg + 1 ≤ 2 * teL e
  | .leaf _ _ _ _ => by simp [Te.tg, tgL, teL]
  | .two w a b => by
    have h1 := tg_L a
    have h2 := tg_L b
    simp only [Te.tg, tgL, teL]
    omega
theorem tgL_pos : ∀ g : Tg, 0 < tgL g
  | .leaf _ _ _ _ => Nat.one_pos
  | .nt _ => Nat.succ_pos _
  | .two _ _ _ => Nat.succ_pos _
theorem sc_is_test : FnScope ["schema", "node", "thing", "deep", "word", "within", "fits", "inner"] ["schema", "node", "thing", "deep"] (defScope s_is_test) := ⟨rfl, rfl, rfl, by decide +kernel, rfl, by decide +kernel, by decide +kernel⟩
def C_ist (CS : Addr) (N : Nat) : Cn := fun Γ R => ∃ (t : Tr) (spot : Int) (g : Tg) (d : Nat), Γ = [.sh (schD CS t), .sh (.int spot), .sh (tgD g), .sh (.int ((d : Nat) : Int))] ∧ tgL g ≤ d ∧ tgL g ≤ N ∧ -1 ≤ spot ∧ spot < (sz t : Nat) ∧ (∀ x ∈ tgN g, below t spot x) ∧ sz t ≤ 40 ∧ R = fun d _ => d = .bl true
section
variable {P : Program} {w : World} {K : PySem.W.Frag} {mg : Str → Option Value} {base : Heap} {f : Addr} {fd : FuncData} {CS C kd : Addr} {es : Array DictEntry} {n : Nat}
theorem ok_ist (T : Tx mg) (c__is_comparison : Cal P w K mg base 4 "_is_comparison" (spE (C_cmp CS))) (F : FnP K "is_test" s_is_test f fd) (kf : PySem.W.keepIn K (.ref f) = true) (mf : mg "is_test" = some (.ref f)) (bf : Binds K fd ["schema", "node", "thing", "deep"] []) :
    ∀ N : Nat, FnOk P w K mg base CX0 (N + 4) f fd ["schema", "node", "thing", "deep"] (spE (C_ist CS N))
  | 0 => fn_none fun Γ R ⟨_, _, g, _, _, _, h, _⟩ => by
    have := tgL_pos g
    omega
  | N + 1 => by
    have ih := ok_ist T c__is_comparison F kf mf bf N
    have c_is_test : Cal P w K mg base (N + 4) "is_test" (spE (C_ist CS N)) := ⟨f, fd, _, ih, mf, kf, bf⟩
    refine fn_ok F sc_is_test (fun Γ R ⟨t, sp, g, d, h, _⟩ => by subst h; rfl) fun cdv A outer s H E hr => ⟨_, (pss_cons (ps_if (PW.pt (pw_or (pt_cmpR op_eq (pv 3) pe_int (nomark _)) (pw_or (pt_cmpR op_neTT (pe_typeOf rfl T.z_type (pv 2)) (pe_bltn (v := .ty "tuple") rfl T.z_tuple (by decide +kernel) rfl) (nomark _)) (pw_or1 (pt_cmpR op_lt (pe_callB call_len_seq rfl T.z_len (by decide +kernel) (pa_cons (pv 2) pa_nil)) pe_int (nomark _)))))) (pss_one (ps_ret pe_bl)) pss_nil)
      (pss_cons (ps_set (i := 4) sc_is_test.nd rfl (by first | exact Or.inl rfl | exact Or.inr rfl) (pe_ix ix_tup (pv 2) pe_int (fun _ _ => rfl)))
      (pss_cons (ps_if (PW.pt (pw_or (pt_cmpR op_eq (pv 4) pe_str (nomark _)) (pw_or1 (pt_cmpR op_eq (pv 4) pe_str (nomark _))))) (pss_one (ps_ret (pe_and (pe_cmpR op_eq (pe_callB call_len_seq rfl T.z_len (by decide +kernel) (pa_cons (pv 2) pa_nil)) pe_int (nomark _)) (pe_one (pe_c c__is_comparison hr (by first | decide | omega) rfl (pa_cons (pv 0) (pa_cons (pv 1) (pa_cons (pv 2) pa_nil)))))))) pss_nil)
      (pss_cons (ps_set (i := 5) sc_is_test.nd rfl (by first | exact Or.inl rfl | exact Or.inr rfl) (pe_slice sl_tup (pv 2) (po_some pe_int) po_none))
      (pss_cons (ps_if (pt_cmpR op_eq (pv 4) pe_str (nomark _)) (pss_one (ps_set (i := 6) sc_is_test.nd rfl (by first | exact Or.inl rfl | exact Or.inr rfl) (pe_cmpR op_eq (pe_callB call_len_seq rfl T.z_len (by decide +kernel) (pa_cons (pv 5) pa_nil)) pe_int (nomark _)))) (pss_one (ps_set (i := 6) sc_is_test.nd rfl (by first | exact Or.inl rfl | exact Or.inr rfl) (pe_and (pe_cmpR op_eq (pe_callB call_len_seq rfl T.z_len (by decide +kernel) (pa_cons (pv 5) pa_nil)) pe_int (nomark _)) (pe_one (pe_or (pe_cmpR op_eq (pv 4) pe_str (nomark _)) (pe_one (pe_cmpR op_eq (pv 4) pe_str (nomark _)))))))))
      (pss_one (ps_ret (pe_and (pv 6) (pe_one (pe_callB (cr_all rfl) rfl T.z_all (by decide +kernel) (pa_cons (pe_lc (own := [("inner", 7)]) (g := (gName 7)) (tt := tYes) rfl sc_is_test.nd (pi_tup (pv 5)) (blkOk_by (own := [("inner", 7)]) (N := ["schema", "node", "thing", "deep", "word", "within", "fits", "inner"]) (sc := defScope s_is_test) (by decide +kernel)) (fun _ _ _ _ _ => (pg_name (i := 7) sc_is_test.nd rfl (Or.inl rfl))) (fun _ _ _ _ _ => pts_nil) (fun _ _ _ _ _ => (pe_c c_is_test hr (by first | decide | omega) rfl (pa_cons (pv 0) (pa_cons (pv 1) (pa_cons (pv 7) (pa_cons (pe_op op_sub (pv 3) pe_int) pa_nil))))))) pa_nil))))))))))), ?_⟩
    rintro Γ R ⟨t, spot, g, d, rfl, hd, hN, p0, p1, hb, h40, rfl⟩ _
    have hg := tgL_pos g
    show SW _ [.sh (schD CS t), .sh (.int spot), .sh (tgD g), .sh (.int ((d : Nat) : Int)), .un, .un, .un, .un] _
    cases g with
    | leaf ww x sg m =>
      refine sw_guard (b := false) (et_or (a := false) ((et_test (ep_op (ep_var rfl) ep_int rd_eqI)).cast (decide_eq_false (by omega))) fun _ => et_or (a := false) (et_test (ep_op (ep_tyTT (ep_var rfl)) ep_ty rd_neTT)) fun _ => (et_test (ep_op (ep_cb (ea_cons (ep_var rfl) ea_nil) rc_lenT) ep_int rd_I0b)).cast (by simp)) (fun z => absurd z Bool.false_ne_true) fun _ => ?_
      refine sw_seq1 (sw_asg (d := .str (if ww then "all" else "some")) (ep_op (ep_var rfl) ep_int (rd_ixT rfl)) rfl) ?_
      refine sw_guard (b := true) ((et_or (et_test (ep_op (ep_var rfl) ep_str rd_eqS)) fun _ => et_test (ep_op (ep_var rfl) ep_str rd_eqS)).cast (by cases ww <;> decide +kernel)) (fun _ => ?_) (fun z => by cases z)
      refine sw_ret (d := .bl true) (EvP.cast (ep_andV (a := true) (b := true) ?_ fun _ => ?_) rfl) ⟨rfl, trivial⟩
      · exact (ep_op (ep_cb (ea_cons (ep_var rfl) ea_nil) rc_lenT) ep_int rd_eqI).cast rfl
      · exact ep_call (z := .bl true) (ea_cons (x := schD CS t) (ep_var rfl) (ea_cons (x := .int spot) (ep_var rfl) (ea_cons (x := teD (.leaf ww x sg m)) (ep_var rfl) ea_nil))) ⟨t, spot, ww, x, sg, m, rfl, p0, p1, hb x (by simp [tgN]), h40, rfl⟩ fun e _ h => h
    | nt b =>
      refine sw_guard (b := false) (et_or (a := false) ((et_test (ep_op (ep_var rfl) ep_int rd_eqI)).cast (decide_eq_false (by omega))) fun _ => et_or (a := false) (et_test (ep_op (ep_tyTT (ep_var rfl)) ep_ty rd_neTT)) fun _ => (et_test (ep_op (ep_cb (ea_cons (ep_var rfl) ea_nil) rc_lenT) ep_int rd_I0b)).cast (by simp)) (fun z => absurd z Bool.false_ne_true) fun _ => ?_
      have hL : tgL b + 1 ≤ d := hd
      have hL2 : tgL b ≤ N := Nat.le_of_succ_le_succ hN
      refine sw_seq1 (sw_asg (d := .str "not") (ep_op (ep_var rfl) ep_int (rd_ixT rfl)) rfl) ?_
      refine sw_guard (b := false) ((et_or (et_test (ep_op (ep_var rfl) ep_str rd_eqS)) fun _ => et_test (ep_op (ep_var rfl) ep_str rd_eqS)).cast (by decide +kernel)) (fun z => absurd z Bool.false_ne_true) (fun _ => ?_)
      refine sw_seq1 (sw_asg (d := .tup [tgD b]) (ep_tupFrom (x := .str "not") (ep_var rfl)) rfl) ?_
      refine sw_seq1 (sw_if (b := true) ((et_test (ep_op (ep_var rfl) ep_str rd_eqS)).cast (by decide +kernel)) (fun _ => sw_asg (d := .bl true) ((ep_op (ep_cb (ea_cons (ep_var rfl) ea_nil) rc_lenT) ep_int rd_eqI).cast rfl) rfl) (fun z => by cases z)) ?_
      refine sw_ret (d := .bl true) (EvP.cast (ep_andV (a := true) (b := true) (ep_var rfl) fun _ => EvP.cast (ep_cb (ea_cons (x := .lst ([true].map D.bl)) (EvF.p (EvF.cast (ef_map [b] tgD (fun _ => D.bl true) (wi_tup (ep_var rfl)) (by show 1 < sizeLine; decide) fun u hu => ⟨_, gv_name (by simp), ?_⟩) rfl)) ea_nil) rc_all) rfl) rfl) ⟨rfl, trivial⟩
      rw [List.mem_singleton.mp hu]
      exact ep_call (z := .bl true) (ea_cons (x := schD CS t) (ep_var rfl) (ea_cons (x := .int spot) (ep_var rfl) (ea_cons (x := tgD b) (ep_var rfl) (ea_cons (x := .int ((d - 1 : Nat) : Int)) (EvP.cast (ep_op (z := .int (((d : Nat) : Int) - 1)) (ep_var rfl) ep_int rd_I0i) (congrArg D.int (by omega))) ea_nil)))) ⟨t, spot, b, d - 1, rfl, by omega, hL2, p0, p1, hb, h40, rfl⟩ fun e _ h => h
    | two ww a b =>
      refine sw_guard (b := false) (et_or (a := false) ((et_test (ep_op (ep_var rfl) ep_int rd_eqI)).cast (decide_eq_false (by omega))) fun _ => et_or (a := false) (et_test (ep_op (ep_tyTT (ep_var rfl)) ep_ty rd_neTT)) fun _ => (et_test (ep_op (ep_cb (ea_cons (ep_var rfl) ea_nil) rc_lenT) ep_int rd_I0b)).cast (by simp)) (fun z => absurd z Bool.false_ne_true) fun _ => ?_
      have hL : max (tgL a) (tgL b) + 1 ≤ d := hd
      have hL2 : max (tgL a) (tgL b) ≤ N := Nat.le_of_succ_le_succ hN
      refine sw_seq1 (sw_asg (d := .str (if ww then "either" else "both")) (ep_op (ep_var rfl) ep_int (rd_ixT rfl)) rfl) ?_
      refine sw_guard (b := false) ((et_or (et_test (ep_op (ep_var rfl) ep_str rd_eqS)) fun _ => et_test (ep_op (ep_var rfl) ep_str rd_eqS)).cast (by cases ww <;> decide +kernel)) (fun z => absurd z Bool.false_ne_true) (fun _ => ?_)
      refine sw_seq1 (sw_asg (d := .tup [tgD a, tgD b]) (ep_tupFrom (x := .str (if ww then "either" else "both")) (ep_var rfl)) rfl) ?_
      refine sw_seq1 (sw_if (b := false) ((et_test (ep_op (ep_var rfl) ep_str rd_eqS)).cast (by cases ww <;> decide +kernel)) (fun z => by cases z) (fun _ => sw_asg (d := .bl true) (EvP.cast (ep_andV (a := true) (b := true) ((ep_op (ep_cb (ea_cons (ep_var rfl) ea_nil) rc_lenT) ep_int rd_eqI).cast rfl) fun _ => EvP.cast (ep_orV (ep_op (ep_var rfl) ep_str rd_eqS) fun _ => ep_op (ep_var rfl) ep_str rd_eqS) (congrArg D.bl (by cases ww <;> decide +kernel))) rfl) rfl)) ?_
      refine sw_ret (d := .bl true) (EvP.cast (ep_andV (a := true) (b := true) (ep_var rfl) fun _ => EvP.cast (ep_cb (ea_cons (x := .lst ([true, true].map D.bl)) (EvF.p (EvF.cast (ef_map [a, b] tgD (fun _ => D.bl true) (wi_tup (ep_var rfl)) (by show 2 < sizeLine; decide) fun u hu => ⟨_, gv_name (by simp), ?_⟩) rfl)) ea_nil) rc_all) rfl) rfl) ⟨rfl, trivial⟩
      have hu2 : tgL u ≤ max (tgL a) (tgL b) ∧ ∀ x ∈ tgN u, x ∈ tgN (.two ww a b) := by
        rcases List.mem_cons.mp hu with e | e
        · subst e
          exact ⟨Nat.le_max_left _ _, fun x hx => List.mem_append_left _ hx⟩
        · rw [List.mem_singleton.mp e]
          exact ⟨Nat.le_max_right _ _, fun x hx => List.mem_append_right _ hx⟩
      exact ep_call (z := .bl true) (ea_cons (x := schD CS t) (ep_var rfl) (ea_cons (x := .int spot) (ep_var rfl) (ea_cons (x := tgD u) (ep_var rfl) (ea_cons (x := .int ((d - 1 : Nat) : Int)) (EvP.cast (ep_op (z := .int (((d : Nat) : Int) - 1)) (ep_var rfl) ep_int rd_I0i) (congrArg D.int (by omega))) ea_nil)))) ⟨t, spot, u, d - 1, rfl, by omega, by omega, p0, p1, fun x hx => hb x (hu2.2 x hx), h40, rfl⟩ fun e _ h => h
end
end Lw
set_option Elab.async false
set_option linter.all false
set_option maxRecDepth 100000
set_option maxHeartbeats 4000000
namespace Lw
open PySem PySem.Spec PyProof.Rows L2 DL
theorem sc_is_filtered_node : FnScope ["schema", "thing"] ["schema", "thing"] (defScope s_is_filtered_node) := ⟨rfl, rfl, rfl, by decide +kernel, rfl, by decide +kernel, by decide +kernel⟩
def C_ifn (CS : Addr) : Cn := fun Γ R => ∃ (t : Tr) (spot : Int), Γ = [.sh (schD CS t), .sh (.int spot)] ∧ -1 ≤ spot ∧ spot < (sz t : Nat) ∧ (spot = -1 ∨ (Lw.kd t)[spot.toNat]? = some ("list" : Str)) ∧ R = fun d _ => d = .bl true
section
variable {P : Program} {w : World} {K : PySem.W.Frag} {mg : Str → Option Value} {base : Heap} {f : Addr} {fd : FuncData} {CS C kd : Addr} {es : Array DictEntry} {n : Nat}
theorem ok_ifn (T : Tx mg) (S' : Sx K w mg CS C kd es n) (F : FnP K "is_filtered_node" s_is_filtered_node f fd) : FnOk P w K mg base CX0 1 f fd ["schema", "thing"] (spE (C_ifn CS)) := by
  refine fn_ok F sc_is_filtered_node (fun Γ R ⟨t, sp, h, _⟩ => by subst h; rfl) fun cdv A outer s H E hr => ⟨_, (pss_cons (ps_if (PW.pt (pw_or (pt_cmpR op_neTI (pe_typeOf rfl T.z_type (pv 1)) (pe_bltn (v := .ty "int") rfl T.z_int (by decide +kernel) rfl) (nomark _)) (pw_or1 (pt_not (pt_chain op_le op_lt (pe_un un_neg pe_int) (pv 1) (pe_callB call_len_seq rfl T.z_len (by decide +kernel) (pa_cons (pe_fld (pv 0) rfl) pa_nil))))))) (pss_one (ps_ret pe_bl)) pss_nil)
      (pss_one (ps_ret (pe_or (pe_cmpR op_eq (pv 1) (pe_un un_neg pe_int) (nomark _)) (pe_one (pe_cmpR op_eq (pe_ix ix_tup (pe_fld (pv 0) rfl) (pv 1) (fun _ _ => rfl)) pe_str (nomark _))))))), ?_⟩
  rintro Γ R ⟨t, spot, rfl, p0, p1, hk, rfl⟩ _
  show SW _ [.sh (schD CS t), .sh (.int spot)] _
  refine sw_guard (b := false) (et_or (a := false) (et_test (ep_op (ep_tyI (ep_var rfl)) ep_ty rd_neTI)) fun _ => (et_not (a := true) ((et_test (ep_chainI (r1 := fun i j => decide (i ≤ j)) (r2 := fun i j => decide (i < j)) (i := -1) (j := spot) (l := (sz t : Nat)) (ep_un (x := .int 1) ep_int rc_neg) (ep_var rfl) ((ep_cb (ea_cons (ep_fld (ep_var rfl) S'.cls S'.f_node_kinds rfl) ea_nil) (rc_lenT (ds := (Lw.kd t).map D.str))).cast (by rw [List.length_map, kd_len])))).cast (show (decide (-1 ≤ spot) && decide (spot < ((sz t : Nat) : Int))) = true by rw [decide_eq_true p0, decide_eq_true p1]; rfl)))) (fun z => absurd z Bool.false_ne_true) fun _ => ?_
  refine sw_ret (d := .bl true) (EvP.cast (ep_orV (b := true) (ep_op (ep_var rfl) (ep_un (x := .int 1) ep_int rc_neg) rd_eqI) fun h => ?_) (by simp)) ⟨rfl, trivial⟩
  have hne := of_decide_eq_false h
  obtain e | hk := hk
  · exact absurd e hne
  obtain ⟨j, rfl⟩ : ∃ j : Nat, spot = (j : Int) := ⟨spot.toNat, by omega⟩
  exact EvP.cast (ep_op (ep_op (ep_fld (ep_var rfl) S'.cls S'.f_node_kinds rfl) (ep_var rfl) (rd_ixT (kd_get hk))) ep_str rd_eqS) (congrArg D.bl (by decide +kernel))
end
end Lw
set_option Elab.async false
set_option linter.all false
set_option maxRecDepth 100000
set_option maxHeartbeats 4000000
/-! Y12: set(list of ints), and sorted of it, as values. -/
namespace DL
open PySem PySem.Spec PyProof.Rows L2
/-- the empty set's object -/
def sob (w : World) : Obj := { cls := .type "set", dict := none, data := .set #[] 0 (.fresh 0 0 (!w.params.followText "set-order")) }
section
variable {P : Program} {w : World} {A : Around} {E : Value → Shared → Prop} {s : Shared}
theorem set_of_lst {l : Addr} {its : Array Value} (ns : List Int) {Q : Value → Shared → Prop} (hh : A.handled = none) (hl : s.heap.IsList l its) (hit : IntsAre its.toList ns) (hb : ns.length + 1 < scanBound)
    (h : ∀ (g : Heap) (tk c : Nat), SetR w g s.heap.objs.size (fun j => decide (j ∈ ns)) c → c ≤ ns.length → (∀ b o, s.heap.get? b = some o → g.get? b = some o) → Q (.ref s.heap.objs.size) { s with heap := g, toks := tk }) :
    wpAny (model P w) A (call (.type "set") [.ref l]) Q E s := by
  have z0 : its.size = ns.length := by rw [← Array.length_toList]; exact IntsAre.length hit
  obtain ⟨c, tl, hmro⟩ := F.called_set.mro
  have f1 := F.called_set.made
  have f2 := F.called_set.sub
  refine wpAny_call (codeAny_of_tree ?_)
  show wpAny (model P w) _ (callAny (.type "set") _) _ _ s
  refine wpAny_pure ⟨Code.quiet_builtin _ (by decide +kernel), codeAny_builtin F.entry_type_call ?_⟩
  rw [Around.under_plain (weight_type_call_type "set" [.ref l] []) rfl]
  have f3 := F.called_set.notType
  have f4 := F.called_set.canCreate
  have f5 := F.typeCall_set_1 (.ref l)
  repeat (any_goals (first | wp_step | assumption))
  refine codeAny_mono (code_set_led1 (.ref l) (E := E) (Q₁ := fun v u => v = .ref s.heap.objs.size ∧ u = { s with heap := s.heap.push (sob w) }) ⟨rfl, rfl⟩) fun r u hr => ?_
  cases r with
  | error e => exact hr
  | ok fl =>
    cases fl with
    | ret obj =>
      obtain ⟨rfl, rfl⟩ := hr
      have o1 : (s.heap.push (sob w)).get? s.heap.objs.size = some (sob w) := Heap.get?_push_size _ rfl
      have o2 : Shared.TypeIs { s with heap := s.heap.push (sob w) } (.ref s.heap.objs.size) "set" := ⟨_, o1, rfl⟩
      have f6 := F.called_set.init.lookup
      have f7 := F.called_set.init.bind (.ref s.heap.objs.size)
      repeat (any_goals (first | wp_step | assumption))
      refine codeAny_mono (codeAny_call_builtin (R := wants (fun v u => v = .none ∧ ∃ g tk c, u = { s with heap := g, toks := tk } ∧ SetR w g s.heap.objs.size (fun j => decide (j ∈ ns)) c ∧ c ≤ ns.length ∧
          (∀ b o, s.heap.get? b = some o → g.get? b = some o)) E) F.called_set.init.plain F.entry_set_init (check_set_init_1 o2 ?_)) fun r2 u2 hr2 => ?_
      · obtain ⟨ol, hol, hcl, nl, hdl⟩ := hl
        obtain ⟨ocls, odict, odata, oslots⟩ := ol
        simp only at hcl hdl
        subst hcl hdl
        have p1 : (s.heap.push (sob w)).get? l = some { cls := .type "list", dict := odict, data := .seq its nl, slots := oslots } := Heap.get?_push_of_some _ hol
        have q1 := F.sub_list_set
        have q2 := F.sub_list_frozenset
        have q3 : (Value.type "list" == Value.type "dict") = false := by decide
        have l1 : (s.heap.push (sob w)).IsList l its := ⟨_, p1, rfl, nl, rfl⟩
        unfold Builtin.«set.__init__» noKeywords Builtin.Frozenset.updateFrom
        generalize hPI : pyIter = PI
        wp_walk
        subst hPI
        refine wpAny_pyIter_list l1 ?_
        refine wpAny_bind (wpAny_runValue ?_)
        have lt : l < s.heap.objs.size := Heap.lt_size hol
        have sz : (s.heap.push (sob w)).objs.size = s.heap.objs.size + 1 := Heap.size_push ..
        have h3 : A.in1.in1.in1.handled = none := by simp [hh]
        have nI : l ≠ (s.heap.push (sob w)).objs.size := by rw [sz]; exact Nat.ne_of_lt (Nat.lt_succ_of_lt lt)
        have nS : s.heap.objs.size ∉ [(s.heap.push (sob w)).objs.size, l] := by
          rw [sz]
          intro m
          rcases List.mem_cons.mp m with m | m
          · exact absurd (show (s.heap.objs.size : Nat) = s.heap.objs.size + 1 from m) (by omega)
          · have := List.mem_singleton.mp m
            rw [this] at lt; exact Nat.lt_irrefl _ lt
        have vals : ∀ (i : Nat) (v : Value), its[i]? = some v → ∃ k t, ns[i]? = some k ∧ v = .int k t := fun i v hv => by
          have hi : i < ns.length := by rw [← z0]; exact (Array.getElem?_eq_some_iff.mp hv).1
          obtain ⟨t, e⟩ := PyProof.Rows.IntsAre.int_at hit i v (by rw [Array.getElem?_toList]; exact hv)
          refine ⟨ns[i], t, List.getElem?_eq_getElem hi, ?_⟩
          rw [e, List.getD_eq_getElem?_getD, List.getElem?_eq_getElem hi]; rfl
        refine set_update_ints ((Walks.list h3 _ l nI its).toS) s.heap.objs.size nS ns z0 hb vals (its.size - 0) 0 _ (by omega) (Nat.zero_le _) ⟨⟨_, Heap.get?_push_size _ rfl, rfl, rfl⟩, (l1.push _)⟩ ?st ?en
        case st => exact ⟨0, Nat.le_refl 0, setR_new_at (Heap.get?_push_of_some _ o1)⟩
        case en =>
          intro u c' hm hc' hS'
          obtain ⟨g, g2, d', tk', os'⟩ := u
          have e1 : g2 = s.gens := hm.gens
          have e2 : d' = s.drawn := hm.drawn
          have e3 : os' = s.os := hm.os
          subst e1 e2 e3
          show wpAny (model P w) _ _ _ _ _
          refine wpAny_pure ?_
          show wpAny (model P w) _ (ret Value.none) _ _ _
          rw [z0] at hc'
          refine wpAny_pure ⟨rfl, g, tk', c', rfl, hS', hc', fun b o e => ?_⟩
          have b0 : b < s.heap.objs.size := Heap.lt_size e
          refine hm.heap b o (fun m => ?_) (Heap.get?_push_of_some _ (Heap.get?_push_of_some _ e))
          rcases List.mem_cons.mp m with m | m
          · exact Nat.ne_of_lt b0 m
          · have m := List.mem_singleton.mp m
            rw [sz] at m; exact absurd (show (b : Nat) = s.heap.objs.size + 1 from m) (Nat.ne_of_lt (Nat.lt_succ_of_lt b0))
      · cases r2 with
        | error e => exact hr2
        | ok fl2 =>
          cases fl2 with
          | ret r =>
            obtain ⟨rfl, g, tk, c', rfl, hS', hc', hk'⟩ := hr2
            repeat (any_goals (first | wp_step | assumption))
            exact h _ _ _ hS' hc' hk'
          | _ => exact hr2.elim
    | _ => exact hr.elim
end
/-- a set of ints that can be walked, as it lies -/
def SetRO (w : World) (a : Addr) (S : Int → Bool) (n : Nat) : HO := .ext fun h => SetR w h a S n
theorem setRO_new {w : World} {P : Program} {H : Hp} {h : Heap} {a : Addr} {S : Int → Bool} {n : Nat} (R : SetR w h a S n) : ObjOk P w H h a (SetRO w a S n) := by
  have ⟨o, _, _, _, ho, _⟩ := R
  exact ⟨R, ⟨o, ho⟩, fun _ _ p k => p.at k⟩
/-- set(x) of a list of ints -/
def rSetL (K : PySem.W.Frag) (w : World) : List V → Hp → VK → Prop := fun xs H Q => ∃ (p : Addr) (ns : List Int), xs = [.ref p] ∧ SqL K H p (ns.map V.int) ∧ ns.length ≤ 1000 ∧
  ∀ (q : Addr) (c : Nat), c ≤ ns.length → H q = none → Q (.ref q) (upd H q (SetRO w q (fun j => decide (j ∈ ns)) c))
theorem cr_setL {X : Cx} (hc : X.calm = true) : CallR X (.type "set") (rSetL X.K X.w) := by
  intro pins s σ H xs us Q I r h
  obtain ⟨p, ns, rfl, hs, hn, q⟩ := h
  obtain ⟨its, rv, hl, _⟩ := I.list hs
  rw [Vals.ref1 r]
  refine set_of_lst ns (I.ok.hd hc) hl.isList (ints_of_vals rv) (by unfold scanBound; omega) fun g tk c R hcn k => ?_
  exact ⟨.ref _, upd H s.heap.objs.size (SetRO X.w s.heap.objs.size (fun j => decide (j ∈ ns)) c), I.laid (t' := tk) k (Nat.le_refl _) (setRO_new R), rfl, q _ c hcn (I.hok.fresh (Nat.le_refl _))⟩
/-- sorted(x) of such a set -/
def rSortSet (w : World) : List V → Hp → VK → Prop := fun xs H Q => ∃ (p : Addr) (S : Int → Bool) (c : Nat), xs = [.ref p] ∧ H p = some (SetRO w p S c) ∧ c < 64 ∧
  ∀ (q : Addr) (ns : List Int), ns.Pairwise (· < ·) → (∀ k, k ∈ ns ↔ S k = true) → H q = none → Q (.ref q) (upd H q (.lst (ns.map V.int)))
theorem cr_sortSet {X : Cx} (hc : X.calm = true) : CallR X (.builtin "sorted") (rSortSet X.w) := by
  intro pins s σ H xs us Q I r h
  obtain ⟨p, S, c, rfl, hp, h64, q⟩ := h
  rw [Vals.ref1 r]
  have R : SetR X.w s.heap p S c := (I.hok p _ hp).1
  refine sorted_set R (I.ok.hd hc) h64 fun u a out n ns k g o hle ha hi hlt hm hn => ?_
  have hlen : (ns.map V.int).length ≤ sizeLine := by rw [List.length_map, hn, sizeLine_eq]; omega
  refine ⟨.ref a, upd H a (.lst (ns.map V.int)), I.call' (ch := []) o (Un.laid k hle (I.hok.fresh hle)) (I.hok.laid k hle (show ObjOk X.prog X.w _ _ _ (.lst (ns.map V.int)) from ⟨hlen, out.toList, n, vals_of_ints hi, by rw [Array.toArray_toList]; exact ha⟩)) (by rw [g]; exact I.bare) (fun _ z => nomatch z), rfl, q a ns hlt hm (I.hok.fresh hle)⟩
end DL
set_option Elab.async false
set_option linter.all false
set_option maxRecDepth 100000
set_option autoImplicit false
set_option maxHeartbeats 4000000
/-! Y13: sets of ints and dicts with int keys as data; a dict filled as a state; new cells lent with an older one; comprehensions with two fors. -/
namespace DL
open PySem PySem.Spec PyProof.Rows L2
/-! ### ascending lists -/
def insI (x : Int) : List Int → List Int
  | [] => [x]
  | y :: l => if x < y then x :: y :: l else if x = y then y :: l else y :: insI x l
def ascI : List Int → List Int
  | [] => []
  | x :: l => insI x (ascI l)
theorem mem_insI {x k : Int} : ∀ {l : List Int}, k ∈ insI x l ↔ k = x ∨ k ∈ l
  | [] => by simp [insI]
  | y :: l => by
    unfold insI
    by_cases h1 : x < y
    · rw [if_pos h1]; simp
    · rw [if_neg h1]
      by_cases h2 : x = y
      · rw [if_pos h2]; subst h2; simp
      · rw [if_neg h2, List.mem_cons, mem_insI, List.mem_cons]
        constructor
        · rintro (h | h | h)
          · exact .inr (.inl h)
          · exact .inl h
          · exact .inr (.inr h)
        · rintro (h | h | h)
          · exact .inr (.inl h)
          · exact .inl h
          · exact .inr (.inr h)
theorem asc_insI {x : Int} : ∀ {l : List Int}, l.Pairwise (· < ·) → (insI x l).Pairwise (· < ·)
  | [], _ => List.pairwise_singleton _ _
  | y :: l, h => by
    obtain ⟨h1, h2⟩ := List.pairwise_cons.mp h
    unfold insI
    by_cases q : x < y
    · rw [if_pos q]
      refine List.pairwise_cons.mpr ⟨fun z hz => ?_, h⟩
      rcases List.mem_cons.mp hz with rfl | hz
      · exact q
      · exact Int.lt_trans q (h1 z hz)
    · rw [if_neg q]
      by_cases e : x = y
      · rw [if_pos e]; exact h
      · rw [if_neg e]
        refine List.pairwise_cons.mpr ⟨fun z hz => ?_, asc_insI h2⟩
        rcases mem_insI.mp hz with rfl | hz
        · omega
        · exact h1 z hz
theorem ascI_up : ∀ l : List Int, (ascI l).Pairwise (· < ·)
  | [] => .nil
  | x :: l => asc_insI (ascI_up l)
theorem ascI_mem {k : Int} : ∀ {l : List Int}, k ∈ ascI l ↔ k ∈ l
  | [] => Iff.rfl
  | x :: l => by
    show k ∈ insI x (ascI l) ↔ _
    rw [mem_insI, ascI_mem, List.mem_cons]
theorem asc_uniq : ∀ {xs ys : List Int}, xs.Pairwise (· < ·) → ys.Pairwise (· < ·) → (∀ k, k ∈ xs ↔ k ∈ ys) → xs = ys
  | [], [], _, _, _ => rfl
  | [], y :: ys, _, _, h => nomatch (h y).mpr List.mem_cons_self
  | x :: xs, [], _, _, h => nomatch (h x).mp List.mem_cons_self
  | x :: xs, y :: ys, h1, h2, h => by
    obtain ⟨a1, a2⟩ := List.pairwise_cons.mp h1
    obtain ⟨b1, b2⟩ := List.pairwise_cons.mp h2
    have e : x = y := by
      rcases List.mem_cons.mp ((h x).mp List.mem_cons_self) with e | m
      · exact e
      · rcases List.mem_cons.mp ((h y).mpr List.mem_cons_self) with e | m2
        · exact e.symm
        · have := b1 x m
          have := a1 y m2
          omega
    subst e
    refine congrArg (x :: ·) (asc_uniq a2 b2 fun k => ⟨fun m => ?_, fun m => ?_⟩)
    · rcases List.mem_cons.mp ((h k).mp (List.mem_cons_of_mem _ m)) with e | m2
      · exact absurd (a1 k m) (by omega)
      · exact m2
    · rcases List.mem_cons.mp ((h k).mpr (List.mem_cons_of_mem _ m)) with e | m2
      · exact absurd (b1 k m) (by omega)
      · exact m2
theorem ascI_eq {l m : List Int} (h : ∀ k, k ∈ l ↔ k ∈ m) : ascI l = ascI m := asc_uniq (ascI_up l) (ascI_up m) fun k => by rw [ascI_mem, ascI_mem]; exact h k
theorem len_insI {x : Int} : ∀ l : List Int, (insI x l).length ≤ l.length + 1
  | [] => Nat.le_refl _
  | y :: l => by
    unfold insI
    by_cases h1 : x < y
    · rw [if_pos h1]; exact Nat.le_refl _
    · rw [if_neg h1]
      by_cases h2 : x = y
      · rw [if_pos h2]; exact Nat.le_succ _
      · rw [if_neg h2]
        have := len_insI (x := x) l
        simp only [List.length_cons]; omega
theorem len_ascI : ∀ l : List Int, (ascI l).length ≤ l.length
  | [] => Nat.le_refl _
  | x :: l => by
    have h1 := len_insI (x := x) (ascI l)
    have h2 := len_ascI l
    show (insI x (ascI l)).length ≤ l.length + 1
    omega
/-! ### sets of ints as data -/
def setD (w : World) (ns : List Int) : D := .opq fun F v => ∃ (a : Addr) (c : Nat), v = .ref a ∧ c ≤ ns.length ∧ F a = some (SetRO w a (fun j => decide (j ∈ ns)) c)
section
variable {K : PySem.W.Frag} {w : World} {ns ks : List Int}
theorem rc_setL (h : ns.length ≤ 1000) : RC (rSetL K w) [.lst (ns.map D.int)] (setD w ns) := fun F H vs e r Q k => by
  obtain ⟨v, _, rfl, ⟨a, xs, rfl, h1, h2⟩, rfl⟩ := r
  have ex := h2.ints_eq
  subst ex
  refine ⟨a, ns, rfl, .inl (.inl (e _ _ h1)), h, fun q c hc hq => ?_⟩
  exact k _ _ _ (Stp.new e (SetRO w q (fun j => decide (j ∈ ns)) c) hq) ⟨_, fun _ _ h => h, q, c, rfl, hc, upd_same⟩
theorem rc_sortSet (h : ns.length < 64) : RC (rSortSet w) [setD w ns] (.lst ((ascI ns).map D.int)) := fun F H vs e r Q k => by
  obtain ⟨v, _, rfl, ⟨F0, hF, a, c, rfl, hc, h1⟩, rfl⟩ := r
  refine ⟨a, _, c, rfl, e _ _ (hF _ _ h1), by omega, fun q zs hup hm hq => ?_⟩
  have ez : zs = ascI ns := asc_uniq hup (ascI_up ns) fun k => by rw [hm k, decide_eq_true_eq, ascI_mem]
  rw [ez]
  exact k _ _ _ (Stp.new e (.lst ((ascI ns).map V.int)) hq) ⟨q, _, rfl, upd_same, Reps.ints _⟩
/-! ### dicts with int keys, all their values True -/
def kvI (i : Int) : Key × V := (.inl i, .bl true)
def dkD (ks : List Int) : D := .opq fun F v => ∃ a, v = .ref a ∧ F a = some (.dK (ks.map kvI))
def rSortDI : List V → Hp → VK → Prop := fun xs H Q => ∃ (a : Addr) (kvs : List (Key × V)) (ks : List Int), xs = [.ref a] ∧ Rd H a (.dK kvs) ∧ kvs.map (·.1) = ks.map Sum.inl ∧ ks.length < 64 ∧
  ∀ (ys : List Int) (p : Addr), ys.Perm ks → ys.Pairwise (· ≤ ·) → H p = none → Q (.ref p) (upd H p (.lst (ys.map V.int)))
theorem cr_sortDI {X : Cx} (hc : X.calm = true) : CallR X (.builtin "sorted") rSortDI := call_sortedDI hc
theorem rcf_sortD (nd : ks.Nodup) (h : ks.length < 64) : RCF rSortDI [dkD ks] ((ascI ks).map D.int) := fun F H vs e r Q k => by
  obtain ⟨v, _, rfl, ⟨F0, hF, a, rfl, h1⟩, rfl⟩ := r
  refine ⟨a, _, ks, rfl, .inl (e _ _ (hF _ _ h1)), by rw [List.map_map]; rfl, h, fun ys q hp hle hq => ?_⟩
  have ez : ys = ascI ks := asc_uniq (lt_of_le_nodup ys hle (hp.nodup_iff.mpr nd)) (ascI_up ks) fun k => by rw [ascI_mem, hp.mem_iff]
  rw [ez]
  refine k q _ F _ (Stp.loose e _ hq) hq ?_ upd_same (Reps.ints _)
  cases z : F q with
  | none => rfl
  | some u => rw [e _ _ z] at hq; cases hq
end
/-- the dict filled -/
def cellD (a : Addr) : Cl (List Int) where
  hd := a
  ads := fun p => p = a
  at_ := fun H ks => H a = some (.dK (ks.map kvI))
  hh := rfl
  loc := fun H H' s e h => by rw [← e a rfl]; exact h
  has := fun H s p h e => ⟨_, e ▸ h⟩
def addK (ks : List Int) (n : Int) : List Int := if n ∈ ks then ks else ks ++ [n]
theorem addK_mem {ks : List Int} {n k : Int} : k ∈ addK ks n ↔ k ∈ ks ∨ k = n := by
  unfold addK
  by_cases h : n ∈ ks
  · rw [if_pos h]
    exact ⟨.inl, fun z => z.elim id fun e => e ▸ h⟩
  · rw [if_neg h]; simp
theorem addK_nd {ks : List Int} {n : Int} (h : ks.Nodup) : (addK ks n).Nodup := by
  unfold addK
  by_cases q : n ∈ ks
  · rw [if_pos q]; exact h
  · rw [if_neg q]
    refine List.nodup_append.mpr ⟨h, by simp, fun x hx y hy e => ?_⟩
    rw [List.mem_singleton.mp hy] at e
    exact q (e ▸ hx)
theorem addK_len {ks : List Int} {n : Int} : (addK ks n).length ≤ ks.length + 1 := by
  unfold addK
  by_cases q : n ∈ ks
  · rw [if_pos q]; omega
  · rw [if_neg q, List.length_append]; exact Nat.le_refl _
theorem putK_kvI {ks : List Int} {n : Int} : putK (ks.map kvI) (.inl n) (.bl true) = (addK ks n).map kvI := by
  unfold addK putK
  have e : ((ks.map kvI).any fun kv => decide (kv.1 = (Sum.inl n : Key))) = decide (n ∈ ks) := by
    induction ks with
    | nil => rfl
    | cons x l ih =>
      rw [List.map_cons, List.any_cons, ih]
      by_cases h : n = x
      · subst h; simp [kvI]
      · have : decide ((kvI x).1 = (Sum.inl n : Key)) = false := decide_eq_false fun z => h (by injection z with z; exact z.symm)
        rw [this]; simp [h]
  rw [e]
  by_cases h : n ∈ ks
  · rw [if_pos (decide_eq_true h), if_pos h, List.map_map]
    refine List.map_congr_left fun x _ => ?_
    show (if (kvI x).1 = (Sum.inl n : Key) then ((kvI x).1, V.bl true) else kvI x) = kvI x
    split <;> rfl
  · rw [if_neg (by rw [decide_eq_false h]; exact Bool.false_ne_true), if_neg h, List.map_append]; rfl
/-- what lies loose is frozen, whatever it is -/
theorem Good.freezeO {c : Ct} {F H : Hp} {σ : L2.St} {Γ : List En} (G : Good c F H σ Γ) {a : Addr} {u : HO} (n : NoSlot σ Γ a) (hF : F a = none) (hH : H a = some u) (h0 : c.H0 a = none) : Good c (upd F a u) H σ Γ := by
  have x0 : Ex F (upd F a u) := Ex.new hF
  refine ⟨G.ff.trans x0, fun b o q => ?_, G.hh, G.li, fun b q => ?_, G.len, fun i e he => ?_, G.dj⟩
  · by_cases z : b = a
    · subst z; rw [upd_same] at q; cases q; exact hH
    · rw [upd_ne z] at q; exact G.fh _ _ q
  · by_cases z : b = a
    · subst z; exact .inr h0
    · rw [upd_ne z] at q; exact G.nw _ q
  · obtain ⟨o, h1, h2⟩ := G.en i e he
    refine ⟨o, h1, ?_⟩
    have ne : ∀ {b : Addr}, e.mut = true → o = some (.ref b) → b ≠ a := fun m eo z => by subst z; exact n i e he m (by rw [h1, eo])
    cases e with
    | un => trivial
    | sh d => obtain ⟨v, e1, r⟩ := h2; exact ⟨v, e1, r.mono x0⟩
    | own ds => obtain ⟨b, ys, e1, e2, e3, e4, e5⟩ := h2; exact ⟨b, ys, e1, by rw [upd_ne (ne rfl e1)]; exact e2, e3, e4.mono x0, e5⟩
    | lent ds => obtain ⟨b, ys, e1, e2, e3, e4, e5⟩ := h2; exact ⟨b, ys, e1, by rw [upd_ne (ne rfl e1)]; exact e2, e3, e4.mono x0, e5⟩
/-- te is a new dict -/
def EvD (te : TE) (Γ : List En) (ks : List Int) : Prop := ∀ c F H σ, Good c F H σ Γ → ∀ Q : VK, (∀ a F' H', Stp F H F' H' → H a = none → F' a = none → H' a = some (.dK (ks.map kvI)) → Q (.ref a) H') → te σ H Q
theorem ev_disp1 {tk tv : TE} {Γ : List En} {i : Int} (hk : EvP tk Γ (.int i)) (hv : EvP tv Γ (.bl true)) : EvD (tDisp [(tk, tv)]) Γ [i] := fun c F H σ G Q k p hp => by
  have S0 : Stp F H F (upd H p (.dK [])) := .loose G.fh _ hp
  refine hk c F _ σ (G.step S0) _ fun v F1 H1 S1 r1 => hv c F1 H1 σ ((G.step S0).step S1) _ fun u F2 H2 S2 r2 => ?_
  cases (show v = .int i from r1)
  cases (show u = .bl true from r2)
  have e2 : H2 p = some (.dK []) := S2.h _ _ (S1.h _ _ upd_same)
  refine ⟨e2, [(.inl i, .bl true)], rfl, by show 1 ≤ 15; decide, ?_⟩
  have fp : F p = none := by
    cases z : F p with
    | none => rfl
    | some o => rw [G.fh _ _ z] at hp; cases hp
  have f2 : F2 p = none := S2.no (S1.no fp upd_same) (S1.h _ _ upd_same)
  refine k p F2 _ ⟨S1.f.trans S2.f, fun b o z => ?_, fun b o z => ?_, fun b z => ?_⟩ hp f2 upd_same
  · have nb : b ≠ p := fun w => by subst w; rw [hp] at z; cases z
    rw [upd_ne nb]; exact S2.h _ _ (S1.h _ _ (by rw [upd_ne nb]; exact z))
  · have nb : b ≠ p := fun w => by subst w; rw [f2] at z; cases z
    rw [upd_ne nb]; exact S2.fh _ _ z
  · exact (S0.trans (S1.trans S2)).nw b z
/-- x = {..}, filled in what follows and given back -/
theorem sw_mkD {te : TE} {t : TS} {Γ : List En} {ks : List Int} {j : Nat} {Po' : Po} (nm : ∀ (j : Nat) (e : En), Γ[j]? = some e → e.mut = false) (h : EvD te Γ ks)
    (hs : ∀ a, SY (cellD a) t (Γ.set j (.sh (.ref a))) ks ⟨fun _ _ => False, fun d Γ' ks' => d = .ref a ∧ Po'.rt (dkD ks') Γ'⟩) : SW (tSeq (tAsg te (gName j)) t) Γ Po' := fun c F H σ G D ea eb ee ef => h c F H σ G _ fun a F1 H1 S1 na fa hat => by
  have h0 : c.H0 a = none := G.fresh na
  have G0 : GY (cellD a) c F1 H1 σ Γ ks := ⟨G.step S1, fun p e => noSlot_nm nm, fun p e => e ▸ fa, fun p e => .inr (e ▸ h0), hat⟩
  refine hs a c F1 H1 _ (G0.setSh (i := j) (d := .ref a) (v := .ref a) rfl) _ (fun _ _ _ _ _ m _ _ => m.elim) fun v d Γ' k' F' H' σ' ⟨ed, hr⟩ G' x r => ?_
  subst ed
  cases (show v = .ref a from r)
  have Gf := G'.g.freezeO (G'.ns a rfl) (G'.f a rfl) G'.at_ h0
  exact eb _ _ Γ' _ H' σ' hr Gf ((S1.f.trans x).trans (Ex.new (G'.f a rfl))) ⟨_, fun _ _ h => h, a, rfl, upd_same⟩
/-- x[e] = True -/
theorem sy_dput {a : Addr} {tv ty : TE} {Γ : List En} {ks : List Int} {n : Int} {i : Nat} {P : PoY (List Int)} (hi : Γ[i]? = some (.sh (.ref a))) (hv : EvP tv Γ (.bl true)) (hk : EvP ty Γ (.int n)) (hl : ks.length < sizeLine) (hn : P.nx Γ (addK ks n)) :
    SY (cellD a) (sDPut (tVar i) ty tv) Γ ks P := fun c F H σ G E e1 e2 => hv c F H σ G.g _ fun v F1 H1 S1 r1 => by
  have G1 := G.step S1
  obtain ⟨v0, e0, r0⟩ := G1.g.sh hi
  cases (show v0 = .ref a from r0)
  refine ⟨_, e0, hk c F1 H1 σ G1.g _ fun u F2 H2 S2 r2 => ?_⟩
  have G2 := G1.step S2
  cases (show u = .int n from r2)
  cases (show v = .bl true from r1)
  refine ⟨a, _, rfl, DPut.k (k := .inl n) G2.at_ (by rw [List.length_map]; exact hl), ?_⟩
  rw [putK_kvI]
  exact e1 Γ _ F2 _ σ hn (G2.wr (p := a) rfl upd_same) (S1.f.trans S2.f)
/-! ### new cells, lent with an older one -/
section
variable {S : Type} {z : Cl S} {te : TE} {Γ : List En} {k : S} {R1 : D → S → Prop}
theorem efy_lst1 (h : EvY z te Γ k R1) : EvFY z (tLst (tCons te tNil)) Γ k fun ds k' => ∃ d, ds = [d] ∧ R1 d k' := fun c F H σ G Q q => h c F H σ G _ fun v d k1 F1 H1 hr G1 x1 r1 => ⟨by show 1 ≤ sizeLine; decide, fun p hp => by
  have S := Stp.loose G1.g.fh (.lst [v]) hp
  have nf : F1 p = none := by
    cases w : F1 p with
    | none => rfl
    | some o => rw [G1.g.fh _ _ w] at hp; cases hp
  exact q p [v] [d] k1 F1 _ ⟨d, rfl, hr⟩ (G1.step S) x1 (G1.loose S hp nf upd_same) (.one r1)⟩
end
/-! ### comprehensions with two fors -/
theorem walk_for {J : It} {n : Nat} {G : Hp → Prop} {Y : Nat → Hp → V → Hp → Prop} (w : Walk J n G Y) {B : V → Hp → (Hp → Prop) → Prop} {H0 : Hp} {Qd : Hp → Prop} (Pv : Nat → Hp → Prop) (h0 : Pv 0 H0) (hG : ∀ i H, i ≤ n → Pv i H → G H)
    (hs : ∀ i x H H', i < n → Pv i H → Y i H x H' → B x H' (Pv (i + 1))) (hd : ∀ H, Pv n H → Qd H) :
    ∃ W : Nat → Nat → Hp → Prop, (∃ m, W 0 m H0) ∧ ∀ i m H, W i m H → (J.stop i H ∧ Qd H) ∨ (J.go i H ∧ ∃ Nx : Hp → Prop, (∀ H', Nx H' → ∃ m', m' < m ∧ W (i + 1) m' H') ∧ ∀ x H', J.yld i H x H' → B x H' Nx) := by
  refine ⟨fun i m H => m + i = n ∧ Pv i H, ⟨n, by omega, h0⟩, ?_⟩
  rintro i m H ⟨hm, p⟩
  have q := hG i H (by omega) p
  by_cases hlt : i < n
  · exact .inr ⟨w.goes i H hlt q, Pv (i + 1), fun H' p' => ⟨m - 1, by omega, by omega, p'⟩, fun x H' y => hs i x H H' hlt p (w.yields i H x H' hlt q y)⟩
  · have e : i = n := by omega
    subst e
    exact .inl ⟨w.stops H q, hd H p⟩
/-- what a comprehension with two fors gives -/
def two {α β : Type} (p : α → Bool) (ys : α → List β) (o : α → β → Option D) (xs : List α) : List D := (xs.filter p).flatMap fun x => (ys x).filterMap (o x)
theorem two_take {α β : Type} (p : α → Bool) (ys : α → List β) (o : α → β → Option D) {xs : List α} {i : Nat} {x : α} (h : xs[i]? = some x) : two p ys o (xs.take (i + 1)) = two p ys o (xs.take i) ++ (if p x = true then (ys x).filterMap (o x) else []) := by
  have e : xs.take (i + 1) = xs.take i ++ [x] := by rw [List.take_succ, h]; rfl
  unfold two
  rw [e, List.filter_append, List.flatMap_append]
  cases q : p x <;> simp [q]
theorem two_le {α β : Type} (p : α → Bool) (ys : α → List β) (o : α → β → Option D) {xs : List α} {i : Nat} : (two p ys o (xs.take i)).length ≤ (two p ys o xs).length := by
  have e : two p ys o xs = two p ys o (xs.take i) ++ two p ys o (xs.drop i) := by
    unfold two
    rw [← List.flatMap_append, ← List.filter_append, List.take_append_drop]
  rw [e, List.length_append]; omega
theorem ef_lc2 {α β : Type} {wi wi1 : TI} {g g1 : TG} {tt tt1 : TT} {te : TE} {vs vs1 : List Nat} {Γ : List En} (xs : List α) (f : α → D) (p : α → Bool) (ys : α → List β) (f1 : β → D) (o : α → β → Option D) (h : WiP wi Γ (xs.map f)) (hl : (two p ys o xs).length ≤ sizeLine)
    (hs : ∀ x ∈ xs, ∃ Γ', GtV g (f x) vs (wipG Γ vs) Γ' ∧ SetV vs (wipG Γ vs) Γ' ∧ EtP tt Γ' (p x) ∧ (p x = true → WiP wi1 Γ' ((ys x).map f1) ∧ ∀ y ∈ ys x, ∃ Γ2, GtV g1 (f1 y) vs1 (wipG Γ' vs1) Γ2 ∧ EtP tt1 Γ2 (o x y).isSome ∧ ∀ e, o x y = some e → EvP te Γ2 e)) :
    EvF (tLc2 wi g tt wi1 g1 tt1 te vs vs1) Γ (two p ys o xs) := fun c F H σ G Q k => h c F H σ G _ fun J F1 H1 Gd Y S w hG hY => by
  intro Dl nD
  have nF1 : F1 Dl = none := by
    cases q : F1 Dl with
    | none => rfl
    | some u => rw [S.fh _ _ q] at nD; cases nD
  have nH : H Dl = none := by
    cases q : H Dl with
    | none => rfl
    | some u => rw [S.h _ _ q] at nD; cases nD
  have n0 : c.H0 Dl = none := G.fresh nH
  rw [List.length_map] at w
  have G1 := G.step S
  have ns1 : NoSlot (wipe σ vs) (wipG Γ vs) Dl := (G1.wip vs).noSlot nD
  have push : ∀ {F2 H2 : Hp} {u : HO}, Stp F1 H1 F2 H2 → F2 Dl = none → Stp F1 H1 F2 (upd H2 Dl u) := fun {F2 H2 u} S2 f2 => ⟨S2.f, fun a v q => by
    have na : a ≠ Dl := fun z => by subst z; rw [nD] at q; cases q
    rw [upd_ne na]; exact S2.h _ _ q, fun a v q => by
    have na : a ≠ Dl := fun z => by subst z; rw [f2] at q; cases q
    rw [upd_ne na]; exact S2.fh _ _ q, S2.nw⟩
  refine walk_for w (B := fun x H' Nx => g x (wipe σ vs) H' fun σ2 H2 => wipe σ2 vs = wipe σ vs ∧ tt σ2 H2 fun b H3 => if b = true then wi1 σ2 H3 fun J1 H4 => ∃ W1 : Nat → Nat → Hp → Prop, (∃ m, W1 0 m H4) ∧ ∀ j k H, W1 j k H →
      (J1.stop j H ∧ Nx H) ∨ (J1.go j H ∧ ∃ Nx1 : Hp → Prop, (∀ H', Nx1 H' → ∃ k', k' < k ∧ W1 (j + 1) k' H') ∧ ∀ x H', J1.yld j H x H' → g1 x (wipe σ2 vs1) H' fun σ3 H5 => wipe σ3 vs1 = wipe σ2 vs1 ∧ tt1 σ3 H5 fun b H6 =>
        if b = true then te σ3 H6 fun y H7 => ∃ acc, H7 Dl = some (.lst acc) ∧ acc.length < sizeLine ∧ Nx1 (upd H7 Dl (.lst (acc ++ [y]))) else Nx1 H6) else Nx H3)
    (fun i H2 => ∃ F2 acc, Stp F1 H1 F2 H2 ∧ F2 Dl = none ∧ H2 Dl = some (.lst acc) ∧ Reps F2 (two p ys o (xs.take i)) acc) ⟨F1, [], .loose S.fh _ nD, nF1, upd_same, rfl⟩ (fun i H2 _ ⟨F2, acc, S2, _⟩ => hG _ (S2.f.trans S2.fh)) ?_ ?_
  · rintro i v H2 H3 hi ⟨F2, acc, S2, f2, e2, r2⟩ y
    obtain ⟨F3, d, hd, S3, r3⟩ := hY i H2 v H3 F2 (by rw [List.length_map]; exact hi) S2.f S2.fh y
    have hx : xs[i]? = some xs[i] := List.getElem?_eq_getElem hi
    have ed : d = f xs[i] := by
      rw [List.getElem?_map, hx] at hd
      exact (Option.some.inj hd).symm
    subst ed
    obtain ⟨Γ', hg, sv, ht, h1⟩ := hs _ (List.getElem_mem hi)
    have S23 := S2.trans S3
    refine hg c F3 H3 _ v ((G1.step S23).wip vs) r3 _ fun σ2 G3 q1 q2 => ⟨?_, ?_⟩
    · refine wipe_eq (fun j hj => ?_) ?_
      · rw [q1 j hj, wipe_at, if_neg hj]
      · rw [q2, wipe_length]
    have ns2 : NoSlot σ2 Γ' Dl := fun j e he m q => by
      obtain ⟨z1, z2⟩ := sv j e he m
      exact ns1 j e z2 m (by rw [← q1 j z1]; exact q)
    refine ht c F3 H3 σ2 G3 _ fun F4 H4 S4 => ?_
    have f3 := S3.no f2 e2
    have e3 := S3.h _ _ e2
    have f4 := S4.no f3 e3
    have e4 := S4.h _ _ e3
    have S14 := S23.trans S4
    have G4 := G3.step S4
    have r4 := (r2.mono S3.f).mono S4.f
    have tk := two_take p ys o hx
    have le := two_le p ys o (xs := xs) (i := i + 1)
    cases hp : p xs[i] with
    | false =>
      rw [if_neg Bool.false_ne_true]
      refine ⟨F4, acc, S14, f4, e4, ?_⟩
      rw [tk, hp, if_neg Bool.false_ne_true, List.append_nil]; exact r4
    | true =>
      rw [if_pos rfl]
      rw [hp, if_pos rfl] at tk
      obtain ⟨hw, h2⟩ := h1 hp
      refine hw c F4 H4 σ2 G4 _ fun J1 F5 H5 Gd1 Y1 S5 w1 hG1 hY1 => ?_
      have f5 := S5.no f4 e4
      have e5 := S5.h _ _ e4
      rw [List.length_map] at w1
      refine walk_for w1 (B := fun x H' Nx1 => g1 x (wipe σ2 vs1) H' fun σ3 H5 => wipe σ3 vs1 = wipe σ2 vs1 ∧ tt1 σ3 H5 fun b H6 =>
        if b = true then te σ3 H6 fun y H7 => ∃ acc, H7 Dl = some (.lst acc) ∧ acc.length < sizeLine ∧ Nx1 (upd H7 Dl (.lst (acc ++ [y]))) else Nx1 H6)
        (fun j H6 => ∃ F6 acc6, Stp F1 H1 F6 H6 ∧ Ex F5 F6 ∧ Good c F6 H6 σ2 Γ' ∧ F6 Dl = none ∧ H6 Dl = some (.lst acc6) ∧ Reps F6 (two p ys o (xs.take i) ++ ((ys xs[i]).take j).filterMap (o xs[i])) acc6)
        ⟨F5, acc, S14.trans S5, Ex.refl _, G4.step S5, f5, e5, by simpa using r4.mono S5.f⟩ (fun j H6 _ ⟨F6, acc6, S6, x6, _⟩ => hG1 _ (x6.trans S6.fh)) ?_ ?_
      · rintro j v1 H6 H7 hj ⟨F6, acc6, S6, x6, G6, f6, e6, r6⟩ y1
        obtain ⟨F7, d, hd, S7, r7⟩ := hY1 j H6 v1 H7 F6 (by rw [List.length_map]; exact hj) x6 S6.fh y1
        have hy : (ys xs[i])[j]? = some (ys xs[i])[j] := List.getElem?_eq_getElem hj
        have ed : d = f1 (ys xs[i])[j] := by
          rw [List.getElem?_map, hy] at hd
          exact (Option.some.inj hd).symm
        subst ed
        obtain ⟨Γ2, hg1, ht1, he⟩ := h2 _ (List.getElem_mem hj)
        have G7 := G6.step S7
        refine hg1 c F7 H7 _ v1 (G7.wip vs1) r7 _ fun σ3 G8 q3 q4 => ⟨?_, ?_⟩
        · refine wipe_eq (fun l hl => ?_) ?_
          · rw [q3 l hl, wipe_at, if_neg hl]
          · rw [q4, wipe_length]
        refine ht1 c F7 H7 σ3 G8 _ fun F8 H8 S8 => ?_
        have f7 := S7.no f6 e6
        have e7 := S7.h _ _ e6
        have f8 := S8.no f7 e7
        have e8 := S8.h _ _ e7
        have S18 := S6.trans (S7.trans S8)
        have x8 : Ex F5 F8 := x6.trans (S7.f.trans S8.f)
        have r8 := (r6.mono S7.f).mono S8.f
        cases q : o xs[i] (ys xs[i])[j] with
        | none =>
          rw [Option.isSome_none, if_neg Bool.false_ne_true]
          refine ⟨F8, acc6, S18, x8, G7.step S8, f8, e8, ?_⟩
          rw [filterMap_snoc _ hy, q]
          simpa using r8
        | some e =>
          rw [Option.isSome_some, if_pos rfl]
          refine he e q c F8 H8 σ3 (G8.step S8) _ fun u F9 H9 S9 r9 => ?_
          have f9 := S9.no f8 e8
          have e9 := S9.h _ _ e8
          have hz : acc6.length < sizeLine := by
            rw [r6.length]
            have h3 : ((ys xs[i]).take (j + 1)).filterMap (o xs[i]) = ((ys xs[i]).take j).filterMap (o xs[i]) ++ [e] := by rw [filterMap_snoc _ hy, q]; rfl
            have h4 : (((ys xs[i]).take (j + 1)).filterMap (o xs[i])).length ≤ ((ys xs[i]).filterMap (o xs[i])).length := by
              conv => rhs; rw [← List.take_append_drop (j + 1) (ys xs[i]), List.filterMap_append, List.length_append]
              omega
            rw [h3, List.length_append] at h4
            rw [tk, List.length_append] at le
            rw [List.length_append]
            simp only [List.length_singleton] at h4
            omega
          have S19 := S18.trans S9
          refine ⟨acc6, e9, hz, F9, acc6 ++ [u], push S19 f9, x8.trans S9.f, ((G7.step S8).step S9).yWr ns2 f9 (.inr n0), f9, upd_same, ?_⟩
          rw [filterMap_snoc _ hy, q, ← List.append_assoc]
          exact (r8.mono S9.f).append (.one r9)
      · rintro H6 ⟨F6, acc6, S6, x6, G6, f6, e6, r6⟩
        rw [List.take_length] at r6
        exact ⟨F6, acc6, S6, f6, e6, by rw [tk]; exact r6⟩
  · rintro H2 ⟨F2, acc, S2, f2, e2, r2⟩
    rw [List.take_length] at r2
    exact k Dl acc F2 H2 (S.trans S2) nH f2 e2 r2
end DL
set_option Elab.async false
set_option linter.all false
set_option maxRecDepth 100000
set_option maxHeartbeats 4000000
namespace DL
open PySem PySem.Spec PyProof.Rows L2
abbrev rNeTS : R2 := fun x y H Q => x = .ty "str" ∧ y = .ty "str" ∧ Q (.bl false) H
theorem op_neTS {X : Cx} : OpR X (compareOp .NotEq) rNeTS := by
  intro pins s σ H x y v u Q I rx ry h
  obtain ⟨rfl, rfl, q⟩ := h
  cases (show v = Value.type "str" from rx)
  cases (show u = Value.type "str" from ry)
  have q2 : EP X pins σ Q (.bool false) s := ⟨.bl false, H, I, rfl, q⟩
  exact PySem.NT.ne_type_same (X := "str") TypeEq.meta_str q2
theorem rd_neTS : RD rNeTS (.ty "str") (.ty "str") (.bl false) := fun F H vx vy e rx ry Q k => ⟨rx, ry, k _ F H (.refl e) rfl⟩
theorem ep_tyS {Γ : List En} {ta : TE} {i : Str} (h : EvP ta Γ (.str i)) : EvP (tThenZ ta kTyp) Γ (.ty "str") := fun c F H σ G Q k => h c F H σ G _ fun v F1 H1 S1 r1 => by
  have e : v = .str i := r1
  subst e
  exact ⟨"str", rfl, k (.ty "str") F1 H1 S1 rfl⟩
end DL
namespace Lw
open PySem PySem.Spec PyProof.Rows L2 DL
theorem sc__is_ask : FnScope ["schema", "thing", "deep", "word", "node"] ["schema", "thing", "deep"] (defScope s__is_ask) := ⟨rfl, rfl, rfl, by decide +kernel, rfl, by decide +kernel, by decide +kernel⟩
/-- asks -/
inductive As where
  | one (w : Str) (x : Int)
  | wh (s : Int) (g : Tg) (a : As)
def asD : As → D
  | .one w x => .tup [.str w, .int x]
  | .wh s g a => .tup [.str "where", .int s, tgD g, asD a]
def asL : As → Nat
  | .one _ _ => 1
  | .wh _ _ a => asL a + 1
theorem asL_pos : ∀ a : As, 0 < asL a
  | .one _ _ => Nat.one_pos
  | .wh _ _ _ => Nat.succ_pos _
def okA (t : Tr) : As → Prop
  | .one w x => okW t w x
  | .wh s g a => -1 ≤ s ∧ s < (sz t : Nat) ∧ (s = -1 ∨ (Lw.kd t)[s.toNat]? = some ("list" : Str)) ∧ tgL g ≤ 20 ∧ (∀ x ∈ tgN g, below t s x) ∧ okA t a
/-- what KIND_FOR_WORD and MOST_DEEP are -/
structure Fx (K : PySem.W.Frag) (w : World) (mg : Str → Option Value) (sw : Addr) (es : Array DictEntry) (n : Nat) : Prop where
  g : ∃ u, mg "KIND_FOR_WORD" = some u ∧ RelV (.ref sw) u
  deep : ∃ u, mg "MOST_DEEP" = some u ∧ RelV (.int 20) u
  dk : KDict K w sw es n
  k_values : KDct K w sw "values" (.str "value")
  k_sum : KDct K w sw "sum" (.str "value")
  k_least : KDct K w sw "least" (.str "value")
  k_greatest : KDct K w sw "greatest" (.str "value")
  k_lengths : KDct K w sw "lengths" (.str "list")
  k_there : KDct K w sw "there" (.str "maybe")
theorem okW_ne {t : Tr} {w : Str} {x : Int} (h : okW t w x) : w ≠ ("where" : Str) := by
  rintro rfl
  obtain ⟨_, _, h | ⟨_, (⟨h | h | h | h, _⟩ | ⟨h, _⟩ | ⟨h, _⟩)⟩⟩ := h <;> exact absurd h (by decide +kernel)
def C_ask (CS : Addr) (N : Nat) : Cn := fun Γ R => ∃ (t : Tr) (a : As) (d : Nat), Γ = [.sh (schD CS t), .sh (asD a), .sh (.int ((d : Nat) : Int))] ∧ asL a ≤ d ∧ asL a ≤ N ∧ okA t a ∧ sz t ≤ 40 ∧ R = fun d _ => d = .bl true
section
variable {P : Program} {w : World} {K : PySem.W.Frag} {mg : Str → Option Value} {base : Heap} {f : Addr} {fd : FuncData} {CS C kd sw : Addr} {es es3 : Array DictEntry} {n n3 : Nat}
theorem ok_ask (T : Tx mg) (S' : Sx K w mg CS C kd es n) (FX : Fx K w mg sw es3 n3) (c_is_filtered_node : Cal P w K mg base 1 "is_filtered_node" (spE (C_ifn CS))) (c_is_test : Cal P w K mg base 24 "is_test" (spE (C_ist CS 20))) (F : FnP K "_is_ask" s__is_ask f fd) (kf : PySem.W.keepIn K (.ref f) = true) (mf : mg "_is_ask" = some (.ref f)) (bf : Binds K fd ["schema", "thing", "deep"] []) :
    ∀ N : Nat, FnOk P w K mg base CX0 (N + 25) f fd ["schema", "thing", "deep"] (spE (C_ask CS N))
  | 0 => fn_none fun Γ R ⟨_, a, _, _, _, h, _⟩ => by
    have := asL_pos a
    omega
  | N + 1 => by
    have ih := ok_ask T S' FX c_is_filtered_node c_is_test F kf mf bf N
    have c__is_ask : Cal P w K mg base (N + 25) "_is_ask" (spE (C_ask CS N)) := ⟨f, fd, _, ih, mf, kf, bf⟩
    refine fn_ok F sc__is_ask (fun Γ R ⟨t, a, d, h, _⟩ => by subst h; rfl) fun cdv A outer s H E hr => ⟨_, (pss_cons (ps_if (PW.pt (pw_or (pt_cmpR op_eq (pv 2) pe_int (nomark _)) (pw_or (pt_cmpR op_neTT (pe_typeOf rfl T.z_type (pv 1)) (pe_bltn (v := .ty "tuple") rfl T.z_tuple (by decide +kernel) rfl) (nomark _)) (pw_or (pt_cmpR op_lt (pe_callB call_len_seq rfl T.z_len (by decide +kernel) (pa_cons (pv 1) pa_nil)) pe_int (nomark _)) (pw_or1 (pt_cmpR op_neTS (pe_typeOf rfl T.z_type (pe_ix ix_tup (pv 1) pe_int (fun _ _ => rfl))) (pe_bltn (v := .ty "str") rfl T.z_str (by decide +kernel) rfl) (nomark _))))))) (pss_one (ps_ret pe_bl)) pss_nil)
      (pss_cons (ps_par (i := 3) (j := 4) rfl sc__is_ask.nd rfl rfl (by decide) rfl rfl (pa_cons (pe_ix ix_tup (pv 1) pe_int (fun _ _ => rfl)) (pa_cons (pe_ix ix_tup (pv 1) pe_int (fun _ _ => rfl)) pa_nil)) (by rfl))
      (pss_cons (ps_if (pt_cmpR op_eq (pv 3) pe_str (nomark _)) (pss_cons (ps_if (PW.pt (pw_or (pt_cmpR op_ne (pe_callB call_len_seq rfl T.z_len (by decide +kernel) (pa_cons (pv 1) pa_nil)) pe_int (nomark _)) (pw_or1 (pt_not (pt_val (pe_c c_is_filtered_node hr (by first | decide | omega) rfl (pa_cons (pv 0) (pa_cons (pv 4) pa_nil)))))))) (pss_one (ps_ret pe_bl)) pss_nil)
      (pss_one (ps_ret (pe_and (pe_c c_is_test hr (by first | decide | omega) rfl (pa_cons (pv 0) (pa_cons (pv 4) (pa_cons (pe_ix ix_tup (pv 1) pe_int (fun _ _ => rfl)) (pa_cons (pe_gc rfl FX.deep) pa_nil))))) (pe_one (pe_c c__is_ask hr (by first | decide | omega) rfl (pa_cons (pv 0) (pa_cons (pe_ix ix_tup (pv 1) pe_int (fun _ _ => rfl)) (pa_cons (pe_op op_sub (pv 2) pe_int) pa_nil))))))))) pss_nil)
      (pss_cons (ps_if (PW.pt (pw_or (pt_cmpR op_ne (pe_callB call_len_seq rfl T.z_len (by decide +kernel) (pa_cons (pv 1) pa_nil)) pe_int (nomark _)) (pw_or (pt_cmpR op_neTI (pe_typeOf rfl T.z_type (pv 4)) (pe_bltn (v := .ty "int") rfl T.z_int (by decide +kernel) rfl) (nomark _)) (pw_or1 (pt_not (pt_chain op_le op_lt (pe_un un_neg pe_int) (pv 4) (pe_callB call_len_seq rfl T.z_len (by decide +kernel) (pa_cons (pe_fld (pv 0) rfl) pa_nil)))))))) (pss_one (ps_ret pe_bl)) pss_nil)
      (pss_cons (ps_if (pt_cmpR op_eq (pv 3) pe_str (nomark _)) (pss_one (ps_ret pe_bl)) pss_nil)
      (pss_one (ps_ret (pe_and (pe_cmpR (op_in_kd FX.dk) (pv 3) (pe_gc rfl FX.g) (by rfl)) (pe_and (pe_cmpR op_ge (pv 4) pe_int (nomark _)) (pe_one (pe_cmpR op_eq (pe_ix ix_tup (pe_fld (pv 0) rfl) (pv 4) (fun _ _ => rfl)) (pe_ix ix_kdict (pe_gc rfl FX.g) (pv 3) (fun _ _ => rfl)) (nomark _)))))))))))), ?_⟩
    rintro Γ R ⟨t, a, d, rfl, hd, hN, ok, h40, rfl⟩ _
    have ha := asL_pos a
    show SW _ [.sh (schD CS t), .sh (asD a), .sh (.int ((d : Nat) : Int)), .un, .un] _
    cases a with
    | one ww x =>
      refine sw_guard (b := false) (et_or (a := false) ((et_test (ep_op (ep_var rfl) ep_int rd_eqI)).cast (decide_eq_false (by omega))) fun _ => et_or (a := false) (et_test (ep_op (ep_tyTT (ep_var rfl)) ep_ty rd_neTT)) fun _ => et_or (a := false) ((et_test (ep_op (ep_cb (ea_cons (ep_var rfl) ea_nil) rc_lenT) ep_int rd_I0b)).cast (by simp)) fun _ => et_test (ep_op (ep_tyS (ep_op (ep_var rfl) ep_int (rd_ixT rfl))) ep_ty rd_neTS)) (fun z => absurd z Bool.false_ne_true) fun _ => ?_
      refine sw_seq1 (sw_par (x := .str ww) (y := .int x) (ep_op (ep_var rfl) ep_int (rd_ixT rfl)) (ep_op (ep_var rfl) ep_int (rd_ixT rfl)) rfl) ?_
      show SW _ [.sh (schD CS t), .sh (asD (.one ww x)), .sh (.int ((d : Nat) : Int)), .sh (.str ww), .sh (.int x)] _
      refine sw_guard (b := false) ((et_test (ep_op (ep_var rfl) ep_str rd_eqS)).cast (decide_eq_false (okW_ne ok))) (fun z => absurd z Bool.false_ne_true) fun _ => ?_
      obtain ⟨p0, p1, hk⟩ := ok
      refine sw_guard (b := false) (et_or (a := false) ((et_test (ep_op (ep_cb (ea_cons (ep_var rfl) ea_nil) rc_lenT) ep_int rd_neI)).cast (by rfl)) fun _ => et_or (a := false) (et_test (ep_op (ep_tyI (ep_var rfl)) ep_ty rd_neTI)) fun _ => et_not (a := true) ((et_test (ep_chainI (r1 := fun i j => decide (i ≤ j)) (r2 := fun i j => decide (i < j)) (i := -1) (j := x) (l := (sz t : Nat)) (ep_un (x := .int 1) ep_int rc_neg) (ep_var rfl) ((ep_cb (ea_cons (ep_fld (ep_var rfl) S'.cls S'.f_node_kinds rfl) ea_nil) (rc_lenT (ds := (Lw.kd t).map D.str))).cast (by rw [List.length_map, kd_len])))).cast (show (decide (-1 ≤ x) && decide (x < ((sz t : Nat) : Int))) = true by rw [decide_eq_true p0, decide_eq_true p1]; rfl))) (fun z => absurd z Bool.false_ne_true) fun _ => ?_
      refine sw_guard (b := decide (ww = ("count" : Str))) (et_test (ep_op (ep_var rfl) ep_str rd_eqS)) (fun _ => sw_ret ep_bl ⟨rfl, trivial⟩) fun z => ?_
      have z := of_decide_eq_false z
      obtain hk | ⟨x0, hk⟩ := hk
      · exact absurd hk z
      obtain ⟨kw, h1, h2⟩ : ∃ kw : Str, KDct K w sw ww (.str kw) ∧ (Lw.kd t)[x.toNat]? = some kw := by
        obtain (⟨h | h | h | h, hk⟩ | ⟨h, hk⟩ | ⟨h, hk⟩) := hk <;> subst h
        · exact ⟨_, FX.k_values, hk⟩
        · exact ⟨_, FX.k_sum, hk⟩
        · exact ⟨_, FX.k_least, hk⟩
        · exact ⟨_, FX.k_greatest, hk⟩
        · exact ⟨_, FX.k_there, hk⟩
        · exact ⟨_, FX.k_lengths, hk⟩
      obtain ⟨j, rfl⟩ : ∃ j : Nat, x = (j : Int) := ⟨x.toNat, by omega⟩
      rw [Int.toNat_natCast] at h2
      have hin : ∃ u, PySem.W.nsIn K sw ww = some (some u) := by obtain ⟨_, _, u, _, _, h, _⟩ := h1; exact ⟨u, h⟩
      obtain ⟨u, hin⟩ := hin
      refine sw_ret (d := .bl true) (EvP.cast (ep_andV (a := true) (b := true) (EvP.cast (ep_op (ep_var rfl) ep_ref (rd_inKd hin)) rfl) fun _ => EvP.cast (ep_andV (a := true) (b := true) (EvP.cast (ep_op (ep_var rfl) ep_int rd_I0b) (congrArg D.bl (decide_eq_true (by omega)))) fun _ => ?_) rfl) rfl) ⟨rfl, trivial⟩
      exact EvP.cast (ep_op (ep_op (ep_fld (ep_var rfl) S'.cls S'.f_node_kinds rfl) (ep_var rfl) (rd_ixT (kd_get h2))) (ep_op ep_ref (ep_var rfl) (rd_ixKd h1)) rd_eqS) (congrArg D.bl (decide_eq_true rfl))
    | wh sp g b =>
      obtain ⟨p0, p1, hk, hg, hb, okb⟩ := ok
      refine sw_guard (b := false) (et_or (a := false) ((et_test (ep_op (ep_var rfl) ep_int rd_eqI)).cast (decide_eq_false (by omega))) fun _ => et_or (a := false) (et_test (ep_op (ep_tyTT (ep_var rfl)) ep_ty rd_neTT)) fun _ => et_or (a := false) ((et_test (ep_op (ep_cb (ea_cons (ep_var rfl) ea_nil) rc_lenT) ep_int rd_I0b)).cast (by simp)) fun _ => et_test (ep_op (ep_tyS (ep_op (ep_var rfl) ep_int (rd_ixT rfl))) ep_ty rd_neTS)) (fun z => absurd z Bool.false_ne_true) fun _ => ?_
      refine sw_seq1 (sw_par (x := .str "where") (y := .int sp) (ep_op (ep_var rfl) ep_int (rd_ixT rfl)) (ep_op (ep_var rfl) ep_int (rd_ixT rfl)) rfl) ?_
      show SW _ [.sh (schD CS t), .sh (asD (.wh sp g b)), .sh (.int ((d : Nat) : Int)), .sh (.str "where"), .sh (.int sp)] _
      have hL : asL b + 1 ≤ d := hd
      have hL2 : asL b ≤ N := Nat.le_of_succ_le_succ hN
      refine sw_guard (b := true) ((et_test (ep_op (ep_var rfl) ep_str rd_eqS)).cast (decide_eq_true rfl)) (fun _ => ?_) (fun z => by cases z)
      refine sw_guard (b := false) (et_or (a := false) ((et_test (ep_op (ep_cb (ea_cons (ep_var rfl) ea_nil) rc_lenT) ep_int rd_neI)).cast (by rfl)) fun _ => et_not (a := true) (et_test (ep_call (z := .bl true) (ea_cons (x := schD CS t) (ep_var rfl) (ea_cons (x := .int sp) (ep_var rfl) ea_nil)) ⟨t, sp, rfl, p0, p1, hk, rfl⟩ fun e _ h => h))) (fun z => absurd z Bool.false_ne_true) fun _ => ?_
      refine sw_ret (d := .bl true) (EvP.cast (ep_andV (a := true) (b := true) (ep_call (z := .bl true) (ea_cons (x := schD CS t) (ep_var rfl) (ea_cons (x := .int sp) (ep_var rfl) (ea_cons (x := tgD g) (ep_op (ep_var rfl) ep_int (rd_ixT rfl)) (ea_cons (x := .int ((20 : Nat) : Int)) ep_int ea_nil)))) ⟨t, sp, g, 20, rfl, hg, hg, p0, p1, hb, h40, rfl⟩ fun e _ h => h) fun _ => ?_) rfl) ⟨rfl, trivial⟩
      exact ep_call (z := .bl true) (ea_cons (x := schD CS t) (ep_var rfl) (ea_cons (x := asD b) (ep_op (ep_var rfl) ep_int (rd_ixT rfl)) (ea_cons (x := .int ((d - 1 : Nat) : Int)) (EvP.cast (ep_op (z := .int (((d : Nat) : Int) - 1)) (ep_var rfl) ep_int rd_I0i) (congrArg D.int (by omega))) ea_nil))) ⟨t, b, d - 1, rfl, by omega, hL2, okb, h40, rfl⟩ fun e _ h => h
end
end Lw
set_option Elab.async false
set_option linter.all false
set_option maxRecDepth 100000
set_option maxHeartbeats 4000000
namespace Lw
open PySem PySem.Spec PyProof.Rows L2 DL
theorem sc__needed_node : FnScope ["schema", "ask", "word", "node", "line"] ["schema", "ask"] (defScope s__needed_node) := ⟨rfl, rfl, rfl, by decide +kernel, rfl, by decide +kernel, by decide +kernel⟩
theorem last_cons (x : Nat) (l : List Nat) (d : Int) : ((x :: l).getLast?.map fun (y : Nat) => (y : Int)).getD d = (l.getLast?.map fun (y : Nat) => (y : Int)).getD (x : Int) := by
  cases h : l.getLast? with
  | none =>
    have e : l = [] := List.getLast?_eq_none_iff.mp h
    subst e; rfl
  | some y =>
    rw [List.getLast?_cons, h]; rfl
theorem opl_cons (ks : List Str) (x : Nat) (l : List Nat) : opl ks (x :: l) = if opK (ks.getD x "") = true then x :: opl ks l else opl ks l := by
  unfold opl; rw [List.filter_cons]
abbrev lastI (l : List Nat) (d : Int) : Int := (l.getLast?.map fun (y : Nat) => (y : Int)).getD d
mutual
/-- the law's lowest open node is the last open one of the line -/
theorem oab_eq (ks : List Str) : ∀ (t : Tr) (n i : Nat) (d : Int), i < sz t → (∀ x, x < sz t → ks[n + x]? = (Lw.kd t)[x]?) → oab t n i d = lastI (opl ks (an t n i)) d
  | .v, n, i, d, h, hk => by
    have e := getD_of ((hk 0 (by simp [sz])).trans (rfl : (Lw.kd .v)[0]? = some ("value" : Str)))
    simp only [Nat.add_zero] at e
    simp only [an, oab]
    rw [opl_cons, e, if_neg (by decide)]; rfl
  | .o b t, n, 0, d, h, hk => by
    have e := getD_of ((hk 0 (by simp [sz])).trans (show (Lw.kd (.o b t))[0]? = some (if b then "list" else "maybe" : Str) by cases b <;> rfl))
    simp only [Nat.add_zero] at e
    simp only [an, oab]
    rw [opl_cons, e, if_pos (by cases b <;> decide)]; rfl
  | .o b t, n, i + 1, d, h, hk => by
    have e := getD_of ((hk 0 (by simp [sz])).trans (show (Lw.kd (.o b t))[0]? = some (if b then "list" else "maybe" : Str) by cases b <;> rfl))
    simp only [Nat.add_zero] at e
    simp only [an, oab]
    rw [opl_cons, e, if_pos (by cases b <;> decide), oab_eq ks t (n + 1) i n (by simp [sz] at h; omega) fun x hx => ?_]
    · exact (last_cons _ _ _).symm
    · rw [show n + 1 + x = n + (x + 1) by omega, hk (x + 1) (by simp only [sz]; omega)]
      cases b <;> simp [Lw.kd]
  | .r fs, n, 0, d, h, hk => by
    have e := getD_of ((hk 0 (by simp [sz])).trans (rfl : (Lw.kd (.r fs))[0]? = some ("record" : Str)))
    simp only [Nat.add_zero] at e
    simp only [an, oab]
    rw [opl_cons, e, if_neg (by decide)]; rfl
  | .r fs, n, i + 1, d, h, hk => by
    have e := getD_of ((hk 0 (by simp [sz])).trans (rfl : (Lw.kd (.r fs))[0]? = some ("record" : Str)))
    simp only [Nat.add_zero] at e
    simp only [an, oab]
    rw [opl_cons, e, if_neg (by decide)]
    refine oabs_eq ks fs (n + 1) i d (by simp [sz] at h; omega) fun x hx => ?_
    rw [show n + 1 + x = n + (x + 1) by omega, hk (x + 1) (by simp only [sz]; omega)]
    simp [Lw.kd]
theorem oabs_eq (ks : List Str) : ∀ (fs : List (Str × Tr)) (n i : Nat) (d : Int), i < szs fs → (∀ x, x < szs fs → ks[n + x]? = (kds fs)[x]?) → oabs fs n i d = lastI (opl ks (ans fs n i)) d
  | [], n, i, d, h, hk => by simp [szs] at h
  | (s, t) :: r, n, i, d, h, hk => by
    simp only [oabs, ans]
    by_cases z : i < sz t
    · rw [if_pos z, if_pos z]
      refine oab_eq ks t n i d z fun x hx => ?_
      rw [hk x (by simp only [szs]; omega)]
      simp only [kds]
      rw [List.getElem?_append_left (by rw [kd_len]; exact hx)]
    · rw [if_neg z, if_neg z]
      refine oabs_eq ks r (n + sz t) (i - sz t) d (by simp only [szs] at h; omega) fun x hx => ?_
      rw [show n + sz t + x = n + (sz t + x) by omega, hk (sz t + x) (by simp only [szs]; omega)]
      simp only [kds]
      rw [List.getElem?_append_right (by rw [kd_len]; omega), kd_len, show sz t + x - sz t = x by omega]
end
/-- the node that an ask without another one needs -/
def ndd (t : Tr) (w : Str) (x : Int) : Int := if w = "count" then (if x < 0 then -1 else oab t 0 x.toNat (-1)) else x
def C_olineM (CS : Addr) : Cn := fun Γ R => ∃ (t : Tr) (more : List (Str × D)), Γ = [.sh (schP CS t more), .sh (.int (-1))] ∧ R = fun d _ => d = .lst []
def C_olineI (CS : Addr) : Cn := fun Γ R => ∃ (t : Tr) (i : Int), Γ = [.sh (schD CS t), .sh (.int i)] ∧ -1 ≤ i ∧ i < (sz t : Nat) ∧ sz t ≤ 40 ∧ R = fun d _ => d = .lst (iI (if i < 0 then [] else (opl (Lw.kd t) (an t 0 i.toNat)).map fun (x : Nat) => (x : Int)))
def C_nn (CS : Addr) : Cn := fun Γ R => ∃ (t : Tr) (ww : Str) (x : Int), Γ = [.sh (schD CS t), .sh (.tup [.str ww, .int x])] ∧ okW t ww x ∧ sz t ≤ 40 ∧ R = fun d _ => d = .int (ndd t ww x)
section
variable {P : Program} {w : World} {K : PySem.W.Frag} {mg : Str → Option Value} {base : Heap} {f : Addr} {fd : FuncData} {CS C kd sw : Addr} {es es2 : Array DictEntry} {n n2 : Nat}
theorem ok_olineM (T : Sx K w mg CS C kd es n) (W : Wx K w mg sw es2 n2) (c_line_to : Cal P w K mg base 1 "line_to" (spE (C_lineM CS))) (F : FnP K "open_line_to" s_open_line_to f fd) : FnOk P w K mg base CX0 2 f fd ["schema", "node"] (spE (C_olineM CS)) := by
  refine fn_ok F sc_open_line_to (fun Γ R ⟨t, _, h, _⟩ => by subst h; rfl) fun cdv A outer s H E hr => ⟨_, (pss_one (ps_ret (pe_lc (own := [("above", 2)]) (g := (gName 2)) rfl sc_open_line_to.nd (pi_list (pe_c c_line_to hr (by first | decide | omega) rfl (pa_cons (pv 0) (pa_cons (pv 1) pa_nil)))) (blkOk_by (own := [("above", 2)]) (N := ["schema", "node", "above"]) (sc := defScope s_open_line_to) (by decide +kernel)) (fun _ _ _ _ _ => (pg_name (i := 2) sc_open_line_to.nd rfl (Or.inl rfl))) (fun _ _ _ _ _ => pts_one (pt_cmpR (show OpR _ (compareOp .In) (rInKd K sw) from op_in_kd W.dk) (pe_ix (show IxR _ (rIxT K) from ix_tup) (pe_fldK (K := K) (pv 0) rfl) (pv 2) (fun _ _ => rfl)) (pe_gc rfl W.g) (by rfl))) (fun _ _ _ _ _ => (pv 2))))), ?_⟩
  rintro Γ R ⟨t, more, rfl, rfl⟩ _
  show SW _ [.sh (schP CS t more), .sh (.int (-1)), .un] _
  exact sw_ret (d := .lst []) ((EvF.cast (ef_lc ([] : List Nat) (fun x => .int (x : Nat)) (fun x => none) (wi_list (ep_call (z := .lst []) (ea_cons (ep_var rfl) (ea_cons (ep_var rfl) ea_nil)) ⟨t, more, rfl, rfl⟩ fun e _ h => h)) (by decide) fun x hx => nomatch hx) rfl).p) ⟨rfl, trivial⟩
theorem ok_olineI (T : Sx K w mg CS C kd es n) (W : Wx K w mg sw es2 n2) (c_line_to : Cal P w K mg base 1 "line_to" (spE (C_line CS))) (c_line_to' : Cal P w K mg base 1 "line_to" (spE (C_lineM CS))) (F : FnP K "open_line_to" s_open_line_to f fd) : FnOk P w K mg base CX0 2 f fd ["schema", "node"] (spE (C_olineI CS)) := by
  have h := FnOk.or (ok_oline (P := P) (w := w) (mg := mg) (base := base) T W c_line_to F) (ok_olineM (P := P) (w := w) (mg := mg) (base := base) (CS := CS) T W c_line_to' F)
  have key : ∀ Γ R, C_olineI CS Γ R → C_oline CS Γ R ∨ C_olineM CS Γ R := fun Γ R ⟨t, i, e, i0, i1, h40, eR⟩ => by
    by_cases z : i < 0
    · have ei : i = -1 := by omega
      subst ei
      exact .inr ⟨t, _, e, by rw [eR]; rfl⟩
    · refine .inl ⟨t, i.toNat, _, by rw [e, show ((i.toNat : Nat) : Int) = i by omega]; rfl, by omega, h40, ?_⟩
      rw [eR, if_neg z, ← iD_eq]
  exact ⟨fun vs H Q E ⟨c, F, Γ, R, G, a, hC, q⟩ => h.len vs H Q E ⟨c, F, Γ, R, G, a, key Γ R hC, q⟩, fun A outer s H args us vs Q E r0 r1 r2 r3 ⟨c, F, Γ, R, G, a, hC, q⟩ => h.run A outer s H args us vs Q E r0 r1 r2 r3 ⟨c, F, Γ, R, G, a, key Γ R hC, q⟩⟩
theorem ok_nn (T : Tx mg) (c_open_line_to : Cal P w K mg base 2 "open_line_to" (spE (C_olineI CS))) (F : FnP K "_needed_node" s__needed_node f fd) : FnOk P w K mg base CX0 3 f fd ["schema", "ask"] (spE (C_nn CS)) := by
  refine fn_ok F sc__needed_node (fun Γ R ⟨t, w, x, h, _⟩ => by subst h; rfl) fun cdv A outer s H E hr => ⟨_, (pss_cons (ps_asg (pv 1) (pg_tup rfl (pgs_cons (pg_name (i := 2) sc__needed_node.nd rfl (by first | exact Or.inl rfl | exact Or.inr rfl)) (pgs_cons (pg_name (i := 3) sc__needed_node.nd rfl (by first | exact Or.inl rfl | exact Or.inr rfl)) pgs_nil))))
      (pss_cons (ps_if (pt_cmpR op_ne (pv 2) pe_str (nomark _)) (pss_one (ps_ret (pv 3))) pss_nil)
      (pss_cons (ps_set (i := 4) sc__needed_node.nd rfl (by first | exact Or.inl rfl | exact Or.inr rfl) (pe_c c_open_line_to hr (by first | decide | omega) rfl (pa_cons (pv 0) (pa_cons (pv 3) pa_nil))))
      (pss_one (ps_ret (pe_ifExp (pt_cmpR op_gt (pe_callB call_len_seq rfl T.z_len (by decide +kernel) (pa_cons (pv 4) pa_nil)) pe_int (nomark _)) (pe_ix ix_list (pv 4) (pe_un un_neg pe_int) (fun _ _ => rfl)) (pe_un un_neg pe_int))))))), ?_⟩
  rintro Γ R ⟨t, ww, x, rfl, ⟨p0, p1, hk⟩, h40, rfl⟩ _
  show SW _ [.sh (schD CS t), .sh (.tup [.str ww, .int x]), .un, .un, .un] _
  refine sw_seq1 (sw_asgG (d := .tup [.str ww, .int x]) (ep_var rfl) gt_tup2 rfl) ?_
  show SW _ [.sh (schD CS t), .sh (.tup [.str ww, .int x]), .sh (.str ww), .sh (.int x), .un] _
  refine sw_guard (b := !decide (ww = ("count" : Str))) (et_test (ep_op (ep_var rfl) ep_str rd_neS)) (fun z => ?_) fun z => ?_
  · refine sw_ret (d := .int x) (ep_var rfl) ⟨?_, trivial⟩
    unfold ndd
    rw [if_neg (by simpa using z)]
  · have z : ww = ("count" : Str) := by simpa using z
    subst z
    refine q_asg (d := .lst (iI (if x < 0 then [] else (opl (Lw.kd t) (an t 0 x.toNat)).map fun (x : Nat) => (x : Int)))) (ep_call (ea_cons (x := schD CS t) (ep_var rfl) (ea_cons (x := .int x) (ep_var rfl) ea_nil)) ⟨t, x, rfl, p0, p1, h40, rfl⟩ fun e _ h => h) ?_
    obtain ⟨l, el⟩ : ∃ l : List Nat, l = if x < 0 then [] else opl (Lw.kd t) (an t 0 x.toNat) := ⟨_, rfl⟩
    have e1 : (if x < 0 then [] else (opl (Lw.kd t) (an t 0 x.toNat)).map fun (x : Nat) => (x : Int)) = l.map fun (x : Nat) => (x : Int) := by rw [el]; split <;> rfl
    have e2 : ndd t "count" x = lastI l (-1) := by
      unfold ndd
      rw [if_pos rfl, el]
      split
      · rfl
      · exact oab_eq (Lw.kd t) t 0 x.toNat (-1) (by omega) fun y _ => by rw [Nat.zero_add]
    rw [e1]
    show SW _ [.sh (schD CS t), .sh (.tup [.str "count", .int x]), .sh (.str "count"), .sh (.int x), .sh (.lst (iI (l.map fun (x : Nat) => (x : Int))))] _
    refine sw_ret (d := .int (lastI l (-1))) (ep_if (b := decide (0 < l.length)) (EtP.cast (et_test (ep_op (ep_cb (ea_cons (x := .lst (iI (l.map fun (x : Nat) => (x : Int)))) (ep_var rfl) ea_nil) rc_len) ep_int rd_I0b)) ?_) (fun z => ?_) fun z => ?_) ⟨by rw [e2], trivial⟩
    · refine decide_eq_decide.mpr ?_
      show ((0 : Int) < ((iI (l.map fun (x : Nat) => (x : Int))).length : Nat)) ↔ _
      rw [List.length_map, List.length_map]; omega
    · have z := of_decide_eq_true z
      obtain ⟨m, em⟩ : ∃ m, l.length = m + 1 := ⟨l.length - 1, by omega⟩
      refine ep_op (x := .lst (iI (l.map fun (x : Nat) => (x : Int)))) (y := .int (-1)) (ep_var rfl) (ep_un (x := .int 1) ep_int rc_neg) (rd_ixL (atI_of (j := m) ?_ ?_))
      · unfold ixN
        rw [List.length_map, List.length_map, em]
        simp
        try omega
      · have h1 : l[m]? = l.getLast? := by rw [List.getLast?_eq_getElem?, em]; rfl
        rw [List.getElem?_map, List.getElem?_map, h1]
        have h2 : l.getLast? = some (l.getLast (by intro z; subst z; simp at em)) := List.getLast?_eq_some_getLast _
        rw [lastI, h2]; rfl
    · have z := of_decide_eq_false z
      have el : l = [] := List.eq_nil_of_length_eq_zero (by omega)
      subst el
      exact ep_un (x := .int 1) ep_int rc_neg
end
end Lw
set_option Elab.async false
set_option linter.all false
set_option maxRecDepth 100000
set_option maxHeartbeats 4000000
namespace Lw
open PySem PySem.Spec PyProof.Rows L2 DL
theorem sc_test_nodes : FnScope ["test", "inner", "node"] ["test"] (defScope s_test_nodes) := ⟨rfl, rfl, rfl, by decide +kernel, rfl, by decide +kernel, by decide +kernel⟩
theorem sc__needs : FnScope ["schema", "ask", "found", "inner", "node"] ["schema", "ask"] (defScope s__needs) := ⟨rfl, rfl, rfl, by decide +kernel, rfl, by decide +kernel, by decide +kernel⟩
theorem sc_check_ask : FnScope ["schema", "ask"] ["schema", "ask"] (defScope s_check_ask) := ⟨rfl, rfl, rfl, by decide +kernel, rfl, by decide +kernel, by decide +kernel⟩
theorem sc_needs_of : FnScope ["schema", "ask"] ["schema", "ask"] (defScope s_needs_of) := ⟨rfl, rfl, rfl, by decide +kernel, rfl, by decide +kernel, by decide +kernel⟩
def C_tn (N : Nat) : Cn := fun Γ R => ∃ g : Tg, Γ = [.sh (tgD g)] ∧ tgL g ≤ N ∧ (tgN g).length ≤ 1000 ∧ R = fun d _ => d = .lst (iD (tgN g))
section
variable {P : Program} {w : World} {K : PySem.W.Frag} {mg : Str → Option Value} {base : Heap} {f : Addr} {fd : FuncData} {CS C kd sw : Addr} {es es2 : Array DictEntry} {n n2 : Nat}
theorem ok_tn (F : FnP K "test_nodes" s_test_nodes f fd) (kf : PySem.W.keepIn K (.ref f) = true) (mf : mg "test_nodes" = some (.ref f)) (bf : Binds K fd ["test"] []) :
    ∀ N : Nat, FnOk P w K mg base CX0 (N + 1) f fd ["test"] (spE (C_tn N))
  | 0 => fn_none fun Γ R ⟨g, _, h, _⟩ => by
    have := tgL_pos g
    omega
  | N + 1 => by
    have ih := ok_tn F kf mf bf N
    have c_test_nodes : Cal P w K mg base (N + 1) "test_nodes" (spE (C_tn N)) := ⟨f, fd, _, ih, mf, kf, bf⟩
    refine fn_ok F sc_test_nodes (fun Γ R ⟨g, h, _⟩ => by subst h; rfl) fun cdv A outer s H E hr => ⟨_, (pss_cons (ps_if (PW.pt (pw_or (pt_cmpR op_eq (pe_ix ix_tup (pv 0) pe_int (fun _ _ => rfl)) pe_str (nomark _)) (pw_or1 (pt_cmpR op_eq (pe_ix ix_tup (pv 0) pe_int (fun _ _ => rfl)) pe_str (nomark _))))) (pss_one (ps_ret (pe_lst (pa_cons (pe_ix ix_tup (pv 0) pe_int (fun _ _ => rfl)) pa_nil)))) pss_nil)
      (pss_one (ps_ret (pe_lc2 (own := [("inner", 1), ("node", 2)]) (vs1 := [2]) (g := gName 1) (g1 := gName 2) (tt := tYes) (tt1 := tYes) (wi1 := iList K (tCall (spE (C_tn N)) [] E0 (tCons (tVar 1) tNil))) rfl sc_test_nodes.nd (pi_tup (pe_slice sl_tup (pv 0) (po_some pe_int) po_none)) (blkOk_by (own := [("inner", 1), ("node", 2)]) (N := ["test", "inner", "node"]) (sc := defScope s_test_nodes) (by decide +kernel)) (by decide) (fun _ _ _ _ _ => (pg_name (i := 1) sc_test_nodes.nd rfl (Or.inl rfl))) (fun _ _ _ _ _ => pts_nil) (fun _ _ _ _ _ => pi_list (pe_c c_test_nodes hr (by first | decide | omega) rfl (pa_cons (pv 1) pa_nil))) (fun _ _ _ _ _ => (pg_name (i := 2) sc_test_nodes.nd rfl (Or.inl rfl))) (fun _ _ _ _ _ => pts_nil) (fun _ _ _ _ _ => (pv 2)))))), ?_⟩
    rintro Γ R ⟨g, rfl, hN, hl, rfl⟩ _
    show SW _ [.sh (tgD g), .un, .un] _
    have rest : ∀ (ww : Str) (us : List Tg), tgD g = .tup (.str ww :: us.map tgD) → ww ≠ ("some" : Str) → ww ≠ ("all" : Str) → us.length < 1000 → (∀ u ∈ us, tgL u ≤ N ∧ (tgN u).length ≤ 1000) → tgN g = us.flatMap tgN →
        SW (tSeq (tIfS (tOr (tTest (tOp rEq (tOp (rIxT K) (tVar 0) (tC (.int 0))) (tC (.str "some")))) (tTest (tOp rEq (tOp (rIxT K) (tVar 0) (tC (.int 0))) (tC (.str "all"))))) (tRet (tLst (tCons (tOp (rIxT K) (tVar 0) (tC (.int 1))) tNil))) tNext)
          (tRet (tLc2 (iTup K (tSl (rSlT K) (tVar 0) (tPart (tC (.int 1))) tNoPart)) (gName 1) tYes (iList K (tCall (spE (C_tn N)) [] E0 (tCons (tVar 1) tNil))) (gName 2) tYes (tVar 2) [1, 2] [2]))) [.sh (tgD g), .un, .un] ⟨fun Γ' => (fun d (_ : List En) => d = D.lst (iD (tgN g))) .non (outG [.sh (tgD g)] Γ') ∧ lentOk [.sh (tgD g)] Γ', fun d Γ' => (fun d (_ : List En) => d = D.lst (iD (tgN g))) d (outG [.sh (tgD g)] Γ') ∧ lentOk [.sh (tgD g)] Γ', fun _ => False, fun _ => False⟩ := fun ww us e n1 n2 lu hu en => by
      rw [e]
      refine sw_guard (b := false) (et_or (a := false) ((et_test (ep_op (x := .str ww) (ep_op (ep_var rfl) ep_int (rd_ixT (atI_nat (j := 0) rfl))) ep_str rd_eqS)).cast (decide_eq_false n1)) fun _ => (et_test (ep_op (x := .str ww) (ep_op (ep_var rfl) ep_int (rd_ixT (atI_nat (j := 0) rfl))) ep_str rd_eqS)).cast (decide_eq_false n2)) (fun z => absurd z Bool.false_ne_true) fun _ => ?_
      have e2 : two (fun _ => true) tgN (fun _ (x : Nat) => some (D.int (x : Nat))) us = iD (tgN g) := by
        unfold two iD
        rw [en, List.filter_eq_self.mpr (fun _ _ => rfl), List.map_flatMap]
        refine congrArg List.flatten (List.map_congr_left fun u _ => ?_)
        rw [List.filterMap_eq_map']
      refine sw_ret (d := .lst (iD (tgN g))) (EvF.p (EvF.cast (ef_lc2 us tgD (fun _ => true) tgN (fun (x : Nat) => D.int (x : Nat)) (fun _ x => some (D.int (x : Nat))) (wi_tup (ep_tupFrom (x := .str ww) (ep_var rfl))) (by rw [e2]; unfold iD; rw [List.length_map, sizeLine_eq]; omega) fun u hu' => ⟨_, gv_name (by simp), ?_, et_yes, fun _ => ⟨wi_list (ep_call (z := .lst (iD (tgN u))) (ea_cons (ep_var rfl) ea_nil) ⟨u, rfl, (hu u hu').1, (hu u hu').2, rfl⟩ fun e _ h => h), fun y hy => ⟨_, gv_name (by simp), et_yes, fun e he => ?_⟩⟩⟩) e2)) ⟨rfl, trivial⟩
      · intro j e hj m
        match j, hj with
        | 0, hj => cases hj; cases m
        | 1, hj => cases hj; cases m
        | 2, hj => cases hj; cases m
        | j + 3, hj => cases hj
      · cases he; exact ep_var rfl
    cases g with
    | leaf ww x sg m =>
      refine sw_guard (b := true) ((et_or (et_test (ep_op (ep_op (ep_var rfl) ep_int (rd_ixT rfl)) ep_str rd_eqS)) fun _ => et_test (ep_op (ep_op (ep_var rfl) ep_int (rd_ixT rfl)) ep_str rd_eqS)).cast (by cases ww <;> decide +kernel)) (fun _ => ?_) (fun z => by cases z)
      exact sw_ret (d := .lst (iD [x])) (EvF.p (ef_lst (ea_cons (ep_op (ep_var rfl) ep_int (rd_ixT rfl)) ea_nil) (by show 1 ≤ sizeLine; decide))) ⟨rfl, trivial⟩
    | nt b =>
      have hb : tgL b ≤ N := Nat.le_of_succ_le_succ hN
      exact rest "not" [b] rfl (by decide +kernel) (by decide +kernel) (by show 1 < 1000; decide) (fun u hu => by rw [List.mem_singleton.mp hu]; exact ⟨hb, hl⟩) (by simp [tgN])
    | two ww a b =>
      have hb : max (tgL a) (tgL b) ≤ N := Nat.le_of_succ_le_succ hN
      have hl' : (tgN a).length + (tgN b).length ≤ 1000 := by
        have : (tgN a ++ tgN b).length ≤ 1000 := hl
        rwa [List.length_append] at this
      exact rest (if ww then "either" else "both") [a, b] rfl (by cases ww <;> decide +kernel) (by cases ww <;> decide +kernel) (by show 2 < 1000; decide) (fun u hu => by
        rcases List.mem_cons.mp hu with e | e
        · subst e; exact ⟨by omega, by omega⟩
        · rw [List.mem_singleton.mp e]; exact ⟨by omega, by omega⟩) (by simp [tgN])
/-- the nodes of an ask's tests -/
def asT : As → List Int
  | .one _ _ => []
  | .wh _ g a => (tgN g).map (fun (x : Nat) => (x : Int)) ++ asT a
/-- the ask within all others -/
def asE : As → Str × Int
  | .one w x => (w, x)
  | .wh _ _ a => asE a
theorem okA_e {t : Tr} : ∀ {a : As}, okA t a → okW t (asE a).1 (asE a).2
  | .one _ _, h => h
  | .wh _ _ a, h => okA_e (a := a) h.2.2.2.2.2
def needL (t : Tr) (a : As) : List Int := addK ((asT a).foldl addK [-1]) (ndd t (asE a).1 (asE a).2)
theorem fold_len : ∀ (l k : List Int), (l.foldl addK k).length ≤ k.length + l.length
  | [], k => Nat.le_refl _
  | x :: l, k => by
    have h1 := fold_len l (addK k x)
    have h2 := addK_len (ks := k) (n := x)
    show (l.foldl addK (addK k x)).length ≤ k.length + (l.length + 1)
    omega
theorem fold_mem {k : Int} : ∀ (l m : List Int), k ∈ l.foldl addK m ↔ k ∈ m ∨ k ∈ l
  | [], m => by simp
  | x :: l, m => by
    show k ∈ l.foldl addK (addK m x) ↔ _
    rw [fold_mem l, addK_mem, List.mem_cons]
    constructor
    · rintro ((h | h) | h)
      · exact .inl h
      · exact .inr (.inl h)
      · exact .inr (.inr h)
    · rintro (h | h | h)
      · exact .inl (.inl h)
      · exact .inl (.inr h)
      · exact .inr h
theorem fold_nd : ∀ (l m : List Int), m.Nodup → (l.foldl addK m).Nodup
  | [], m, h => h
  | x :: l, m, h => fold_nd l (addK m x) (addK_nd h)
theorem needL_mem {t : Tr} {a : As} {k : Int} : k ∈ needL t a ↔ k = -1 ∨ k ∈ asT a ∨ k = ndd t (asE a).1 (asE a).2 := by
  unfold needL
  rw [addK_mem, fold_mem, List.mem_singleton, or_assoc]
theorem needL_nd (t : Tr) (a : As) : (needL t a).Nodup := addK_nd (fold_nd _ _ (by decide))
theorem needL_len (t : Tr) (a : As) : (needL t a).length ≤ (asT a).length + 2 := by
  have h1 := addK_len (ks := (asT a).foldl addK [-1]) (n := ndd t (asE a).1 (asE a).2)
  have h2 := fold_len (asT a) [-1]
  unfold needL
  simp only [List.length_singleton] at h2
  omega
def C_needs (CS : Addr) : Cn := fun Γ R => ∃ (t : Tr) (a : As), Γ = [.sh (schD CS t), .sh (asD a)] ∧ okA t a ∧ (asT a).length ≤ 50 ∧ sz t ≤ 40 ∧ R = fun d _ => d = dkD (needL t a)
def C_ca (CS : Addr) : Cn := fun Γ R => ∃ (t : Tr) (a : As), Γ = [.sh (schD CS t), .sh (asD a)] ∧ okA t a ∧ asL a ≤ 4 ∧ sz t ≤ 40 ∧ R = fun d _ => d = .non
def C_no (CS : Addr) : CnF := fun es Rl => ∃ (t : Tr) (a : As), es = [schD CS t, asD a] ∧ okA t a ∧ asL a ≤ 4 ∧ (asT a).length ≤ 50 ∧ sz t ≤ 40 ∧ Rl = fun ds => ds = iI (ascI (needL t a))
theorem ok_needs (T : Tx mg) (c_test_nodes : Cal P w K mg base 21 "test_nodes" (spE (C_tn 20))) (c__needed_node : Cal P w K mg base 3 "_needed_node" (spE (C_nn CS))) (F : FnP K "_needs" s__needs f fd) : FnOk P w K mg base CX0 22 f fd ["schema", "ask"] (spE (C_needs CS)) := by
  refine fn_ok F sc__needs (fun Γ R ⟨t, a, h, _⟩ => by subst h; rfl) fun cdv A outer s H E hr => ⟨_, (pss_cons (ps_set (i := 2) sc__needs.nd rfl (by first | exact Or.inl rfl | exact Or.inr rfl) (pe_disp (pps_cons (pe_un un_neg pe_int) pe_bl pps_nil) (by rfl) (by rfl) (fun z => by cases z) (by decide)))
      (pss_cons (ps_set (i := 3) sc__needs.nd rfl (by first | exact Or.inl rfl | exact Or.inr rfl) (pv 1))
      (pss_cons (ps_while PassesOwn.never (pt_cmpR op_eq (pe_ix ix_tup (pv 3) pe_int (fun _ _ => rfl)) pe_str (nomark _)) (pss_cons (ps_for PassesOwn.never rfl (pi_list (pe_c c_test_nodes hr (by first | decide | omega) rfl (pa_cons (pe_ix ix_tup (pv 3) pe_int (fun _ _ => rfl)) pa_nil))) (pg_name (i := 4) sc__needs.nd rfl (by first | exact Or.inl rfl | exact Or.inr rfl)) (pss_one (ps_dput (hu_of hr) (pv 2) (pv 4) pe_bl rfl)))
      (pss_one (ps_set (i := 3) sc__needs.nd rfl (by first | exact Or.inl rfl | exact Or.inr rfl) (pe_ix ix_tup (pv 3) pe_int (fun _ _ => rfl))))))
      (pss_cons (ps_dput (hu_of hr) (pv 2) (pe_c c__needed_node hr (by first | decide | omega) rfl (pa_cons (pv 0) (pa_cons (pv 3) pa_nil))) pe_bl rfl)
      (pss_one (ps_ret (pv 2))))))), ?_⟩
  rintro Γ R ⟨t, b0, rfl, ok, hl, h40, rfl⟩ _
  show SW _ [.sh (schD CS t), .sh (asD b0), .un, .un, .un] _
  refine sw_mkD (ks := [-1]) (fun j e he => ?_) (ev_disp1 (ep_un (x := .int 1) ep_int rc_neg) ep_bl) fun a => ?_
  · match j, he with
    | 0, he | 1, he | 2, he | 3, he | 4, he => cases he; rfl
    | j + 5, he => cases he
  show SY (cellD a) _ [.sh (schD CS t), .sh (asD b0), .sh (.ref a), .un, .un] [-1] _
  refine qy_asgP (d := asD b0) (ep_var rfl) ?_
  show SY (cellD a) _ [.sh (schD CS t), .sh (asD b0), .sh (.ref a), .sh (asD b0), .un] [-1] _
  refine SY.seq (M := fun Γ' ks => ∃ e4, Γ' = [.sh (schD CS t), .sh (asD b0), .sh (.ref a), .sh (.tup [.str (asE b0).1, .int (asE b0).2]), e4] ∧ ks = (asT b0).foldl addK [-1])
    (sy_while (fun m Γ' ks => ∃ (b : As) (e4 : En) (pre : List Int), m = asL b ∧ Γ' = [.sh (schD CS t), .sh (asD b0), .sh (.ref a), .sh (asD b), e4] ∧ okA t b ∧ asE b = asE b0 ∧ pre ++ asT b = asT b0 ∧ ks = pre.foldl addK [-1]) (asL b0) ⟨b0, .un, [], rfl, rfl, ok, rfl, rfl, rfl⟩ ?_) ?_
  · rintro m _ _ ⟨b, e4, pre, rfl, rfl, okb, eb, ep, rfl⟩
    cases b with
    | one ww x =>
      refine ⟨fun v k' => v = false ∧ k' = pre.foldl addK [-1], ety_p ((et_test (ep_op (x := .str ww) (ep_op (ep_var rfl) ep_int (rd_ixT rfl)) ep_str rd_eqS)).cast (decide_eq_false (okW_ne okb))) ⟨rfl, rfl⟩, fun k2 ⟨h, _⟩ => (nomatch h), fun k2 ⟨_, h⟩ => ⟨e4, ?_, ?_⟩⟩
      · rw [← eb]; rfl
      · rw [h, ← ep]; show _ = List.foldl addK [-1] (pre ++ []); rw [List.append_nil]
    | wh sp g c =>
      obtain ⟨p0, p1, hk, hg, hb, okc⟩ := okb
      have elen : pre.length + ((tgN g).length + (asT c).length) ≤ 50 := by
        have := congrArg List.length ep
        rw [List.length_append] at this
        have e2 : (asT (.wh sp g c)).length = (tgN g).length + (asT c).length := by show ((tgN g).map _ ++ asT c).length = _; rw [List.length_append, List.length_map]
        omega
      refine ⟨fun v k' => v = true ∧ k' = pre.foldl addK [-1], ety_p ((et_test (ep_op (x := .str "where") (ep_op (ep_var rfl) ep_int (rd_ixT rfl)) ep_str rd_eqS)).cast (decide_eq_true rfl)) ⟨rfl, rfl⟩, fun k2 ⟨_, h⟩ => ?_, fun k2 ⟨h, _⟩ => (nomatch h)⟩
      subst h
      refine SY.seq (M := fun Γ' ks => ∃ e4, Γ' = [.sh (schD CS t), .sh (asD b0), .sh (.ref a), .sh (asD (.wh sp g c)), e4] ∧ ks = (pre ++ (tgN g).map fun (x : Nat) => (x : Int)).foldl addK [-1])
        (sy_for (fun xs i Γ' ks => xs = iD (tgN g) ∧ ∃ e4, Γ' = [.sh (schD CS t), .sh (asD b0), .sh (.ref a), .sh (asD (.wh sp g c)), e4] ∧ ks = (pre ++ ((tgN g).take i).map fun (x : Nat) => (x : Int)).foldl addK [-1]) (wiy_p (wi_list (ep_call (z := .lst (iD (tgN g))) (ea_cons (x := tgD g) (ep_op (ep_var rfl) ep_int (rd_ixT rfl)) ea_nil) ⟨g, rfl, hg, by omega, rfl⟩ fun e _ h => h)) ⟨rfl, e4, rfl, by simp⟩) ?_ ?_) ?_
      · rintro xs i d _ _ hd ⟨rfl, e4, rfl, rfl⟩
        have hi : i < (tgN g).length := by
          have := (List.getElem?_eq_some_iff.mp hd).1
          unfold iD at this
          rwa [List.length_map] at this
        have ed : d = .int ((tgN g)[i] : Nat) := by
          unfold iD at hd
          rw [List.getElem?_map, List.getElem?_eq_getElem hi] at hd
          exact (Option.some.inj hd).symm
        subst ed
        refine ⟨_, gty_name, ?_⟩
        show SY (cellD a) _ [.sh (schD CS t), .sh (asD b0), .sh (.ref a), .sh (asD (.wh sp g c)), .sh (.int ((tgN g)[i] : Nat))] _ _
        refine sy_dput rfl ep_bl (ep_var rfl) ?_ ⟨rfl, _, rfl, ?_⟩
        · have h1 := fold_len (pre ++ ((tgN g).take i).map fun (x : Nat) => (x : Int)) [-1]
          rw [List.length_append, List.length_map, List.length_take] at h1
          simp only [List.length_singleton] at h1
          rw [sizeLine_eq]; omega
        · rw [List.take_succ, List.getElem?_eq_getElem hi, List.map_append, ← List.append_assoc, List.foldl_append (l' := List.map _ (some (tgN g)[i]).toList)]; rfl
      · rintro xs Γ' ks ⟨rfl, e4, rfl, rfl⟩
        refine ⟨e4, rfl, ?_⟩
        unfold iD
        rw [List.length_map, List.take_length]
      rintro _ _ ⟨e4, rfl, rfl⟩
      refine sy_asg (R := fun d k' => d = asD c ∧ k' = (pre ++ (tgN g).map fun (x : Nat) => (x : Int)).foldl addK [-1]) (ey_p (ep_op (ep_var rfl) ep_int (rd_ixT rfl)) ⟨rfl, rfl⟩) fun d k' ⟨e1, e2⟩ => ?_
      subst e1 e2
      exact ⟨asL c, Nat.lt_succ_self _, c, e4, _, rfl, rfl, okc, eb, by rw [← ep]; show _ = pre ++ ((tgN g).map _ ++ asT c); rw [List.append_assoc], rfl⟩
  rintro _ _ ⟨e4, rfl, rfl⟩
  refine SY.seq (M := fun Γ' ks => Γ' = [.sh (schD CS t), .sh (asD b0), .sh (.ref a), .sh (.tup [.str (asE b0).1, .int (asE b0).2]), e4] ∧ ks = needL t b0) (sy_dput (n := ndd t (asE b0).1 (asE b0).2) rfl ep_bl (ep_call (ea_cons (x := schD CS t) (ep_var rfl) (ea_cons (x := .tup [.str (asE b0).1, .int (asE b0).2]) (ep_var rfl) ea_nil)) ⟨t, _, _, rfl, okA_e ok, h40, rfl⟩ fun e _ h => h) ?_ ⟨rfl, rfl⟩) ?_
  · have h1 := fold_len (asT b0) [-1]
    simp only [List.length_singleton] at h1
    rw [sizeLine_eq]; omega
  rintro _ _ ⟨rfl, rfl⟩
  exact sy_retP (d := .ref a) (ep_var rfl) ⟨rfl, rfl, trivial⟩
theorem ok_ca (T : Tx mg) {es3 : Array DictEntry} {n3 : Nat} (FX : Fx K w mg sw es3 n3) (c__is_ask : Cal P w K mg base 29 "_is_ask" (spE (C_ask CS 4))) (F : FnP K "check_ask" s_check_ask f fd) : FnOk P w K mg base CX0 30 f fd ["schema", "ask"] (spE (C_ca CS)) := by
  refine fn_ok F sc_check_ask (fun Γ R ⟨t, a, h, _⟩ => by subst h; rfl) fun cdv A outer s H E hr => ⟨_, (pss_one (ps_if (pt_not (pt_val (pe_c c__is_ask hr (by first | decide | omega) rfl (pa_cons (pv 0) (pa_cons (pv 1) (pa_cons (pe_gc rfl FX.deep) pa_nil)))))) (pss_one ps_never) pss_nil)), ?_⟩
  rintro Γ R ⟨t, a, rfl, ok, hL, h40, rfl⟩ _
  show SW _ [.sh (schD CS t), .sh (asD a)] _
  exact sw_if (b := false) (et_not (a := true) (et_test (ep_call (z := .bl true) (ea_cons (x := schD CS t) (ep_var rfl) (ea_cons (x := asD a) (ep_var rfl) (ea_cons (x := .int ((20 : Nat) : Int)) ep_int ea_nil))) ⟨t, a, 20, rfl, by omega, hL, ok, h40, rfl⟩ fun e _ h => h))) (fun z => absurd z Bool.false_ne_true) fun _ => sw_next ⟨rfl, trivial⟩
theorem ok_no (T : Tx mg) (c_check_ask : Cal P w K mg base 30 "check_ask" (spE (C_ca CS))) (c__needs : Cal P w K mg base 22 "_needs" (spE (C_needs CS))) (F : FnP K "needs_of" s_needs_of f fd) : FnOk P w K mg base CX0 31 f fd ["schema", "ask"] (spF (C_no CS)) := by
  refine fn_okF F sc_needs_of (fun es R ⟨t, a, h, _⟩ => by subst h; rfl) fun cdv A outer s H E hr => ⟨_, _, (pss_cons (ps_expr (pe_c c_check_ask hr (by first | decide | omega) rfl (pa_cons (pv 0) (pa_cons (pv 1) pa_nil))))
      (pss_one (ps_ret (pe_callB (cr_sortDI rfl) rfl T.z_sorted (by decide +kernel) (pa_cons (pe_c c__needs hr (by first | decide | omega) rfl (pa_cons (pv 0) (pa_cons (pv 1) pa_nil))) pa_nil))))), ?_⟩
  rintro es R ⟨t, a, rfl, ok, hL, hl, h40, rfl⟩
  refine ⟨fun Γ' => Γ' = [.sh (schD CS t), .sh (asD a)], sw_drop (d := .non) (ep_call (ea_cons (x := schD CS t) (ep_var rfl) (ea_cons (x := asD a) (ep_var rfl) ea_nil)) ⟨t, a, rfl, ok, hL, h40, rfl⟩ fun e _ h => h) rfl, ?_⟩
  rintro _ rfl
  have hz := needL_len t a
  exact EvF.r (ef_cb (ea_cons (x := dkD (needL t a)) (ep_call (ea_cons (x := schD CS t) (ep_var rfl) (ea_cons (x := asD a) (ep_var rfl) ea_nil)) ⟨t, a, rfl, ok, hl, h40, rfl⟩ fun e _ h => h) ea_nil) (rcf_sortD (needL_nd t a) (by omega))) rfl
end
end Lw
set_option Elab.async false
set_option linter.all false
set_option maxRecDepth 100000
set_option maxHeartbeats 4000000
/-! T13a: asks are shown; trees within the limits. -/
namespace DL
open PySem PySem.Spec PyProof.Rows L2
theorem Sm.tup {B k : Nat} {ds : List PyData} (h2 : 2 ≤ ds.length) (h : ∀ d ∈ ds, Sm B k d) : Sm (2 + ds.length * (B + 2)) (k + 1) (.tuple ds) := by
  obtain ⟨h1, h3, h4, h5, h6⟩ := sm_all h
  refine ⟨by simp only [PyData.showable, h1], by simp only [PyData.hasDict, h3], ?_, by simp only [PyData.depth]; omega⟩
  show (tupleText (PyData.shownAll ds)).length ≤ _
  have hl : (PyData.shownAll ds).length = ds.length := h6
  have hp : ∀ ts : List Str, (∀ t ∈ ts, t.length ≤ B) → piled ts ≤ ts.length * (B + 2) := by
    intro ts
    induction ts with
    | nil => intro _; exact Nat.zero_le _
    | cons t ts ih =>
      intro q
      have a := ih fun x hx => q x (List.mem_cons_of_mem _ hx)
      have b := q t List.mem_cons_self
      have e : piled (t :: ts) = t.length + 2 + piled ts := by simp [piled]
      rw [e, List.length_cons, Nat.add_mul]; omega
  have c := hp _ h5
  rw [hl] at c
  unfold tupleText
  have n1 : ((PyData.shownAll ds).length == 1) = false := by rw [hl]; exact beq_eq_false_iff_ne.mpr (by omega)
  rw [n1, if_neg Bool.false_ne_true, Str.length_append, Str.length_append]
  have j := join_length_add (PyData.shownAll ds) (fun z => by rw [z] at hl; simp at hl; omega)
  have e1 : ("(" : Str).length = 1 := by decide
  have e2 : (Str.ofString ")").length = 1 := by decide
  show ("(" : Str).length + (Str.join ", " (PyData.shownAll ds)).length + (Str.ofString ")").length ≤ _
  omega
/-- a scalar, or a test, of what a body's own list lies beside -/
theorem ep_view {Γ : List En} {te : TE} {d : D} {ds : List D} {i : Nat} {v0 : V} (h : Γ[i]? = some (.own ds)) (hd : scalD d = some v0) (he : EvP te (Γ.set i (.sh (.lst ds))) d) : EvP te Γ d := fun c F H σ G Q k => by
  obtain ⟨F1, x1, G1⟩ := G.freezeSlot h
  refine he c F1 H σ G1 Q fun v F' H' S r => ?_
  rw [scalD_rep hd r]
  exact k v0 F H' ⟨Ex.refl F, S.h, x1.trans (S.f.trans S.fh), fun _ e => .inl e⟩ (rep_scalD hd)
theorem et_view {Γ : List En} {tt : TT} {b : Bool} {ds : List D} {i : Nat} (h : Γ[i]? = some (.own ds)) (he : EtP tt (Γ.set i (.sh (.lst ds))) b) : EtP tt Γ b := fun c F H σ G Q k => by
  obtain ⟨F1, x1, G1⟩ := G.freezeSlot h
  exact he c F1 H σ G1 Q fun F' H' S => k F H' ⟨Ex.refl F, S.h, x1.trans (S.f.trans S.fh), fun _ e => .inl e⟩
end DL
namespace Lw
open PySem PySem.Spec PyProof.Rows L2 DL
def pyG : Tg → PyData
  | .leaf w x s m => .tuple [.str (if w then "all" else "some"), .int (x : Nat), .str (sgD s), .int ((m % 9 : Nat) : Int)]
  | .nt b => .tuple [.str "not", pyG b]
  | .two w a b => .tuple [.str (if w then "either" else "both"), pyG a, pyG b]
theorem pyD_g : ∀ g : Tg, pyD (tgD g) = some (pyG g)
  | .leaf w x s m => rfl
  | .nt b => by
    show (pyDs [.str "not", tgD b]).map PyData.tuple = _
    simp only [pyDs, pyD, pyD_g b]; rfl
  | .two w a b => by
    show (pyDs [.str (if w then "either" else "both"), tgD a, tgD b]).map PyData.tuple = _
    simp only [pyDs, pyD, pyD_g a, pyD_g b]; rfl
def pyA : As → PyData
  | .one w x => .tuple [.str w, .int x]
  | .wh s g a => .tuple [.str "where", .int s, pyG g, pyA a]
theorem pyD_a : ∀ a : As, pyD (asD a) = some (pyA a)
  | .one w x => rfl
  | .wh s g a => by
    show (pyDs [.str "where", .int s, tgD g, asD a]).map PyData.tuple = _
    simp only [pyDs, pyD, pyD_g g, pyD_a a]; rfl
def GB : Nat → Nat
  | 0 => 60
  | k + 1 => 3 * GB k + 8
theorem GB_pos : ∀ k, 60 ≤ GB k
  | 0 => Nat.le_refl _
  | k + 1 => by have := GB_pos k; show 60 ≤ 3 * GB k + 8; omega
theorem GB_mono {k j : Nat} (h : k ≤ j) : GB k ≤ GB j := by
  induction h with
  | refl => exact Nat.le_refl _
  | step _ ih => exact Nat.le_trans ih (by show _ ≤ 3 * GB _ + 8; omega)
theorem sm_i : ∀ m : Nat, m < 42 → (PyData.showable (.int ((m : Nat) - 1 : Int)) = true ∧ (PyData.shown (.int ((m : Nat) - 1 : Int))).length ≤ 8) := by decide +kernel
theorem sm_iz {x : Int} (h0 : -1 ≤ x) (h1 : x < 41) : Sm 12 0 (.int x) := by
  obtain ⟨r1, r2⟩ := sm_i (x + 1).toNat (by omega)
  have e : (((x + 1).toNat : Nat) : Int) - 1 = x := by omega
  rw [e] at r1 r2
  exact ⟨r1, rfl, by omega, Nat.le_refl _⟩
theorem sm_sg (s : Nat) : Sm 12 0 (.str (sgD s)) := by
  have h : ∀ k : Nat, k < 3 → (PyData.shown (.str (⟨#[60 + k]⟩ : Str))).length ≤ 12 := by decide +kernel
  exact ⟨rfl, rfl, h _ (Nat.mod_lt _ (by decide)), Nat.le_refl _⟩
theorem sm_g : ∀ {g : Tg}, (∀ x ∈ tgN g, x < 40) → Sm (GB (tgL g)) (tgL g) (pyG g)
  | .leaf w x s m, h => by
    have hx := h x (by simp [tgN])
    refine (Sm.tup (B := 12) (k := 0) (ds := [.str (if w then "all" else "some"), .int (x : Nat), .str (sgD s), .int ((m % 9 : Nat) : Int)]) (by show 2 ≤ 4; decide) fun d hd => ?_).mono (by show 2 + 4 * 14 ≤ 3 * 60 + 8; decide) (Nat.le_refl _)
    simp only [List.mem_cons, List.not_mem_nil, or_false] at hd
    rcases hd with rfl | rfl | rfl | rfl
    · cases w <;> exact ⟨rfl, rfl, by decide +kernel, Nat.le_refl _⟩
    · exact sm_iz (by omega) (by omega)
    · exact sm_sg s
    · exact sm_iz (by omega) (by omega)
  | .nt b, h => by
    have ih := sm_g (g := b) h
    have p := GB_pos (tgL b)
    refine (Sm.tup (B := GB (tgL b)) (k := tgL b) (ds := [.str "not", pyG b]) (by show 2 ≤ 2; decide) fun d hd => ?_).mono (by show 2 + 2 * (GB (tgL b) + 2) ≤ 3 * GB (tgL b) + 8; omega) (Nat.le_refl _)
    simp only [List.mem_cons, List.not_mem_nil, or_false] at hd
    rcases hd with rfl | rfl
    · exact (show Sm 12 0 (.str "not") from ⟨rfl, rfl, by decide +kernel, Nat.le_refl _⟩).mono (by omega) (Nat.zero_le _)
    · exact ih
  | .two w a b, h => by
    have i1 := sm_g (g := a) fun x hx => h x (List.mem_append_left _ hx)
    have i2 := sm_g (g := b) fun x hx => h x (List.mem_append_right _ hx)
    have p := GB_pos (max (tgL a) (tgL b))
    refine (Sm.tup (B := GB (max (tgL a) (tgL b))) (k := max (tgL a) (tgL b)) (ds := [.str (if w then "either" else "both"), pyG a, pyG b]) (by show 2 ≤ 3; decide) fun d hd => ?_).mono (by show 2 + 3 * (GB (max (tgL a) (tgL b)) + 2) ≤ 3 * GB (max (tgL a) (tgL b)) + 8; omega) (Nat.le_refl _)
    simp only [List.mem_cons, List.not_mem_nil, or_false] at hd
    rcases hd with rfl | rfl | rfl
    · refine (show Sm 12 0 (.str (if w then "either" else "both")) from ?_).mono (by omega) (Nat.zero_le _)
      cases w <;> exact ⟨rfl, rfl, by decide +kernel, Nat.le_refl _⟩
    · exact i1.mono (GB_mono (Nat.le_max_left _ _)) (Nat.le_max_left _ _)
    · exact i2.mono (GB_mono (Nat.le_max_right _ _)) (Nat.le_max_right _ _)
def AB : Nat → Nat
  | 0 => 16000
  | k + 1 => 4 * AB k + 10
theorem AB_pos : ∀ k, 16000 ≤ AB k
  | 0 => Nat.le_refl _
  | k + 1 => by have := AB_pos k; show 16000 ≤ 4 * AB k + 10; omega
/-- the tests of an ask are low, their nodes few -/
def lowA : As → Prop
  | .one _ _ => True
  | .wh _ g a => tgL g ≤ 5 ∧ (∀ x ∈ tgN g, x < 40) ∧ lowA a
theorem sm_w {t : Tr} {w : Str} {x : Int} (h : okW t w x) : Sm 12 0 (.str w) := by
  obtain ⟨_, _, h | ⟨_, (⟨h | h | h | h, _⟩ | ⟨h, _⟩ | ⟨h, _⟩)⟩⟩ := h <;> subst h <;> exact ⟨rfl, rfl, by decide +kernel, Nat.le_refl _⟩
theorem sm_a {t : Tr} (h40 : sz t ≤ 40) : ∀ {a : As}, okA t a → lowA a → Sm (AB (asL a)) (asL a + 5) (pyA a)
  | .one w x, h, _ => by
    refine (Sm.tup (B := 12) (k := 0) (ds := [.str w, .int x]) (by show 2 ≤ 2; decide) fun d hd => ?_).mono (by show 2 + 2 * 14 ≤ 4 * 16000 + 10; decide) (by show 0 + 1 ≤ 1 + 5; decide)
    simp only [List.mem_cons, List.not_mem_nil, or_false] at hd
    rcases hd with rfl | rfl
    · exact sm_w h
    · exact sm_iz h.1 (by have := h.2.1; omega)
  | .wh s g a, h, ⟨l1, l2, l3⟩ => by
    have ih := sm_a h40 (a := a) h.2.2.2.2.2 l3
    have ig := (sm_g l2).mono (GB_mono l1) l1
    have p := AB_pos (asL a)
    have g5 : GB 5 ≤ 16000 := by decide
    refine (Sm.tup (B := AB (asL a)) (k := asL a + 5) (ds := [.str "where", .int s, pyG g, pyA a]) (by show 2 ≤ 4; decide) fun d hd => ?_).mono (by show 2 + 4 * (AB (asL a) + 2) ≤ 4 * AB (asL a) + 10; omega) (by show _ ≤ asL a + 1 + 5; omega)
    simp only [List.mem_cons, List.not_mem_nil, or_false] at hd
    rcases hd with rfl | rfl | rfl | rfl
    · exact (show Sm 12 0 (.str "where") from ⟨rfl, rfl, by decide +kernel, Nat.le_refl _⟩).mono (by omega) (Nat.zero_le _)
    · exact (sm_iz h.1 (by have := h.2.1; omega)).mono (by omega) (Nat.zero_le _)
    · exact ig.mono (by omega) (by omega)
    · exact ih
theorem rc_reprA {K : PySem.W.Frag} {t : Tr} {a : As} (h40 : sz t ≤ 40) (ok : okA t a) (lo : lowA a) (hl : asL a ≤ 4) : DL.RC (rReprL K) [asD a] (.str (pyA a).shown) := by
  have s := sm_a h40 ok lo
  have b4 : AB 4 ≤ sizeLine := by rw [sizeLine_eq]; decide
  have bm : AB (asL a) ≤ AB 4 := by
    rcases (show asL a = 0 ∨ asL a = 1 ∨ asL a = 2 ∨ asL a = 3 ∨ asL a = 4 by omega) with e | e | e | e | e <;> rw [e] <;> decide
  have l : (pyA a).shown.length ≤ sizeLine := Nat.le_trans s.ln (Nat.le_trans bm b4)
  have e := pyD_a a
  cases a with
  | one w x => exact rc_reprT e s.sh s.nd l (Nat.le_trans s.dp (by omega))
  | wh sp g b => exact rc_reprT e s.sh s.nd l (Nat.le_trans s.dp (by omega))
mutual
theorem sz_leR : ∀ (t : Tr), okr t → sz t ≤ lv t * (dp t + 1)
  | .v, _ => by simp [sz, lv, dp]
  | .o _ t, h => by
    have h1 := sz_leR t h
    have h2 := lvp t h
    show sz t + 1 ≤ lv t * (dp t + 1 + 1)
    rw [Nat.mul_add (lv t) (dp t + 1) 1]; omega
  | .r fs, h => by
    have h1 := szs_leR fs h.2.2.2
    have h3 := lvp (.r fs) h
    have h5 : lv (.r fs) = lvs fs := rfl
    show szs fs + 1 ≤ lvs fs * (dps fs + 1 + 1)
    rw [Nat.mul_add (lvs fs) (dps fs + 1) 1]; omega
theorem szs_leR : ∀ (fs : List (Str × Tr)), okrs fs → szs fs ≤ lvs fs * (dps fs + 1)
  | [], _ => by simp [szs]
  | (n, t) :: r, h => by
    have h1 := sz_leR t h.1
    have h2 := szs_leR r h.2
    have h4 : lv t * (dp t + 1) ≤ lv t * (max (dp t) (dps r) + 1) := Nat.mul_le_mul_left _ (by omega)
    have h5 : lvs r * (dps r + 1) ≤ lvs r * (max (dp t) (dps r) + 1) := Nat.mul_le_mul_left _ (by omega)
    show sz t + szs r ≤ (lv t + lvs r) * (max (dp t) (dps r) + 1)
    rw [Nat.add_mul]; omega
end
theorem lim_R {t : Tr} {m d : Nat} (h : okr t) (h1 : lv t ≤ m) (h2 : dp t ≤ d) (h3 : m * (d + 1) ≤ 34) (h4 : m ≤ 12) (h5 : d ≤ 20) (h6 : op t ≤ 8) : Lim t := by
  have s1 := sz_leR t h
  have s2 : lv t * (dp t + 1) ≤ m * (d + 1) := Nat.mul_le_mul h1 (by omega)
  have s3 := tx_szR t h
  exact ⟨h, by omega, by omega, by omega, by omega, h6⟩
end Lw
set_option Elab.async false
set_option linter.all false
set_option maxRecDepth 100000
set_option autoImplicit false
set_option maxHeartbeats 4000000
/-! T2a: a tree's def lent one older list and two new ones. -/
namespace DL
open PySem PySem.Spec PyProof.Rows L2
theorem ey_tree5 {C : CnY S5} {a : Addr} {Γ : List En} {k : S3} {i : Nat} {tl t1 t2 tm : TE} {x1 x2 : D} {m : Int} {R : D → S3 → Prop} {Rl : Int → S3 → Prop} (hi : Γ[i]? = some (.sh (.ref a))) (hl : EvFY (cell3 a) tl Γ k fun ds k' => ∃ l : Int, ds = [.int l] ∧ Rl l k')
    (h1 : EvP t1 Γ x1) (h2 : EvP t2 Γ x2) (hm : EvF tm Γ [.int m]) (hc : ∀ l k' b c, Rl l k' → ∃ R2 : D → S5 → Prop, C ⟨b, c, k', l, m⟩ [.ref b, x1, x2, .ref c] R2 ∧ ∀ d k5, R2 d k5 → R d k5.t) :
    EvY (cell3 a) (tCall (spY K5 C) [] E0 (tCons (tVar i) (tCons tl (tCons t1 (tCons t2 (tCons tm tNil)))))) Γ k R := fun c F H σ G Q q => by
  obtain ⟨v0, e0, r0⟩ := G.g.sh hi
  cases (show v0 = .ref a from r0)
  refine ⟨_, e0, hl c F H σ G _ fun b xs ds k1 F1 H1 hds G1 y1 L1 r1 => ?_⟩
  obtain ⟨l, el, hr⟩ := hds
  subst el
  obtain ⟨w1, _, rfl, rw1, rfl⟩ := r1
  cases (show w1 = .int l from rw1)
  refine h1 c F1 H1 σ G1.g _ fun v2 F2 H2 S2 r2 => h2 c F2 H2 σ (G1.step S2).g _ fun v3 F3 H3 S3 r3 => hm c F3 H3 σ ((G1.step S2).step S3).g _ fun p ys F4 H4 S4 np fp hp r4 => ?_
  obtain ⟨w4, _, rfl, rw4, rfl⟩ := r4
  cases (show w4 = .int m from rw4)
  have G3 := (G1.step S2).step S3
  have L3 := (L1.step S2).step S3
  have G4 := G3.step S4
  have L4 := L3.step S4
  have Lp := G3.loose S4 np fp hp
  have nb : b ≠ p := fun e => by
    have := L3.hp
    rw [e, np] at this; cases this
  have G5 : GY (cell5 a b p) c F4 H4 σ Γ ⟨b, p, k1, l, m⟩ := by
    refine ⟨G4.g, fun q e => ?_, fun q e => ?_, fun q e => ?_, rfl, rfl, fun e => L4.nz e.symm, fun e => Lp.nz e.symm, nb, G4.at_, L4.hp, Lp.hp⟩
    · rcases e with e | e | e
      · exact G4.ns q e
      · rw [e]; exact L4.np
      · rw [e]; exact Lp.np
    · rcases e with e | e | e
      · exact G4.f q e
      · rw [e]; exact L4.fp
      · rw [e]; exact Lp.fp
    · rcases e with e | e | e
      · exact G4.l q e
      · rw [e]; exact .inr L4.h0
      · rw [e]; exact .inr Lp.h0
  show spY K5 C ([.ref a, .ref b, v2, v3, .ref p] ++ []) H4 Q E0
  rw [List.append_nil]
  obtain ⟨R2, hC, hR⟩ := hc l k1 b p hr
  refine ⟨cell5 a b p, F4, _, [.ref b, x1, x2, .ref p], [.ref b, v2, v3, .ref p], R2, ⟨a, b, p, rfl⟩, rfl, G5.g.fh, G5.f, G5.at_, ⟨_, _, rfl, rfl, v2, _, rfl, (r2.mono S3.f).mono S4.f, v3, _, rfl, r3.mono S4.f, _, _, rfl, rfl, rfl⟩, hC, fun w d k5 F' H' hr' St hat r => ?_⟩
  have G6 := G5.call St hat
  exact q w d k5.t F' H' (hR d k5 hr') ⟨G6.g, fun q e => G6.ns q (.inl e), fun q e => G6.f q (.inl e), fun q e => G6.l q (.inl e), hat.2.2.2.2.2.1⟩ (y1.trans (S2.f.trans (S3.f.trans (S4.f.trans St.f)))) r
end DL
set_option Elab.async false
set_option linter.all false
set_option maxRecDepth 100000
set_option autoImplicit false
set_option maxHeartbeats 4000000
/-! Y4: a comprehension within a comprehension. -/
namespace DL
open PySem PySem.Spec PyProof.Rows L2
theorem lookup_rel {x : Str} {env : Env} : ∀ {ns : List (Str × NameKind)}, List.lookup x ns = some NameKind.cell ∨ List.lookup x ns = some NameKind.free →
    List.lookup x (ns.map fun y => match y with | (n, k) => if (k == NameKind.free && env.scope.kind == ScopeKind.function && env.kindOf n == some NameKind.cell) = true then (n, NameKind.cell) else (n, k)) = some NameKind.cell ∨
    List.lookup x (ns.map fun y => match y with | (n, k) => if (k == NameKind.free && env.scope.kind == ScopeKind.function && env.kindOf n == some NameKind.cell) = true then (n, NameKind.cell) else (n, k)) = some NameKind.free
  | [], h => by rcases h with h | h <;> cases h
  | (n, k) :: ns, h => by
    rw [List.map_cons]
    by_cases z : x = n
    · subst z
      rw [List.lookup_cons, beq_self_eq_true] at h
      have hk : k = NameKind.cell ∨ k = NameKind.free := h.imp (fun e => Option.some.inj e) fun e => Option.some.inj e
      dsimp only
      split
      · rw [List.lookup_cons, beq_self_eq_true]; exact .inl rfl
      · rw [List.lookup_cons, beq_self_eq_true]
        rcases hk with rfl | rfl
        · exact .inl rfl
        · exact .inr rfl
    · have z' : (x == n) = false := beq_eq_false_iff_ne.mpr z
      rw [List.lookup_cons, z'] at h
      dsimp only
      split
      · rw [List.lookup_cons, z']; exact lookup_rel h
      · rw [List.lookup_cons, z']; exact lookup_rel h
theorem blkOk_rel {N : List Str} {sc scope : Scope} {own : List (Str × Nat)} {env : Env} (h : BlkOk N sc scope own) : BlkOk N (relabel sc env) scope own :=
  ⟨h.kind, h.uniq, h.ix, fun y hy hk => lookup_rel (h.free y hy hk), h.own⟩
end DL
set_option Elab.async false
set_option linter.all false
set_option maxRecDepth 100000
set_option maxHeartbeats 4000000
namespace DL
open PySem PySem.Spec PyProof.Rows L2
theorem rd_ofF {r : R2} {x y : D} {zs : List D} (h : RDF r x y zs) : RD r x y (.lst zs) := fun F H vx vy e rx ry Q k => h F H vx vy e rx ry Q fun a xs F' H' S n nf e r =>
  k (.ref a) (upd F' a (.lst xs)) H' ⟨S.f.trans (Ex.new nf), S.h, fun b o q => by
    by_cases z : b = a
    · subst z; rw [upd_same] at q; cases q; exact e
    · rw [upd_ne z] at q; exact S.fh _ _ q, fun b q => by
    by_cases z : b = a
    · subst z; exact .inr n
    · rw [upd_ne z] at q; exact S.nw _ q⟩ ⟨a, xs, rfl, upd_same, r.mono (Ex.new nf)⟩
/-- what is pure, in a body that is lent a state (no list is held) -/
theorem sy_sw {S : Type} {z : Cl S} {t : TS} {Γ : List En} {k : S} {P : PoY S} (nm : ∀ (j : Nat) (e : En), Γ[j]? = some e → e.mut = false) (h : SW t Γ ⟨fun Γ' => P.nx Γ' k, fun d Γ' => P.rt d Γ' k, fun _ => False, fun _ => False⟩) : SY z t Γ k P := fun c F H σ G E e1 e2 => by
  have G0 : Good ⟨F, H, fun _ => none⟩ F H σ Γ := by
    refine ⟨Ex.refl F, G.g.fh, fun _ _ e _ => e, (fun p ⟨j, e⟩ => nomatch e), (fun p e => Or.inl e), G.g.len, fun i e he => ?_, G.g.dj⟩
    obtain ⟨v, h1, h2⟩ := G.g.en i e he
    refine ⟨v, h1, ?_⟩
    cases e with
    | un => trivial
    | sh d => exact h2
    | own ds => exact Bool.noConfusion (show true = false from nm i _ he)
    | lent ds => exact Bool.noConfusion (show true = false from nm i _ he)
  have back : ∀ {F' H' : Hp} {σ' : L2.St} {Γ' : List En}, Good ⟨F, H, fun _ => none⟩ F' H' σ' Γ' → Ex F F' → GY z c F' H' σ' Γ' k := fun {F' H' σ' Γ'} G' x => by
    have kp : ∀ p o, H p = some o → H' p = some o := fun p o e => G'.hh p o e fun ⟨_, y⟩ => by cases y
    have nf : ∀ {p : Addr} {o : HO}, H p = some o → F p = none → F' p = none := fun {p o} e f => by
      cases q : F' p with
      | none => rfl
      | some u =>
        rcases G'.nw p (by rw [q]; exact Option.some_ne_none _) with y | y
        · exact absurd f y
        · have y' : H p = none := y
          rw [e] at y'; cases y'
    refine ⟨⟨G.g.ff.trans x, G'.fh, fun p o e l => kp p o (G.g.hh p o e l), fun p l => (G.g.li p l).imp fun o e => kp p o e, fun p e => ?_, G'.len, fun i e he => ?_, G'.dj⟩, fun p m j e he me q => ?_, fun p m => ?_, G.l, z.loc H H' k (fun p m => ?_) G.at_⟩
    · rcases G'.nw p e with y | y
      · exact G.g.nw p y
      · exact .inr (G.g.fresh y)
    · obtain ⟨v, h1, h2⟩ := G'.en i e he
      refine ⟨v, h1, ?_⟩
      cases e with
      | un => trivial
      | sh d => exact h2
      | own ds =>
        obtain ⟨q, xs, e1, e2, e3, e4, e5⟩ := h2
        exact ⟨q, xs, e1, e2, e3, e4, G.g.fresh e5⟩
      | lent ds =>
        obtain ⟨q, xs, e1, e2, e3, e4, e5⟩ := h2
        cases e5
    · obtain ⟨o, eo⟩ := G.hs m
      obtain ⟨v, h1, h2⟩ := G'.en j e he
      cases e with
      | un => cases me
      | sh d => cases me
      | own ds =>
        obtain ⟨r, xs, e1, e2, e3, e4, e5⟩ := h2
        rw [q] at h1
        have : v = some (.ref p) := (Option.some.inj h1).symm
        rw [this] at e1
        cases e1
        have e5' : H p = none := e5
        rw [eo] at e5'; cases e5'
      | lent ds =>
        obtain ⟨r, xs, e1, e2, e3, e4, e5⟩ := h2
        cases e5
    · obtain ⟨o, eo⟩ := G.hs m
      exact nf eo (G.f p m)
    · obtain ⟨o, eo⟩ := G.hs m
      rw [eo, kp p o eo]
  exact h _ F H σ G0 E (fun Γ' F' H' σ' m G' x => e1 Γ' k F' H' σ' m (back G' x) x) (fun v d Γ' F' H' σ' m G' x r => e2 v d Γ' k F' H' σ' m (back G' x) x r) (fun _ _ _ _ y => y.elim) (fun _ _ _ _ y => y.elim)
/-- by names alone, such a def -/
theorem ef_callKF {C : CnF} {tk : TA} {Γ : List En} {es : List D} {Rl : List D → Prop} (ha : EaP tk Γ es) (hc : C es.reverse Rl) : EvFR (tCallK (spF C) gRV E0 tNil tk) Γ Rl := fun c F H σ G Q k => ha c F H σ G _ fun vs F1 H1 S1 r1 => by
  refine ⟨F1, es.reverse, Rl, S1.fh, r1.reverse, hc, fun a xs ds F' H' r S n f e q => k a xs ds F' H' r (S1.trans S) ?_ f e q⟩
  cases z : H a with
  | none => rfl
  | some o => rw [S1.h _ _ z] at n; cases n
theorem EvFR.f {Γ : List En} {Rl : List D → Prop} {te : TE} {ds : List D} (h : EvFR te Γ Rl) (hr : ∀ es, Rl es → es = ds) : EvF te Γ ds := fun c F H σ G Q k => h c F H σ G Q fun a xs es F' H' r S n f e q => by
  have z := hr es r
  subst z
  exact k a xs F' H' S n f e q
end DL
set_option Elab.async false
set_option linter.all false
set_option maxRecDepth 100000
set_option maxHeartbeats 4000000
namespace DL
open PySem PySem.Spec PyProof.Rows L2
theorem GY.wipe_un {S : Type} {z : Cl S} {c : Ct} {F H : Hp} {σ : L2.St} {Γ : List En} {k : S} (G : GY z c F H σ Γ k) : ∀ js : List Nat, GY z c F H σ (wipG Γ js) k
  | [] => G
  | j :: js => (G.wipe_un js).forget
/-- slots are forgotten at the end -/
theorem SY.fgt {S : Type} {z : Cl S} {t : TS} {Γ : List En} {k : S} {P : PoY S} (js : List Nat) (h : SY z t Γ k ⟨fun Γ' k' => P.nx (wipG Γ' js) k', P.rt⟩) : SY z t Γ k P := fun c F H σ G E e1 e2 =>
  h c F H σ G E (fun Γ' k' F' H' σ' n G' x => e1 _ k' F' H' σ' n (G'.wipe_un js) x) e2
end DL
namespace Lw
open PySem PySem.Spec PyProof.Rows L2 DL
theorem sc__law_right : FnScope ["tape", "tree", "given", "spots", "one", "turn", "wish", "due", "part", "spot", "told", "some", "kept", "found"] ["tape"] (defScope s__law_right) := ⟨rfl, rfl, rfl, by decide +kernel, rfl, by decide +kernel, by decide +kernel⟩
theorem ndd_rng {t : Tr} {w : Str} {x : Int} (h : okW t w x) : -1 ≤ ndd t w x ∧ ndd t w x < (sz t : Nat) := by
  obtain ⟨p0, p1, _⟩ := h
  have hz := sz_pos t
  unfold ndd
  split
  · split
    · omega
    · have hi : x.toNat < sz t := by omega
      rw [oab_eq (Lw.kd t) t 0 x.toNat (-1) hi fun y _ => by rw [Nat.zero_add]]
      unfold lastI
      cases e : (opl (Lw.kd t) (an t 0 x.toNat)).getLast? with
      | none => show -1 ≤ (-1 : Int) ∧ (-1 : Int) < _; omega
      | some y =>
        have m := List.mem_of_getLast? e
        have m2 : y ∈ an t 0 x.toNat := (List.mem_filter.mp m).1
        have := an_rng t 0 x.toNat hi y m2
        show -1 ≤ ((y : Nat) : Int) ∧ ((y : Nat) : Int) < _
        omega
  · exact ⟨p0, p1⟩
def C_right (CS : Addr) : CnY S3 := fun k es R => ∃ n : Nat, es = [] ∧ SpS k n ∧ n + 1700 ≤ 1000000000 ∧ R = fun d k' => d = .bl true ∧ SpS k' (n + 1700)
section
variable {P : Program} {w : World} {K : PySem.W.Frag} {mg : Str → Option Value} {base : Heap} {f : Addr} {fd : FuncData} {CS : Addr}
theorem ok_right (T : Tx mg) (c__law_next : Cal P w K mg base 1 "_law_next" (spY K3 C_next)) (c__law_tree : Cal P w K mg base 7 "_law_tree" (spY K5 (C_tree 5))) (c__law_text : Cal P w K mg base 8 "_law_text" (spE (C_text 7))) (c__law_all : Cal P w K mg base 8 "_law_all" (spE (C_all 7)))
    (c_Schema : C8.Mak P w K mg base 48 "Schema" CS (spMk CS (C_sch CS)) []) (c__law_wish : Cal P w K mg base 9 "_law_wish" (spY K3 C_wish)) (c__law_open_above : Cal P w K mg base 16 "_law_open_above" (spE (C_oab 7))) (c__law_test : Cal P w K mg base 12 "_law_test" (spY K3 (C_test 3)))
    (c_needs_of : Cal P w K mg base 31 "needs_of" (spF (C_no CS))) (ck_needs_of : CalK P w K mg base 31 "needs_of" ["ask", "schema"] (spF (C_no CS)))
    (F : FnP K "_law_right" s__law_right f fd) : FnG P w K mg base 50 f fd ["tape"] (spY K3 (C_right CS)) := by
  refine fn_okYG K3.two F sc__law_right (fun k es R ⟨n, h, _⟩ => by subst h; rfl) fun cdv A outer s H E hr hg => ⟨_, (pss_cons (ps_set (i := 1) sc__law_right.nd rfl (by first | exact Or.inl rfl | exact Or.inr rfl) (pe_c c__law_tree hr (by first | decide | omega) rfl (pa_cons (pv 0) (pa_cons (pe_lst (pa_cons (pe_c c__law_next hr (by first | decide | omega) rfl (pa_cons (pv 0) (pa_cons pe_int pa_nil))) pa_nil)) (pa_cons pe_int (pa_cons pe_int (pa_cons (pe_lst (pa_cons pe_int pa_nil)) pa_nil)))))))
      (pss_cons (ps_par (i := 2) (j := 3) rfl sc__law_right.nd rfl rfl (by decide) rfl rfl (pa_cons (C8.pe_mk c_Schema hr (by first | decide | omega) rfl (pa_cons (pe_c c__law_text hr (by first | decide | omega) rfl (pa_cons (pv 1) pa_nil)) pa_nil)) (pa_cons (pe_op op_cat (pe_lst (pa_cons (pe_un un_neg pe_int) pa_nil)) (pe_lc (own := [("one", 4)]) (g := (gName 4)) rfl sc__law_right.nd (pi_list (pe_c c__law_all hr (by first | decide | omega) rfl (pa_cons (pv 1) pa_nil))) (blkOk_by (own := [("one", 4)]) (N := ["tape", "tree", "given", "spots", "one", "turn", "wish", "due", "part", "spot", "told", "some", "kept", "found"]) (sc := defScope s__law_right) (by decide +kernel)) (fun _ _ _ _ _ => (pg_name (i := 4) sc__law_right.nd rfl (Or.inl rfl))) (fun _ _ _ _ _ => pts_one (pt_cmpR op_eq (pe_ix (show IxR _ (rIxT K) from ix_tup) (pv 4) pe_int (fun _ _ => rfl)) pe_str (nomark _))) (fun _ _ _ _ _ => (pe_ix (show IxR _ (rIxT K) from ix_tup) (pv 4) pe_int (fun _ _ => rfl))))) pa_nil)) (by rfl))
      (pss_cons (ps_for PassesOwn.never rfl (pi_range1 rfl T.z_range (pa_cons pe_int pa_nil)) (pg_name (i := 5) sc__law_right.nd rfl (by first | exact Or.inl rfl | exact Or.inr rfl)) (pss_cons (ps_set (i := 6) sc__law_right.nd rfl (by first | exact Or.inl rfl | exact Or.inr rfl) (pe_c c__law_wish hr (by first | decide | omega) rfl (pa_cons (pv 0) (pa_cons (pv 1) pa_nil))))
      (pss_cons (ps_set (i := 7) sc__law_right.nd rfl (by first | exact Or.inl rfl | exact Or.inr rfl) (pe_lst (pa_cons (pe_un un_neg pe_int) (pa_cons (pe_ix ix_tup (pv 6) pe_int (fun _ _ => rfl)) pa_nil))))
      (pss_cons (ps_if (PW.pt (pw_and (pt_cmpR op_eq (pe_ix ix_tup (pv 6) pe_int (fun _ _ => rfl)) pe_str (nomark _)) (pw_and1 (pt_cmpR op_ge (pe_ix ix_tup (pv 6) pe_int (fun _ _ => rfl)) pe_int (nomark _))))) (pss_one (ps_set (i := 7) sc__law_right.nd rfl (by first | exact Or.inl rfl | exact Or.inr rfl) (pe_lst (pa_cons (pe_un un_neg pe_int) (pa_cons (pe_c c__law_open_above hr (by first | decide | omega) rfl (pa_cons (pv 1) (pa_cons (pe_ix ix_tup (pv 6) pe_int (fun _ _ => rfl)) (pa_cons (pe_un un_neg pe_int) pa_nil)))) pa_nil))))) pss_nil)
      (pss_cons (ps_for PassesOwn.never rfl (pi_range1 rfl T.z_range (pa_cons (pe_c c__law_next hr (by first | decide | omega) rfl (pa_cons (pv 0) (pa_cons pe_int pa_nil))) pa_nil)) (pg_name (i := 8) sc__law_right.nd rfl (by first | exact Or.inl rfl | exact Or.inr rfl)) (pss_cons (ps_set (i := 9) sc__law_right.nd rfl (by first | exact Or.inl rfl | exact Or.inr rfl) (pe_ix ix_list (pv 3) (pe_c c__law_next hr (by first | decide | omega) rfl (pa_cons (pv 0) (pa_cons (pe_callB call_len_seq rfl T.z_len (by decide +kernel) (pa_cons (pv 3) pa_nil)) pa_nil))) (fun _ _ => rfl)))
      (pss_cons (ps_asg (pe_c c__law_test hr (by first | decide | omega) rfl (pa_cons (pv 0) (pa_cons (pv 1) (pa_cons (pv 9) (pa_cons pe_int pa_nil))))) (pg_tup rfl (pgs_cons (pg_name (i := 10) sc__law_right.nd rfl (by first | exact Or.inl rfl | exact Or.inr rfl)) (pgs_cons (pg_name (i := 11) sc__law_right.nd rfl (by first | exact Or.inl rfl | exact Or.inr rfl)) pgs_nil))))
      (pss_one (ps_par (i := 6) (j := 7) rfl sc__law_right.nd rfl rfl (by decide) rfl rfl (pa_cons (pe_tup (pa_cons pe_str (pa_cons (pv 9) (pa_cons (pv 10) (pa_cons (pv 6) pa_nil))))) (pa_cons (pe_op op_cat (pv 7) (pv 11)) pa_nil)) (by rfl))))))
      (pss_cons (ps_par (i := 7) (j := 12) rfl sc__law_right.nd rfl rfl (by decide) rfl rfl (pa_cons (pe_callB (cr_sortSet rfl) rfl T.z_sorted (by decide +kernel) (pa_cons (pe_callTy (cr_setL rfl) rfl T.z_set (by decide +kernel) (pa_cons (pv 7) pa_nil)) pa_nil)) (pa_cons (pe_callB (call_reprG hg hr) rfl T.z_repr (by decide +kernel) (pa_cons (pv 6) pa_nil)) pa_nil)) (by rfl))
      (pss_cons (ps_set (i := 13) sc__law_right.nd rfl (by first | exact Or.inl rfl | exact Or.inr rfl) (pe_c c_needs_of hr (by first | decide | omega) rfl (pa_cons (pv 2) (pa_cons (pv 6) pa_nil))))
      (pss_cons (ps_if (PW.pt (pw_or (pt_cmpR op_ne (pe_callB (call_reprG hg hr) rfl T.z_repr (by decide +kernel) (pa_cons (pe_lst (pa_cons (pv 13) (pa_cons (pe_ck0 ck_needs_of hr (by first | decide | omega) rfl (pk_cons (pv 6) (pk_cons (pv 2) pk_nil))) pa_nil))) pa_nil)) (pe_callB (call_reprG hg hr) rfl T.z_repr (by decide +kernel) (pa_cons (pe_lst (pa_cons (pv 7) (pa_cons (pv 7) pa_nil))) pa_nil)) (nomark _)) (pw_or1 (pt_cmpR op_ne (pe_callB (call_reprG hg hr) rfl T.z_repr (by decide +kernel) (pa_cons (pv 6) pa_nil)) (pv 12) (nomark _))))) (pss_one (ps_ret pe_bl)) pss_nil)
      (pss_cons (ps_expr (pe_bm PySem.F.plainAttrs_list PySem.F.slot_list_append PySem.F.type_list_append mt_append (pv 13) (pa_cons pe_non pa_nil)))
      (pss_one (ps_if (pt_cmpR (op_neD hr.units) (pe_c c_needs_of hr (by first | decide | omega) rfl (pa_cons (pv 2) (pa_cons (pv 6) pa_nil))) (pv 7) (nomark _)) (pss_one (ps_ret pe_bl)) pss_nil)))))))))))
      (pss_one (ps_ret pe_bl))))), ?_⟩
  rintro z k es R ⟨a, rfl⟩ ⟨n, rfl, hs, hn, rfl⟩
  show SY (cell3 a) _ [.sh (.ref a), .un, .un, .un, .un, .un, .un, .un, .un, .un, .un, .un, .un, .un] k _
  have hS4 : S 4 = 1706 - 600 := by decide
  refine qy_asg (R := fun d k' => ∃ t : Tr, d = trN t 0 ∧ SpS k' (n + 1107) ∧ lv t ≤ 6 ∧ dp t ≤ 4 ∧ op t ≤ 3 ∧ okr t) (ey_tree5 (Rl := fun l k' => 0 ≤ l ∧ l < 6 ∧ SpS k' (n + 1)) rfl (EvFY.imp (efy_lst1 (ey_next (R := fun d k' => ∃ r : Int, d = .int r ∧ 0 ≤ r ∧ r < 6 ∧ SpS k' (n + 1)) rfl (ea_cons ep_int ea_nil) hs (by omega) (by decide) (by decide) fun r k' g0 g1 h => ⟨r, rfl, g0, g1, h⟩)) fun ds k' ⟨d, e, r, er, q⟩ => ⟨r, by rw [e, er], q⟩) ep_int ep_int (ef_lst (ea_cons ep_int ea_nil) (by show 1 ≤ sizeLine; decide)) ?_) ?_
  · rintro l k' b c ⟨l0, l1, h1⟩
    refine ⟨_, ⟨n + 1, 3, 4, l.toNat, 0, rfl, h1, by omega, by decide, (by show l = ((l.toNat : Nat) : Int); omega), by omega, rfl, by omega, rfl⟩, ?_⟩
    rintro d k5 ⟨t, l', e, s1, _, _, _, _, q1, q2, q3, q4, _⟩
    exact ⟨t, e, by rw [hS4] at s1; exact s1.mono (by omega), by omega, q2, q3, q4⟩
  rintro _ k1 ⟨t, rfl, h1, v1, v2, v3, v4⟩
  have hL : Lim t := lim_R (m := 6) (d := 4) v4 v1 v2 (by decide) (by decide) (by decide) (by omega)
  have h40 := hL.nodes
  have hd7 : dp t < 7 := by omega
  have hz : sz t ≤ 1000 := by omega
  obtain ⟨sps, esps⟩ : ∃ l : List Int, l = -1 :: ((subs t 0).filter fun p => decide (kindT p.1 = ("list" : Str))).map fun p => ((p.2 : Nat) : Int) := ⟨_, rfl⟩
  have hsp : ∀ x ∈ sps, -1 ≤ x ∧ x < (sz t : Nat) ∧ (x = -1 ∨ 0 ≤ x ∧ (Lw.kd t)[x.toNat]? = some ("list" : Str)) := fun x hx => by
    rw [esps] at hx
    rcases List.mem_cons.mp hx with rfl | hx
    · have := sz_pos t
      exact ⟨by omega, by omega, .inl rfl⟩
    obtain ⟨p, hp, rfl⟩ := List.mem_map.mp hx
    obtain ⟨hp1, hp2⟩ := List.mem_filter.mp hp
    obtain ⟨i, hi, e⟩ := List.getElem_of_mem hp1
    rw [subs_len] at hi
    obtain ⟨u, m'⟩ := p
    obtain ⟨q1, q2, q3, _⟩ := sub_at t 0 i u m' (by rw [List.getElem?_eq_getElem (by rw [subs_len]; exact hi), e])
    have hk0 : (Lw.kd t)[i]? = some ("list" : Str) := by
      have e2 := congrArg (·[i]?) (subs_kd t 0)
      simp only [List.getElem?_map] at e2
      rw [List.getElem?_eq_getElem (by rw [subs_len]; exact hi), e] at e2
      have hp2 : kindT u = ("list" : Str) := of_decide_eq_true hp2
      rw [← e2]
      exact congrArg some hp2
    have em : m' = i := by omega
    subst em
    exact ⟨by show -1 ≤ ((m' : Nat) : Int); omega, by show ((m' : Nat) : Int) < _; omega, .inr ⟨by show 0 ≤ ((m' : Nat) : Int); omega, by show (Lw.kd t)[((m' : Nat) : Int).toNat]? = _; rw [Int.toNat_natCast]; exact hk0⟩⟩
  have hspl : sps.length ≤ 1001 ∧ 0 < sps.length := by
    rw [esps, List.length_cons, List.length_map]
    have := List.length_filter_le (fun p : Tr × Nat => decide (kindT p.1 = ("list" : Str))) (subs t 0)
    rw [subs_len] at this
    omega
  show SY (cell3 a) _ [.sh (.ref a), .sh (trN t 0), .un, .un, .un, .un, .un, .un, .un, .un, .un, .un, .un, .un] k1 _
  refine qy_parP (x := schD CS t) (y := .lst (iI sps)) (ep_make (ea_cons (x := .str (SX.S (tx t))) (ep_call (z := .str (SX.S (tx t))) (ea_cons (ep_var rfl) ea_nil) ⟨t, 0, rfl, v4, hd7, hz, rfl⟩ fun e _ h => h) ea_nil) ⟨t, rfl, hL, rfl⟩)
    (EvF.p (EvF.cast (ef_op (x := .lst [.int (-1)]) (EvF.p (ef_lst (ea_cons (ep_un (x := .int 1) ep_int rc_neg) ea_nil) (by show 1 ≤ sizeLine; decide))) (EvF.p (EvF.cast (ef_lc (subs t 0) (fun p => trN p.1 p.2) (fun p => if decide (kindT p.1 = ("list" : Str)) = true then some (.int (p.2 : Nat)) else none) (wi_list (ep_call (z := .lst (suD (subs t 0))) (ea_cons (ep_var rfl) ea_nil) ⟨t, 0, rfl, hd7, hz, rfl⟩ fun e _ h => h)) (by rw [subs_len, sizeLine_eq]; omega) fun p hp => ⟨_, gv_name (by simp), ?_, ?_⟩) (filterMap_if _ _ _))) (rdf_cat (by
      rw [List.length_map]
      have := List.length_filter_le (fun p : Tr × Nat => decide (kindT p.1 = ("list" : Str))) (subs t 0)
      rw [subs_len] at this
      rw [sizeLine_eq]
      show 1 + _ ≤ _
      omega))) (by rw [esps]; unfold iI; rw [List.map_cons, List.map_map]; rfl))) ?_
  · obtain ⟨c1, c2, e⟩ := trN_kind p.1 p.2
    rw [e]
    refine EtP.cast (et_test (ep_op (ep_op (ep_var rfl) ep_int (rd_ixT rfl)) ep_str rd_eqS)) ?_
    cases decide (kindT p.1 = ("list" : Str)) <;> rfl
  · intro e he
    split at he
    · cases he
      obtain ⟨c1, c2, e⟩ := trN_kind p.1 p.2
      rw [e]
      exact ep_op (ep_var rfl) ep_int (rd_ixT rfl)
    · cases he
  show SY (cell3 a) _ [.sh (.ref a), .sh (trN t 0), .sh (schD CS t), .sh (.lst (iI sps)), .un, .un, .un, .un, .un, .un, .un, .un, .un, .un] k1 _
  refine SY.seq (M := fun _ k' => SpS k' (n + 1700)) (sy_for (fun xs i Γ' k' => xs = rgD 0 6 ∧ Γ' = [.sh (.ref a), .sh (trN t 0), .sh (schD CS t), .sh (.lst (iI sps)), .un, .un, .un, .un, .un, .un, .un, .un, .un, .un] ∧ i ≤ 6 ∧ SpS k' (n + 1107 + 92 * i)) (wiy_p (wi_rng1 (n := 6) (ea_cons ep_int ea_nil) (by decide) (by decide)) ⟨rfl, rfl, Nat.zero_le _, h1⟩) ?_ ?_) fun Γ' k' h' => sy_retP ep_bl ⟨rfl, h'⟩
  · rintro xs i d _ ki hd ⟨rfl, rfl, hi, hk⟩
    have hil : i < 6 := by
      have := (List.getElem?_eq_some_iff.mp hd).1
      rw [rgD_len] at this; exact this
    refine ⟨_, gty_name, SY.fgt [5, 6, 7, 8, 9, 10, 11, 12, 13] ?_⟩
    show SY (cell3 a) _ [.sh (.ref a), .sh (trN t 0), .sh (schD CS t), .sh (.lst (iI sps)), .un, .sh d, .un, .un, .un, .un, .un, .un, .un, .un] ki _
    obtain ⟨m, em⟩ : ∃ m, m = n + 1107 + 92 * i := ⟨_, rfl⟩
    rw [← em] at hk
    refine qy_asg (R := fun d k' => ∃ (ww : Str) (x : Int), d = .tup [.str ww, .int x] ∧ okW t ww x ∧ SpS k' (m + 10)) (ey_call ⟨a, rfl⟩ rfl (ea_cons (ep_var rfl) ea_nil) ⟨t, m, rfl, hk, by omega, hd7, hz, rfl⟩) ?_
    rintro _ k2 ⟨ww, x, rfl, okw, h2⟩
    obtain ⟨p0, p1, _⟩ := id okw
    show SY (cell3 a) _ [.sh (.ref a), .sh (trN t 0), .sh (schD CS t), .sh (.lst (iI sps)), .un, .sh d, .sh (.tup [.str ww, .int x]), .un, .un, .un, .un, .un, .un, .un] k2 _
    refine qy_asgP (d := .lst (iI [-1, x])) (EvF.p (ef_lst (ea_cons (ep_un (x := .int 1) ep_int rc_neg) (ea_cons (ep_op (ep_var rfl) ep_int (rd_ixT rfl)) ea_nil)) (by show 2 ≤ sizeLine; decide))) ?_
    refine SY.seq (M := fun Γ' k' => Γ' = [.sh (.ref a), .sh (trN t 0), .sh (schD CS t), .sh (.lst (iI sps)), .un, .sh d, .sh (asD (.one ww x)), .sh (.lst (iI [-1, ndd t ww x])), .un, .un, .un, .un, .un, .un] ∧ k' = k2) (sy_if (v := decide (ww = ("count" : Str)) && decide (x ≥ 0)) (et_and (et_test (ep_op (ep_op (ep_var rfl) ep_int (rd_ixT rfl)) ep_str rd_eqS)) fun _ => et_test (ep_op (ep_op (ep_var rfl) ep_int (rd_ixT rfl)) ep_int rd_I0b)) (fun z => ?_) fun z => ?_) ?_
    · have z1 : ww = ("count" : Str) ∧ 0 ≤ x := by
        rw [Bool.and_eq_true, decide_eq_true_eq, decide_eq_true_eq] at z
        exact z
      have ed : ndd t ww x = oab t 0 x.toNat (-1) := by
        unfold ndd
        rw [if_pos z1.1, if_neg (by omega)]
      refine sy_asg (R := fun d k' => d = .lst (iI [-1, ndd t ww x]) ∧ k' = k2) (ey_p (EvF.p (ef_lst (ea_cons (ep_un (x := .int 1) ep_int rc_neg) (ea_cons (x := .int (ndd t ww x)) (ep_call (ea_cons (x := trN t 0) (ep_var rfl) (ea_cons (x := .int ((0 + x.toNat : Nat) : Int)) (EvP.cast (ep_op (ep_var rfl) ep_int (rd_ixT (d := .int x) rfl)) (congrArg D.int (by omega))) (ea_cons (x := .int (-1)) (ep_un (x := .int 1) ep_int rc_neg) ea_nil))) ⟨t, 0, x.toNat, -1, rfl, by omega, hd7, hz, rfl⟩ fun e _ h => by rw [h, ed]) ea_nil)) (by show 2 ≤ sizeLine; decide))) ⟨rfl, rfl⟩) fun d' k' ⟨e1, e2⟩ => ?_
      subst e1 e2
      exact ⟨rfl, rfl⟩
    · have ed : ndd t ww x = x := by
        unfold ndd
        by_cases q : ww = ("count" : Str)
        · rw [if_pos q]
          have : ¬ 0 ≤ x := fun y => by rw [decide_eq_true q, decide_eq_true y] at z; cases z
          rw [if_pos (by omega)]; omega
        · rw [if_neg q]
      rw [ed]
      exact sy_next ⟨rfl, rfl⟩
    rintro _ _ ⟨rfl, rfl⟩
    refine SY.seq (M := fun Γ' k' => ∃ (A : As) (dl : List Int), Γ' = [.sh (.ref a), .sh (trN t 0), .sh (schD CS t), .sh (.lst (iI sps)), .un, .sh d, .sh (asD A), .sh (.lst (iI dl)), .un, .un, .un, .un, .un, .un] ∧ okA t A ∧ lowA A ∧ asL A ≤ 4 ∧ (asT A).length ≤ 12 ∧ dl.length ≤ 14 ∧ (∀ k, k ∈ dl ↔ k ∈ needL t A) ∧ (∀ k ∈ dl, -1 ≤ k ∧ k < 40) ∧ SpS k' (m + 92))
      (sy_for (fun xs j Γ' k' => (∃ q : Nat, q ≤ 3 ∧ xs = rgD 0 q) ∧ ∃ (A : As) (dl : List Int), Γ' = [.sh (.ref a), .sh (trN t 0), .sh (schD CS t), .sh (.lst (iI sps)), .un, .sh d, .sh (asD A), .sh (.lst (iI dl)), .un, .un, .un, .un, .un, .un] ∧ j ≤ 3 ∧ okA t A ∧ lowA A ∧ asL A = j + 1 ∧ (asT A).length ≤ 4 * j ∧ dl.length ≤ 2 + 4 * j ∧ (∀ k, k ∈ dl ↔ k ∈ needL t A) ∧ (∀ k ∈ dl, -1 ≤ k ∧ k < 40) ∧ SpS k' (m + 11 + 27 * j))
        (wiy_rng1 (ey_next (R := fun d k' => ∃ r : Int, d = .int r ∧ 0 ≤ r ∧ r < 4 ∧ SpS k' (m + 11)) rfl (ea_cons ep_int ea_nil) h2 (by omega) (by decide) (by decide) fun r k' g0 g1 h => ⟨r, rfl, g0, g1, h⟩) fun d k' ⟨r, e, g0, g1, h⟩ => ⟨r, e, by omega, by omega, ⟨r.toNat, by omega, rfl⟩, .one ww x, [-1, ndd t ww x], rfl, Nat.zero_le _, okw, trivial, rfl, Nat.zero_le _, Nat.le_refl _, fun k => ?_, fun k hk => ?_, h⟩) ?_ ?_) ?_
    · rw [needL_mem]
      simp [asT, asE]
    · have := ndd_rng okw
      rcases List.mem_cons.mp hk with rfl | hk
      · omega
      · rw [List.mem_singleton.mp hk]; omega
    · rintro xs j dj _ kj hdj ⟨⟨q, hq, rfl⟩, A, dl, rfl, hj, okA', loA, hAL, hAT, hdl, hmem, hrng, hkj⟩
      have hjl : j < 3 := by
        have := (List.getElem?_eq_some_iff.mp hdj).1
        rw [rgD_len] at this; omega
      refine ⟨_, gty_name, SY.fgt [8, 9, 10, 11] ?_⟩
      show SY (cell3 a) _ [.sh (.ref a), .sh (trN t 0), .sh (schD CS t), .sh (.lst (iI sps)), .un, .sh d, .sh (asD A), .sh (.lst (iI dl)), .sh dj, .un, .un, .un, .un, .un] kj _
      refine qy_asg (R := fun d k' => ∃ sp : Int, d = .int sp ∧ sp ∈ sps ∧ SpS k' (m + 11 + 27 * j + 1)) (ey_opP (x := .lst (iI sps)) (ep_var rfl) (ey_next (m := (sps.length : Nat)) rfl (ea_cons (x := .int (sps.length : Nat)) (EvP.cast (ep_cb (ea_cons (x := .lst (iI sps)) (ep_var rfl) ea_nil) rc_len) (by unfold iI; rw [List.length_map])) ea_nil) hkj (by omega) (by omega) (by omega) fun r k' g0 g1 h => ?_)) ?_
      · obtain ⟨y, rfl⟩ : ∃ y : Nat, r = (y : Int) := ⟨r.toNat, by omega⟩
        have hy : y < sps.length := by omega
        exact ⟨.int sps[y], rd_ixL (atI_nat (by unfold iI; rw [List.getElem?_map, List.getElem?_eq_getElem hy]; rfl)), sps[y], rfl, List.getElem_mem hy, h⟩
      rintro _ k3 ⟨sp, rfl, hsm, h3⟩
      obtain ⟨s0, s1, s2⟩ := hsp sp hsm
      show SY (cell3 a) _ [.sh (.ref a), .sh (trN t 0), .sh (schD CS t), .sh (.lst (iI sps)), .un, .sh d, .sh (asD A), .sh (.lst (iI dl)), .sh dj, .sh (.int sp), .un, .un, .un, .un] k3 _
      refine SY.seq (M := fun Γ' k' => ∃ te : Te, Γ' = [.sh (.ref a), .sh (trN t 0), .sh (schD CS t), .sh (.lst (iI sps)), .un, .sh d, .sh (asD A), .sh (.lst (iI dl)), .sh dj, .sh (.int sp), .sh (teD te), .sh (.lst (iD (teN te))), .un, .un] ∧ teL te ≤ 2 + 1 ∧ (∀ x ∈ teN te, below t sp x) ∧ (teN te).length ≤ 2 ^ 2 ∧ SpS k' (m + 11 + 27 * j + 1 + Bt 2)) (sy_asgGY (ey_call ⟨a, rfl⟩ rfl (ea_cons (ep_var rfl) (ea_cons (ep_var rfl) (ea_cons (x := .int ((2 + 1 : Nat) : Int)) ep_int ea_nil))) ⟨t, m + 11 + 27 * j + 1, 2, sp, rfl, by decide, h3, by have : Bt 2 = 26 := (by decide); omega, v4, hd7, hz, s2, rfl⟩) fun d k' ⟨te, e, p⟩ => by subst e; exact ⟨_, gty_tup2, te, rfl, p⟩) ?_
      rintro _ k4 ⟨te, rfl, t1, t2, t3, h4⟩
      have hB2 : Bt 2 = 26 := by decide
      rw [hB2] at h4
      have t3 : (teN te).length ≤ 4 := t3
      have hb40 : ∀ x ∈ teN te, x < 40 := fun x hx => by
        have := (List.getElem?_eq_some_iff.mp (t2 x hx).1).1
        rw [kd_len] at this; omega
      refine sy_par (R1 := fun d k' => d = asD (.wh sp te.tg A) ∧ k' = k4) (ey_p (ep_tup (ea_cons ep_str (ea_cons (ep_var rfl) (ea_cons (x := tgD te.tg) (by rw [tg_D]; exact ep_var rfl) (ea_cons (ep_var rfl) ea_nil)))) (by show 4 ≤ sizeLine; decide)) ⟨rfl, rfl⟩) fun x' k' ⟨e1, e2⟩ => ?_
      subst e1 e2
      have el : (teN te).map (fun (x : Nat) => D.int (x : Nat)) = ((teN te).map fun (x : Nat) => (x : Int)).map D.int := by rw [List.map_map]; rfl
      refine ey_p (d := .lst (iI (dl ++ (teN te).map fun (x : Nat) => (x : Int)))) (EvF.p (EvF.cast (ef_op (x := .lst (iI dl)) (y := .lst (iD (teN te))) (ep_var rfl) (ep_var rfl) (rdf_cat (by unfold iI iD; rw [List.length_map, List.length_map, sizeLine_eq]; omega))) (by unfold iI iD; rw [List.map_append, el]))) ?_
      refine ⟨⟨q, hq, rfl⟩, .wh sp te.tg A, _, rfl, hjl, ⟨s0, s1, s2.imp id fun h => h.2, ?_, ?_, okA'⟩, ⟨?_, ?_, loA⟩, ?_, ?_, ?_, fun k => ?_, fun k hk => ?_, h4.mono (by omega)⟩
      · have := tg_L te; omega
      · rw [tg_N]; exact t2
      · have := tg_L te; omega
      · rw [tg_N]; exact hb40
      · show asL A + 1 = _; omega
      · show ((tgN te.tg).map _ ++ asT A).length ≤ _
        rw [List.length_append, List.length_map, tg_N]; omega
      · rw [List.length_append, List.length_map]; omega
      · rw [List.mem_append, hmem k, needL_mem, needL_mem]
        have e1 : asE (.wh sp te.tg A) = asE A := rfl
        have e2 : asT (.wh sp te.tg A) = (teN te).map (fun (x : Nat) => (x : Int)) ++ asT A := by show (tgN te.tg).map _ ++ asT A = _; rw [tg_N]
        rw [e1, e2, List.mem_append]
        constructor
        · rintro ((h | h | h) | h)
          · exact .inl h
          · exact .inr (.inl (.inr h))
          · exact .inr (.inr h)
          · exact .inr (.inl (.inl h))
        · rintro (h | (h | h) | h)
          · exact .inl (.inl h)
          · exact .inr h
          · exact .inl (.inr (.inl h))
          · exact .inl (.inr (.inr h))
      · rcases List.mem_append.mp hk with hk | hk
        · exact hrng k hk
        · obtain ⟨y, hy, rfl⟩ := List.mem_map.mp hk
          have := hb40 y hy
          omega
    · rintro xs Γ' k' ⟨⟨q, hq, rfl⟩, A, dl, rfl, hj, okA', loA, hAL, hAT, hdl, hmem, hrng, hkj⟩
      rw [rgD_len] at *
      exact ⟨A, dl, rfl, okA', loA, by omega, by omega, by omega, hmem, hrng, hkj.mono (by omega)⟩
    rintro _ k3 ⟨A, dl, rfl, okA', loA, hAL, hAT, hdl, hmem, hrng, h3⟩
    refine sy_sw (fun j e he => ?_) ?_
    · match j, he with
      | 0, he | 1, he | 2, he | 3, he | 4, he | 5, he | 6, he | 7, he | 8, he | 9, he | 10, he | 11, he | 12, he | 13, he => cases he; rfl
      | j + 14, he => cases he
    have hdu : ascI dl = ascI (needL t A) := ascI_eq hmem
    have hZr : ∀ x ∈ ascI dl, -1 ≤ x ∧ x < 40 := fun x hx => hrng x (ascI_mem.mp hx)
    have hZl : (ascI dl).length ≤ 14 := Nat.le_trans (len_ascI dl) hdl
    have kept : ∀ {K : PySem.W.Frag}, DL.RC (rReprL K) [asD A] (.str (pyA A).shown) := fun {K} => rc_reprA h40 okA' loA hAL
    refine sw_seq1 (sw_par (x := .lst (iI (ascI dl))) (y := .str (pyA A).shown) (ep_cb (ea_cons (ep_cb (ea_cons (x := .lst (iI dl)) (ep_var rfl) ea_nil) (rc_setL (by omega))) ea_nil) (rc_sortSet (by omega))) (ep_cb (ea_cons (x := asD A) (ep_var rfl) ea_nil) kept) rfl) ?_
    generalize hkp : (pyA A).shown = kp at *
    generalize hZ : ascI dl = Z at *
    show SW _ [.sh (.ref a), .sh (trN t 0), .sh (schD CS t), .sh (.lst (iI sps)), .un, .sh d, .sh (asD A), .sh (.lst (iI Z)), .un, .un, .un, .un, .sh (.str kp), .un] _
    have rtwo : ∀ {K : PySem.W.Frag}, DL.RC (rReprL K) [.lst [.lst (iI Z), .lst (iI Z)]] (.str (PyData.shown (.list [.list (Z.map PyData.int), .list (Z.map PyData.int)]))) := fun {K} => rc_two (pyD_iI Z) (pyD_iI Z) (sm_ints hZr (by omega)) (sm_ints hZr (by omega))
    have nf : ∀ {Γ : List En}, Γ[2]? = some (.sh (schD CS t)) → Γ[6]? = some (.sh (asD A)) → EvF (tCall (spF (C_no CS)) [] E0 (tCons (tVar 2) (tCons (tVar 6) tNil))) Γ (iI Z) := fun {Γ} i1 i2 => EvFR.f (ef_callF (ea_cons (ep_var i1) (ea_cons (ep_var i2) ea_nil)) ⟨t, A, rfl, okA', hAL, by omega, h40, rfl⟩) fun es h => by rw [h, hdu]
    refine q_asgF (ds := iI Z) (nf rfl rfl) ?_
    show SW _ [.sh (.ref a), .sh (trN t 0), .sh (schD CS t), .sh (.lst (iI sps)), .un, .sh d, .sh (asD A), .sh (.lst (iI Z)), .un, .un, .un, .un, .sh (.str kp), .own (iI Z)] _
    refine sw_guard (b := false) (et_view (i := 13) (ds := iI Z) rfl (et_or (a := false) ((et_test (ep_op (ep_cb (ea_cons (EvF.p (ef_lst (ea_cons (x := .lst (iI Z)) (ep_var rfl) (ea_cons (x := .lst (iI Z)) (EvF.p (EvFR.f (ef_callKF (es := [asD A, schD CS t]) (ea_cons (ep_var rfl) (ea_cons (ep_var rfl) ea_nil)) ⟨t, A, rfl, okA', hAL, by omega, h40, rfl⟩) fun es h => by rw [h, hdu])) ea_nil)) (by show 2 ≤ sizeLine; decide))) ea_nil) rtwo) (ep_cb (ea_cons (EvF.p (ef_lst (ea_cons (x := .lst (iI Z)) (ep_var rfl) (ea_cons (x := .lst (iI Z)) (ep_var rfl) ea_nil)) (by show 2 ≤ sizeLine; decide))) ea_nil) rtwo) rd_neS)).cast (by simp)) fun _ => (et_test (ep_op (ep_cb (ea_cons (x := asD A) (ep_var rfl) ea_nil) kept) (ep_var rfl) rd_neS)).cast (by simp))) (fun z => absurd z Bool.false_ne_true) fun _ => ?_
    refine q_app (d := .non) (.inl rfl) ep_non (by unfold iI; rw [List.length_map, sizeLine_eq]; omega) ?_
    show SW _ [.sh (.ref a), .sh (trN t 0), .sh (schD CS t), .sh (.lst (iI sps)), .un, .sh d, .sh (asD A), .sh (.lst (iI Z)), .un, .un, .un, .un, .sh (.str kp), .own (iI Z ++ [.non])] _
    exact sw_if (b := false) (et_test (ep_op (x := .lst (iI Z)) (EvF.p (nf rfl rfl)) (ep_var rfl) rd_neIs)) (fun z => absurd z Bool.false_ne_true) fun _ => sw_next ⟨rfl, rfl, hil, h3.mono (by omega)⟩
  · rintro xs Γ' k' ⟨rfl, _, hi, hk⟩
    exact hk.mono (by rw [rgD_len]; show n + 1107 + 92 * 6 ≤ _; omega)
end
end Lw
set_option Elab.async false
set_option linter.all false
set_option maxRecDepth 100000
set_option maxHeartbeats 4000000
namespace Lw
open PySem PySem.Spec PyProof.Rows L2 DL
theorem sc_law : FnScope ["script", "k", "tape", "turn", "given", "told", "spot"] ["script"] (defScope s_law) := ⟨rfl, rfl, rfl, by decide +kernel, rfl, by decide +kernel, by decide +kernel⟩
def t1 : Tr := .r [("name", .v), ("tags", .o true .v), ("at", .o false (.r [("x", .v), ("y", .o true .v)]))]
theorem lim1 : Lim t1 := by
  refine ⟨⟨by simp, by decide, ?_, trivial, trivial, ⟨by simp, by decide, ?_, trivial, trivial, trivial⟩, trivial⟩, by decide, by decide, by decide, by decide, by decide⟩
  all_goals
    intro x m
    simp only [List.map_cons, List.map_nil, List.mem_cons, List.not_mem_nil, or_false] at m
    first
      | (rcases m with rfl | rfl | rfl <;> exact ⟨by decide, by decide, by decide⟩)
      | (rcases m with rfl | rfl <;> exact ⟨by decide, by decide, by decide⟩)
theorem tx1 : SX.S (tx t1) = ("{name:v tags:[v] at:?{x:v y:[v]}}" : Str) := by decide +kernel
/-- the nodes asked for -/
def sp7 : List Int := [0, 1, 3, 6, 5, 4, 8]
theorem sp7_ok : ∀ x ∈ sp7, -1 ≤ x ∧ x < (sz t1 : Nat) := by decide +kernel
def vls : List (List Int) := [[-1], [-1], [-1, 2], [-1, 4], [-1, 4], [-1, 4], [-1, 7], [-1, 1]]
theorem vls_eq : (sp7.map fun x => ascI (needL t1 (.one "count" x))) ++ [ascI (needL t1 (.one "sum" 1))] = vls := by decide +kernel
theorem sum_ok : okW t1 "sum" 1 := ⟨by decide, by decide +kernel, .inr ⟨by decide, .inl ⟨.inr (.inl rfl), by decide +kernel⟩⟩⟩
theorem len_need (x : Int) (w : Str) : (ascI (needL t1 (.one w x))).length ≤ 2 := Nat.le_trans (len_ascI _) (needL_len t1 (.one w x))
section
variable {P : Program} {w : World} {K : PySem.W.Frag} {mg : Str → Option Value} {base : Heap} {CS : Addr} {f : Addr} {fd : FuncData}
def C_law (K : PySem.W.Frag) : Cn := fun Γ R => ∃ (a : Addr) (ns : List Int) (p : Prop), Γ = [.sh (.scr a ns p)] ∧ (p → KLs K a (ns.map V.int)) ∧ R = fun d _ => d = .bl true
theorem ok_law (T : Tx mg) (c__law_tape : Cal P w K mg base 1 "_law_tape" (spF (C_tape K))) (c__law_right : CalG P w K mg base 50 "_law_right" (spY K3 (C_right CS))) (c_Schema : C8.Mak P w K mg base 48 "Schema" CS (spMk CS (C_sch CS)) [])
    (c_needs_of : Cal P w K mg base 31 "needs_of" (spF (C_no CS)))
    (F : FnP K "law" s_law f fd) : FnG P w K mg base 51 f fd ["script"] (spE (C_law K)) := by
  refine fn_okG F sc_law (fun Γ R ⟨a, ns, p, h, _⟩ => by subst h; rfl) fun cdv A outer s H E hr hg => ⟨_, (pss_cons (ps_for PassesOwn.never rfl (pi_range1 rfl T.z_range (pa_cons (pe_callB (call_max2 rfl) rfl T.z_max (by decide +kernel) (pa_cons pe_int (pa_cons (pe_callB (call_min2 rfl) rfl T.z_min (by decide +kernel) (pa_cons pe_int (pa_cons (pe_callB call_len_seq rfl T.z_len (by decide +kernel) (pa_cons (pv 0) pa_nil)) pa_nil))) pa_nil))) pa_nil)) (pg_name (i := 1) sc_law.nd rfl (by first | exact Or.inl rfl | exact Or.inr rfl)) (pss_cons (ps_set (i := 2) sc_law.nd rfl (by first | exact Or.inl rfl | exact Or.inr rfl) (pe_c c__law_tape hr (by first | decide | omega) rfl (pa_cons (pv 0) (pa_cons (pv 1) pa_nil))))
      (pss_one (ps_if (pt_not (pt_val (pe_callB (cr_all rfl) rfl T.z_all (by decide +kernel) (pa_cons (pe_lc (own := [("turn", 3)]) (g := (gName 3)) (tt := tYes) rfl sc_law.nd (pi_range1 rfl T.z_range (pa_cons pe_int pa_nil)) (blkOk_by (own := [("turn", 3)]) (N := ["script", "k", "tape", "turn", "given", "told", "spot"]) (sc := defScope s_law) (by decide +kernel)) (fun _ _ _ _ _ => (pg_name (i := 3) sc_law.nd rfl (Or.inl rfl))) (fun _ _ _ _ _ => pts_nil) (fun _ _ _ _ _ => (pe_cg c__law_right hr hg (by first | decide | omega) rfl (pa_cons (pv 2) pa_nil)))) pa_nil)))) (pss_one (ps_ret pe_bl)) pss_nil))))
      (pss_cons (ps_set (i := 4) sc_law.nd rfl (by first | exact Or.inl rfl | exact Or.inr rfl) (C8.pe_mk c_Schema hr (by first | decide | omega) rfl (pa_cons pe_str pa_nil)))
      (pss_cons (ps_set (i := 5) sc_law.nd rfl (by first | exact Or.inl rfl | exact Or.inr rfl) (pe_op op_cat (pe_lc (own := [("spot", 6)]) (g := (gName 6)) (tt := tYes) rfl sc_law.nd (pi_tup (pe_tup (pa_cons pe_int (pa_cons pe_int (pa_cons pe_int (pa_cons pe_int (pa_cons pe_int (pa_cons pe_int (pa_cons pe_int pa_nil))))))))) (blkOk_by (own := [("spot", 6)]) (N := ["script", "k", "tape", "turn", "given", "told", "spot"]) (sc := defScope s_law) (by decide +kernel)) (fun _ _ _ _ _ => (pg_name (i := 6) sc_law.nd rfl (Or.inl rfl))) (fun _ _ _ _ _ => pts_nil) (fun _ _ _ _ _ => (pe_c c_needs_of hr (by first | decide | omega) rfl (pa_cons (pv 4) (pa_cons (pe_tup (pa_cons pe_str (pa_cons (pv 6) pa_nil))) pa_nil))))) (pe_lst (pa_cons (pe_c c_needs_of hr (by first | decide | omega) rfl (pa_cons (pv 4) (pa_cons (pe_tup (pa_cons pe_str (pa_cons pe_int pa_nil))) pa_nil))) pa_nil))))
      (pss_one (ps_ret (pe_cmpR (op_eqD hr.units) (pv 5) (pe_lst (pa_cons (pe_lst (pa_cons (pe_un un_neg pe_int) pa_nil)) (pa_cons (pe_lst (pa_cons (pe_un un_neg pe_int) pa_nil)) (pa_cons (pe_lst (pa_cons (pe_un un_neg pe_int) (pa_cons pe_int pa_nil))) (pa_cons (pe_lst (pa_cons (pe_un un_neg pe_int) (pa_cons pe_int pa_nil))) (pa_cons (pe_lst (pa_cons (pe_un un_neg pe_int) (pa_cons pe_int pa_nil))) (pa_cons (pe_lst (pa_cons (pe_un un_neg pe_int) (pa_cons pe_int pa_nil))) (pa_cons (pe_lst (pa_cons (pe_un un_neg pe_int) (pa_cons pe_int pa_nil))) (pa_cons (pe_lst (pa_cons (pe_un un_neg pe_int) (pa_cons pe_int pa_nil))) pa_nil))))))))) (nomark _))))))), ?_⟩
  rintro Γ R ⟨a, ns, p, rfl, hp, rfl⟩ _
  show SW _ [.sh (.scr a ns p), .un, .un, .un, .un, .un, .un] _
  obtain ⟨n, en, n3⟩ : ∃ n : Int, (if (if ((ns.length : Nat) : Int) < 3 then ((ns.length : Nat) : Int) else 3) > 1 then (if ((ns.length : Nat) : Int) < 3 then ((ns.length : Nat) : Int) else 3) else 1) = n ∧ n ≤ 3 ∧ 1 ≤ n := ⟨_, rfl, by split <;> split <;> omega, by split <;> omega⟩
  refine sw_seq (fun Γ' => ∃ e1 e2, Γ' = [.sh (.scr a ns p), e1, e2, .un, .un, .un, .un]) (sw_for (fun _ Γ' => ∃ e1 e2, Γ' = [.sh (.scr a ns p), e1, e2, .un, .un, .un, .un] ∧ e2.mut = false)
    (wi_rng1 (n := n) (ea_cons ((ep_cb (ea_cons ep_int (ea_cons (ep_cb (ea_cons ep_int (ea_cons (ep_cb (ea_cons (ep_var rfl) ea_nil) (rc_lenScr hp)) ea_nil)) rc_int2) ea_nil)) rc_int2).cast (congrArg D.int en)) ea_nil) (by omega) (by omega)) ⟨_, _, rfl, rfl⟩ ?_ (fun Γ' ⟨e1, e2, h, _⟩ => ⟨e1, e2, h⟩)) ?_
  · rintro k d _ hd1 ⟨e1, e2, rfl, m2⟩
    have hk : k < n.toNat := by have := (List.getElem?_eq_some_iff.mp hd1).1; rwa [rgD_len] at this
    rw [rgD_get hk] at hd1
    have ed : d = .int (k : Nat) := by have := Option.some.inj hd1; rw [← this, Int.zero_add]
    subst ed
    refine ⟨_, gt_name, ?_⟩
    show SW _ [.sh (.scr a ns p), .sh (.int (k : Nat)), e2, .un, .un, .un, .un] _
    refine sw_mk3 (Rk := fun s => SpS s 0) (fun j e he => ?_) (ef_callF (ea_cons (ep_var rfl) (ea_cons (ep_var rfl) ea_nil)) ⟨a, ns, p, k, rfl, hp, by omega, rfl⟩) (fun ds ⟨s, e, h⟩ => ⟨s, e, h⟩) ?_
    · match j, he with
      | 0, he | 1, he | 3, he | 4, he | 5, he | 6, he => cases he; rfl
      | 2, he => cases he; exact m2
      | j + 7, he => cases he
    intro b s hs
    show SY (cell3 b) _ [.sh (.scr a ns p), .sh (.int (k : Nat)), .sh (.ref b), .un, .un, .un, .un] s _
    refine sy_ifY (R := fun v k' => v = false) (ety_not (R' := fun v k' => v = true) (ety_test (R1 := fun d k' => d = .bl true) (ey_cb (R' := fun ds k' => ds = [.lst ((List.replicate 6 true).map D.bl)]) (eay_cons (R1 := fun d k' => d = .lst ((List.replicate 6 true).map D.bl)) (ey_ofF (efy_lc (fun xs i acc ki => xs = rgD 0 6 ∧ acc = (List.replicate i true).map D.bl ∧ i ≤ 6 ∧ SpS ki (i * 1700)) rfl (wiy_p (wi_rng1 (n := 6) (ea_cons ep_int ea_nil) (by decide) (by decide)) ⟨rfl, rfl, Nat.zero_le _, by rw [Nat.zero_mul]; exact hs⟩) ?_) ?_) fun x k' e => eay_nil (by rw [e])) fun ds k' e => by subst e; exact ⟨_, rc_all, rfl⟩) fun d k' h => ⟨true, h, rfl⟩) fun v k' h => by rw [h]; rfl) (fun k' h => nomatch h) fun k' _ => sy_next ⟨_, _, rfl, rfl⟩
    · rintro xs i x acc ki hx ⟨rfl, rfl, hi, hki⟩
      have hil : i < 6 := by
        have := (List.getElem?_eq_some_iff.mp hx).1
        rw [rgD_len] at this; exact this
      refine ⟨by rw [List.length_map, List.length_replicate, sizeLine_eq]; omega, _, fun v k' => v = true ∧ k' = ki, gv_name (by simp), sv1, rfl, ety_p et_yes ⟨rfl, rfl⟩, ?_, ?_⟩
      · rintro k2 ⟨_, rfl⟩
        refine EvY.imp (ey_call ⟨b, rfl⟩ rfl ea_nil ⟨i * 1700, rfl, hki, by omega, rfl⟩) ?_
        rintro d k3 ⟨rfl, h3⟩
        exact ⟨rfl, by rw [List.replicate_succ', List.map_append]; rfl, hil, by rw [Nat.add_mul]; exact h3⟩
      · rintro k2 ⟨h, _⟩; cases h
    · rintro ds k' ⟨xs, rfl, rfl, _, _⟩
      rw [rgD_len]
  rintro _ ⟨e1, e2, rfl⟩
  refine q_asg (d := schD CS t1) (ep_make (ea_cons (x := .str (SX.S (tx t1))) (ep_str.cast (congrArg D.str tx1.symm)) ea_nil) ⟨t1, rfl, lim1, rfl⟩) ?_
  show SW _ [.sh (.scr a ns p), e1, e2, .un, .sh (schD CS t1), .un, .un] _
  have nf : ∀ {Γ : List En} {tl : TE} {ww : Str} {x : Int}, Γ[4]? = some (.sh (schD CS t1)) → EvP tl Γ (asD (.one ww x)) → okW t1 ww x → EvP (tCall (spF (C_no CS)) [] E0 (tCons (tVar 4) (tCons tl tNil))) Γ (.lst (iI (ascI (needL t1 (.one ww x))))) := fun {Γ tl ww x} h4 hl hn => EvF.p (EvFR.f (ef_callF (ea_cons (ep_var h4) (ea_cons hl ea_nil)) ⟨t1, .one ww x, rfl, hn, (by show 1 ≤ 4; decide), (by show 0 ≤ 50; decide), lim1.nodes, rfl⟩) fun es h => h)
  refine q_asg (d := .lst (vls.map fun l => .lst (iI l))) (EvF.p (EvF.cast (ef_op (x := .lst (sp7.map fun x => .lst (iI (ascI (needL t1 (.one "count" x)))))) (EvF.p (ef_map sp7 D.int (fun x => .lst (iI (ascI (needL t1 (.one "count" x))))) (wi_tup (ds := sp7.map D.int) (ep_tup (ea_cons ep_int (ea_cons ep_int (ea_cons ep_int (ea_cons ep_int (ea_cons ep_int (ea_cons ep_int (ea_cons ep_int ea_nil))))))) (by show 7 ≤ sizeLine; decide))) (by show 7 < sizeLine; decide) fun x hx => ⟨_, gv_name (by simp), nf rfl (ep_tup (ea_cons ep_str (ea_cons (ep_var rfl) ea_nil)) (by show 2 ≤ sizeLine; decide)) ⟨(sp7_ok x hx).1, (sp7_ok x hx).2, .inl rfl⟩⟩))
    (EvF.p (ef_lst (ea_cons (nf rfl (ep_tup (ea_cons ep_str (ea_cons ep_int ea_nil)) (by show 2 ≤ sizeLine; decide)) sum_ok) ea_nil) (by show 1 ≤ sizeLine; decide))) (rdf_cat (by rw [List.length_map]; show 7 + 1 ≤ sizeLine; decide))) (by rw [← vls_eq, List.map_append, List.map_map]; rfl))) ?_
  show SW _ [.sh (.scr a ns p), e1, e2, .un, .sh (schD CS t1), .sh (.lst (vls.map fun l => .lst (iI l))), .un] _
  have m1 : ∀ {Γ : List En}, EvP (tUn (rU fun i => .int (-i)) (tC (.int 1))) Γ (.int (-1)) := ep_un (x := .int 1) ep_int rc_neg
  have l1 : ∀ {Γ : List En}, EvP (tLst (tCons (tUn (rU fun i => .int (-i)) (tC (.int 1))) tNil)) Γ (.lst [.int (-1)]) := EvF.p (ef_lst (ea_cons m1 ea_nil) (by show 1 ≤ sizeLine; decide))
  have l2 : ∀ {Γ : List En} {i : Int}, EvP (tLst (tCons (tUn (rU fun i => .int (-i)) (tC (.int 1))) (tCons (tC (.int i)) tNil))) Γ (.lst [.int (-1), .int i]) := EvF.p (ef_lst (ea_cons m1 (ea_cons ep_int ea_nil)) (by show 2 ≤ sizeLine; decide))
  refine sw_ret (d := .bl true) ((ep_op (ep_var rfl) (EvF.p (ef_lst (ea_cons l1 (ea_cons l1 (ea_cons l2 (ea_cons l2 (ea_cons l2 (ea_cons l2 (ea_cons l2 (ea_cons l2 ea_nil)))))))) (by show 8 ≤ sizeLine; decide))) (rd_eqD (p := .list (vls.map fun l => .list (l.map .int))) (q := .list (vls.map fun l => .list (l.map .int))) rfl rfl (by decide +kernel) (by decide +kernel))).cast (congrArg D.bl (by decide +kernel))) ⟨rfl, trivial⟩
end
end Lw
set_option Elab.async false
set_option linter.all false
set_option maxRecDepth 100000
set_option autoImplicit false
set_option maxHeartbeats 4000000
/-! H0: the law's def called behind the top, where no repr is under way; the law's walk by it. -/
namespace DL
open PySem PySem.Spec PyProof.Rows L2
section
variable {P : Program} {w : World} {K : PySem.W.Frag} {mg mb : Str → Option Value} {k : Nat} {fl sc : Addr} {fd : FuncData} {px : Str} {pr : Sp} {st : Shared} {vals : List Value} {nums : List Int}
/-- the answer of a law that holds -/
abbrev TrueOf (st : Shared) : Result → Shared → Prop := fun r u => r = .ok (.ret (.bool true)) ∧ OldK st.heap u.heap ∧ u.os = st.os ∧ AllBare u.gens
/-- nothing but the script at sc is tracked, and that only where it is no object of K -/
structure Alone (K : PySem.W.Frag) (T : Hp) (sc : Addr) : Prop where
  only : Only T
  just : ∀ b, T b ≠ none → b = sc ∧ K.lookup sc = none
theorem Alone.off {T : Hp} (Z : Alone K T sc) {b : Addr} (h : b ≠ sc ∨ K.lookup sc ≠ none) : T b = none := by
  cases q : T b with
  | none => rfl
  | some u =>
    obtain ⟨z1, z2⟩ := Z.just b (by rw [q]; exact Option.some_ne_none _)
    rcases h with h | h
    · exact absurd z1 h
    · exact absurd z2 h
theorem lawT {T : Hp} (Z : Alone K T sc) (hK : K.In st.heap) (hG : st.heap.Ns mainGlobals mg) (hB : st.heap.Ns builtinsNs mb) (hBB : ∀ y : Str, y ≠ "__name__" → mb y = bootBuiltins y) (hN : st.heap.NoLimit) (hZ : st.gens = #[])
    (hS : st.heap.get? sc = some { cls := .type "list", data := .seq vals.toArray }) (room : Room k callerA) (fn : ∀ b : Heap, K.In b → b.Ns mainGlobals mg → FnG P w K mg b k fl fd [px] pr) (bd : ∀ (s : Shared) (u : Value), BindsTo s fd ⟨[u], []⟩ [(px, u)])
    (tok : HOk P w T st.heap) (hp : pr [.ref sc] T (fun v _ => v = .bl true) fun _ _ _ => False) : codeAny (model P w) callerA (.call (.ref fl) ⟨[.ref sc], []⟩) (TrueOf st) st := by
  have off : ∀ {b : Addr} {o : Obj} {es : Array DictEntry} {n : Nat}, st.heap.get? b = some o → o.data = .dict es n → T b = none := fun {b o es n} e d => Z.off (.inl fun z => by
    rw [z, hS] at e
    cases e
    exact nomatch (show Data.seq vals.toArray _ = Data.dict es n from d))
  have ns : ∀ {b : Addr} {m : Str → Option Value}, st.heap.Ns b m → (hidT st.heap T).Ns b m := fun ⟨o, es, n, e, d, q⟩ => ⟨o, es, n, hidT_get e (off e d), d, q⟩
  have kb : K.In (hidT st.heap T) := fun b o e => hidT_get (hK b o e) (Z.off (by
    by_cases z : b = sc
    · right; rw [← z, e]; exact Option.some_ne_none _
    · exact .inl z))
  obtain ⟨mc, l1, l2⟩ := hN
  have e0 : Env0 P w K mg (hidT st.heap T) callerA [] st T :=
    ⟨rfl, ⟨kb, ns hG, ⟨mb, ns hB, hBB⟩, mc, ns l1, l2⟩, fun b o e => of_hidT e, Nat.le_of_eq (hidT_size _ _), trivial, fun b z => (List.not_mem_nil z).elim, tok, .of_eq hZ⟩
  refine codeAny_mono ((fn _ kb (ns hG)).go callerA [] st T ⟨[.ref sc], []⟩ [.ref sc] [.ref sc] _ _ room rfl e0 (bd st (.ref sc)) (.cons rfl .nil) hp) fun r u h => ?_
  match r, h with
  | .error e, h => exact (show False from h).elim
  | .ok .next, h => exact (show False from h).elim
  | .ok .brk, h => exact (show False from h).elim
  | .ok .cont, h => exact (show False from h).elim
  | .ok (.ret x), ⟨v, T', o1, o2, un, tok', rv, q⟩ =>
    have q' : v = .bl true := q
    subst q'
    obtain rfl : x = Value.bool true := rv
    refine ⟨rfl, OldK.of_keep fun b o e => ?_, o1, o2⟩
    rcases Z.only b with z | ⟨ob, xs, z⟩
    · exact un.keep b o e z (fun y => (List.not_mem_nil y).elim) (fun y => (List.not_mem_nil y).elim)
    · have a1 := (tok b _ z).1
      have a2 := (tok' b _ (un.frzs b ob _ z)).1
      rw [e] at a1
      cases a1
      exact a2
theorem lawG (hK : K.In st.heap) (hG : st.heap.Ns mainGlobals mg) (hB : st.heap.Ns builtinsNs mb) (hBB : ∀ y : Str, y ≠ "__name__" → mb y = bootBuiltins y) (hN : st.heap.NoLimit) (hZ : st.gens = #[])
    (hS : st.heap.get? sc = some { cls := .type "list", data := .seq vals.toArray }) (hI : IntsAre vals nums) (hL : nums.length ≤ sizeLine) (room : Room k callerA) (fn : ∀ b : Heap, K.In b → b.Ns mainGlobals mg → FnG P w K mg b k fl fd [px] pr)
    (bd : ∀ (s : Shared) (u : Value), BindsTo s fd ⟨[u], []⟩ [(px, u)]) (hp : ∀ T : Hp, Only T → SqL K T sc (nums.map V.int) → pr [.ref sc] T (fun v _ => v = .bl true) fun _ _ _ => False) :
    codeAny (model P w) callerA (.call (.ref fl) ⟨[.ref sc], []⟩) (TrueOf st) st := by
  have rel := vals_ints hI
  cases kq : K.lookup sc with
  | some o =>
    have e := hK sc o kq
    rw [hS] at e
    cases e
    refine lawT (T := fun _ => none) ⟨fun _ => .inl rfl, fun b z => (z rfl).elim⟩ hK hG hB hBB hN hZ hS room fn bd (fun b u z => nomatch (show (none : Option HO) = some u from z)) (hp _ (fun _ => .inl rfl) (.inr ⟨_, vals.toArray, _, kq, rfl, rfl, rfl, ?_, by simpa using rel⟩))
    rw [List.size_toArray, hI.length]
    exact hL
  | none =>
    have at_ : ∀ {b : Addr} {u : HO}, (if b = sc then some (HO.frz { cls := .type "list", data := .seq vals.toArray } (.lst (nums.map V.int))) else none) = some u → b = sc ∧ u = .frz { cls := .type "list", data := .seq vals.toArray } (.lst (nums.map V.int)) := fun {b u} z => by
      by_cases y : b = sc
      · rw [if_pos y] at z
        exact ⟨y, (Option.some.inj z).symm⟩
      · rw [if_neg y] at z
        cases z
    have on : Only fun b => if b = sc then some (HO.frz { cls := .type "list", data := .seq vals.toArray } (.lst (nums.map V.int))) else none := fun b => by
      by_cases y : b = sc
      · exact .inr ⟨_, _, if_pos y⟩
      · exact .inl (if_neg y)
    refine lawT ⟨on, fun b z => ?_⟩ hK hG hB hBB hN hZ hS room fn bd (fun b u z => ?_) (hp _ on (.inl (.inr ⟨_, if_pos rfl⟩)))
    · obtain ⟨u, e⟩ := Option.ne_none_iff_exists'.mp z
      exact ⟨(at_ e).1, kq⟩
    · obtain ⟨rfl, rfl⟩ := at_ z
      exact ⟨hS, by rw [List.length_map]; exact hL, vals, _, rel, hS⟩
end
section
variable {l : PySem.W.OpenLaw} {n k : Nat} {q : Program} {loose : List Str} {XP : (Str → Option Value) → Heap → Prop} {YP : World → Heap → Prop} {d : DefRec} {KP : Params → PySem.W.Frag} {pr : PySem.W.Frag → Sp} {px : Str}
/-- the goal behind the head, by the promise of the law's def -/
theorem walkG (h1 : l.most = some n) (h2 : n ≤ sizeLine) (h3 : d.params.defaults = []) (room : Room k callerA) (hY : ∀ (w : World) (h : Heap), YP w h → (KP w.params).In h)
    (hF : ∀ (w : World) (mg : Str → Option Value) (f : Addr) (h : Heap), (KP w.params).In h → h.Ns mainGlobals mg → mg d.name = some (.ref f) → ∃ fd : FuncData, (∀ (s : Shared) (u : Value), BindsTo s fd ⟨[u], []⟩ [(px, u)]) ∧
      ∀ b : Heap, (KP w.params).In b → b.Ns mainGlobals mg → FnG l.prog w (KP w.params) mg b k f fd [px] (pr (KP w.params)))
    (hp : ∀ (K : PySem.W.Frag) (H : Hp) (a : Addr) (ns : List Int), Only H → SqL K H a (ns.map V.int) → pr K [.ref a] H (fun v _ => v = .bl true) fun _ _ _ => False) :
    PySem.W.WalkO q loose XP YP l.row.toRowW d [] (fun f vs => PySem.call f vs) := by
  refine Att.attach_call h1 h3 fun w s0 st mg mb f o pm cd doc a vs ns G Y ho hd hcd hmg hobj hints hlen hg => ?_
  have hK := hY w _ Y
  obtain ⟨fd, bd, fn⟩ := hF w mg f _ hK G.T.g hmg
  exact lawG hK G.T.g G.T.b G.T.builtins G.T.nolimit hg hobj hints (Nat.le_trans hlen h2) room fn bd fun T z1 z2 => hp _ T a ns z1 z2
end
end DL
set_option Elab.async false
set_option linter.all false
set_option maxRecDepth 100000
set_option autoImplicit false
set_option maxHeartbeats 4000000
/-! H1: what the top leaves, by names; the law's promise from it. -/
namespace Lw
open PySem PySem.Spec PyProof.Rows L2 DL
theorem law_sp (K : PySem.W.Frag) (H : Hp) (a : Addr) (ns : List Int) (_ : Only H) (h : SqL K H a (ns.map V.int)) : spE (C_law K) [.ref a] H (fun v _ => v = .bl true) fun _ _ _ => False := by
  refine ⟨_, H, _, fun d _ => d = .bl true, good_args (es := [.scr a ns (KLs K a (ns.map V.int))]) (Ex.refl H) ⟨_, _, rfl, ⟨rfl, ?_⟩, rfl⟩, argOk_sh _, ⟨a, ns, _, rfl, id, rfl⟩, fun v d Γ' F' H' hr G' x r => ?_⟩
  · rcases h with (h | h) | h
    · exact .inl h
    · exact .inr (.inl h)
    · exact .inr (.inr h)
  · subst hr
    exact r
def fn : List He.DefD :=
  let g := fun (x : Str) (s : Stmt) => (⟨(x, none), x, x, defArgs s, defBody s, defScope s, [], []⟩ : He.DefD)
  let m := fun (c x q : Str) (s : Stmt) => (⟨(c, some x), x, q, defArgs s, defBody s, defScope s, [], []⟩ : He.DefD)
  [g "line_to" s_line_to, g "open_line_to" s_open_line_to, g "leaves_below" s_leaves_below, g "_leaves_from" s__leaves_from, g "_count_levels" s__count_levels, g "is_filtered_node" s_is_filtered_node, g "is_test" s_is_test, g "test_nodes" s_test_nodes, g "_is_comparison" s__is_comparison, g "needs_of" s_needs_of, g "check_ask" s_check_ask, g "_is_ask" s__is_ask, g "_needs" s__needs, g "_needed_node" s__needed_node, g "_law_tape" s__law_tape, g "_law_next" s__law_next, g "_law_tree" s__law_tree, g "_law_text" s__law_text, g "_law_all" s__law_all, g "_law_open_above" s__law_open_above, g "_law_wish" s__law_wish, g "_law_test" s__law_test, g "_law_right" s__law_right, g "law" s_law, m "SchemaReader" "__init__" "SchemaReader.__init__" s_SchemaReader___init__, m "SchemaReader" "read_all" "SchemaReader.read_all" s_SchemaReader_read_all, m "SchemaReader" "_next_sign" "SchemaReader._next_sign" s_SchemaReader__next_sign, m "SchemaReader" "_take" "SchemaReader._take" s_SchemaReader__take, m "SchemaReader" "_can_begin" "SchemaReader._can_begin" s_SchemaReader__can_begin, m "SchemaReader" "_read_node" "SchemaReader._read_node" s_SchemaReader__read_node, m "SchemaReader" "_add_node" "SchemaReader._add_node" s_SchemaReader__add_node, m "SchemaReader" "_read_fields" "SchemaReader._read_fields" s_SchemaReader__read_fields, m "SchemaReader" "_read_name" "SchemaReader._read_name" s_SchemaReader__read_name, m "Schema" "__init__" "Schema.__init__" s_Schema___init__, m "Schema" "__len__" "Schema.__len__" s_Schema___len__]
def gls : List Str := ["line_to", "open_line_to", "leaves_below", "_leaves_from", "_count_levels", "is_filtered_node", "is_test", "test_nodes", "_is_comparison", "needs_of", "check_ask", "_is_ask", "_needs", "_needed_node", "_law_tape", "_law_next", "_law_tree", "_law_text", "_law_all", "_law_open_above", "_law_wish", "_law_test", "_law_right", "law", "SchemaReader", "Schema", "KIND_OF_SIGN", "SIGN_IN_WAY", "KIND_FOR_WORD"]
def frs : List Str := ["len", "abs", "max", "min", "range", "tuple", "zip", "enumerate", "sum", "list", "repr", "any", "int", "type", "all", "sorted", "set", "str"]
def ins : List (Str × Int) := [("MOST_LEAVES", 12), ("MOST_NODES", 40), ("MOST_SIGNS", 400), ("MOST_ABOVE", 20), ("MOST_OPEN_ABOVE", 8), ("MOST_LETTERS", 8), ("MOST_DEEP", 20)]
def fR : List Str := ["signs", "at", "kinds", "parents", "names", "children", "begins", "ends"]
def fS : List Str := ["_text", "node_kinds", "parents", "names", "children", "spans", "nodes_of_leaves", "leaves_of_nodes", "levels"]
def mR : List Str := ["read_all", "_next_sign", "_take", "_can_begin", "_read_node", "_add_node", "_read_fields", "_read_name"]
def fEnd : List He.Fa := [.cls "SchemaReader", .cls "Schema", .mkr "SchemaReader", .mkr "Schema", .meth "Schema" "__len__"]
def fa : List He.Fa := gls.map .glo ++ frs.map .free ++ ins.map (fun p => .int p.1 p.2) ++ fR.map (.noat "SchemaReader") ++ fS.map (.noat "Schema") ++ mR.map (.meth "SchemaReader") ++ fEnd
section
variable {P : Program} {w : World} {K : PySem.W.Frag} {h : Heap} {mg : Str → Option Value}
theorem fact_of (c : He.SaysD fa fn K) {f : He.Fa} (m : f ∈ fa) : f.ok K = true :=
  List.all_eq_true.mp (He.ba (show ((fa.all fun f => f.ok K) && fn.all fun d => d.ok K) = true from congrArg (fun z : He.AlD => z.1) c)).1 f m
theorem m_glo {x : Str} (h : x ∈ gls) : He.Fa.glo x ∈ fa := by unfold fa; simp only [List.mem_append]; exact .inl (.inl (.inl (.inl (.inl (.inl (List.mem_map_of_mem h))))))
theorem m_fre {x : Str} (h : x ∈ frs) : He.Fa.free x ∈ fa := by unfold fa; simp only [List.mem_append]; exact .inl (.inl (.inl (.inl (.inl (.inr (List.mem_map_of_mem h))))))
theorem m_int {x : Str} {i : Int} (h : (x, i) ∈ ins) : He.Fa.int x i ∈ fa := by unfold fa; simp only [List.mem_append]; exact .inl (.inl (.inl (.inl (.inr (List.mem_map_of_mem (f := fun p : Str × Int => He.Fa.int p.1 p.2) h)))))
theorem m_fR {x : Str} (h : x ∈ fR) : He.Fa.noat "SchemaReader" x ∈ fa := by unfold fa; simp only [List.mem_append]; exact .inl (.inl (.inl (.inr (List.mem_map_of_mem h))))
theorem m_fS {x : Str} (h : x ∈ fS) : He.Fa.noat "Schema" x ∈ fa := by unfold fa; simp only [List.mem_append]; exact .inl (.inl (.inr (List.mem_map_of_mem h)))
theorem m_mR {x : Str} (h : x ∈ mR) : He.Fa.meth "SchemaReader" x ∈ fa := by unfold fa; simp only [List.mem_append]; exact .inl (.inr (List.mem_map_of_mem h))
theorem m_end {f : He.Fa} (h : f ∈ fEnd) : f ∈ fa := by unfold fa; simp only [List.mem_append]; exact .inr h
theorem glo (c : He.SaysD fa fn K) (X : K.In h) (G : h.Ns mainGlobals mg) {x : Str} (m : x ∈ gls) : mg x = some (.ref (He.ga K x)) := He.glo_ok X G (fact_of c (m_glo m))
theorem fre (c : He.SaysD fa fn K) (X : K.In h) (G : h.Ns mainGlobals mg) {x : Str} (m : x ∈ frs) : mg x = none := He.free_ok X G (fact_of c (m_fre m))
theorem int_ (c : He.SaysD fa fn K) (X : K.In h) (G : h.Ns mainGlobals mg) {x : Str} {i : Int} (m : (x, i) ∈ ins) : ∃ u, mg x = some u ∧ RelV (.int i) u := by
  obtain ⟨t, e⟩ := He.int_ok X G (fact_of c (m_int m))
  exact ⟨_, e, t, rfl⟩
/-- the dicts that the text writes -/
structure Dic (K : PySem.W.Frag) (w : World) : Prop where
  kd : ∃ es n, KDict K w (He.ga K "KIND_OF_SIGN") es n
  kv : KDct K w (He.ga K "KIND_OF_SIGN") (SX.S [118]) (.str "value")
  km : KDct K w (He.ga K "KIND_OF_SIGN") (SX.S [63]) (.str "maybe")
  kl : KDct K w (He.ga K "KIND_OF_SIGN") (SX.S [91]) (.str "list")
  kr : KDct K w (He.ga K "KIND_OF_SIGN") (SX.S [123]) (.str "record")
  wd : ∃ es n, KDict K w (He.ga K "SIGN_IN_WAY") es n
  wl : KDct K w (He.ga K "SIGN_IN_WAY") "list" (.str "l")
  wm : KDct K w (He.ga K "SIGN_IN_WAY") "maybe" (.str "m")
  wv : PySem.W.nsIn K (He.ga K "SIGN_IN_WAY") "value" = some none
  wr : PySem.W.nsIn K (He.ga K "SIGN_IN_WAY") "record" = some none
  fd : ∃ es n, KDict K w (He.ga K "KIND_FOR_WORD") es n
  f1 : KDct K w (He.ga K "KIND_FOR_WORD") "values" (.str "value")
  f2 : KDct K w (He.ga K "KIND_FOR_WORD") "sum" (.str "value")
  f3 : KDct K w (He.ga K "KIND_FOR_WORD") "least" (.str "value")
  f4 : KDct K w (He.ga K "KIND_FOR_WORD") "greatest" (.str "value")
  f5 : KDct K w (He.ga K "KIND_FOR_WORD") "lengths" (.str "list")
  f6 : KDct K w (He.ga K "KIND_FOR_WORD") "there" (.str "maybe")
theorem facts {f : Addr} (X : K.In h) (G : h.Ns mainGlobals mg) (hfa : mg ("law" : Str) = some (.ref f)) (c : He.SaysD fa fn K) (D : Dic K w) :
    ∃ fd : FuncData, (∀ (s : Shared) (v : Value), BindsTo s fd ⟨[v], []⟩ [("script", v)]) ∧ ∀ base : Heap, K.In base → base.Ns mainGlobals mg → FnG P w K mg base 51 f fd ["script"] (spE (C_law K)) := by
  obtain ⟨es, n, kd⟩ := D.kd
  obtain ⟨es2, n2, wd⟩ := D.wd
  obtain ⟨es3, n3, fdd⟩ := D.fd
  have RX : Rx K w mg (He.ga K "SchemaReader") (He.ga K "KIND_OF_SIGN") es n :=
    { z_len := fre c X G (by decide), cls := He.cls_ok (fact_of c (m_end (by simp [fEnd]))), f_signs := He.noat_ok (fact_of c (m_fR (by decide))), f_at := He.noat_ok (fact_of c (m_fR (by decide))), f_kinds := He.noat_ok (fact_of c (m_fR (by decide))), f_parents := He.noat_ok (fact_of c (m_fR (by decide))),
      f_names := He.noat_ok (fact_of c (m_fR (by decide))), f_children := He.noat_ok (fact_of c (m_fR (by decide))), f_begins := He.noat_ok (fact_of c (m_fR (by decide))), f_ends := He.noat_ok (fact_of c (m_fR (by decide))), g_MOST_LEAVES := int_ c X G (by decide), g_MOST_NODES := int_ c X G (by decide), g_MOST_SIGNS := int_ c X G (by decide), g_MOST_ABOVE := int_ c X G (by decide),
      g_MOST_OPEN_ABOVE := int_ c X G (by decide), g_MOST_LETTERS := int_ c X G (by decide), g_KIND_OF_SIGN := ⟨_, glo c X G (by decide), rfl⟩, dk := kd, kv := D.kv, km := D.km, kl := D.kl, kr := D.kr }
  have SX : Sx K w mg (He.ga K "Schema") (He.ga K "SchemaReader") (He.ga K "KIND_OF_SIGN") es n :=
    { rx := RX, z_tuple := fre c X G (by decide), z_enumerate := fre c X G (by decide), z_range := fre c X G (by decide), z_zip := fre c X G (by decide), cls := He.cls_ok (fact_of c (m_end (by simp [fEnd]))), f_text := He.noat_ok (fact_of c (m_fS (by decide))), f_node_kinds := He.noat_ok (fact_of c (m_fS (by decide))), f_parents := He.noat_ok (fact_of c (m_fS (by decide))),
      f_names := He.noat_ok (fact_of c (m_fS (by decide))), f_children := He.noat_ok (fact_of c (m_fS (by decide))), f_spans := He.noat_ok (fact_of c (m_fS (by decide))), f_nodes_of_leaves := He.noat_ok (fact_of c (m_fS (by decide))), f_leaves_of_nodes := He.noat_ok (fact_of c (m_fS (by decide))), f_levels := He.noat_ok (fact_of c (m_fS (by decide))) }
  have fr : ∀ {x : Str}, x ∈ frs → mg x = none := fun m => fre c X G m
  have TX : Tx mg := ⟨fr (by decide), fr (by decide), fr (by decide), fr (by decide), fr (by decide), fr (by decide), fr (by decide), fr (by decide), fr (by decide), fr (by decide), fr (by decide), fr (by decide), fr (by decide), fr (by decide), fr (by decide), fr (by decide), fr (by decide), fr (by decide)⟩
  have WX : Wx K w mg (He.ga K "SIGN_IN_WAY") es2 n2 := ⟨⟨_, glo c X G (by decide), rfl⟩, wd, D.wl, D.wm, D.wv, D.wr⟩
  have FX : Fx K w mg (He.ga K "KIND_FOR_WORD") es3 n3 := ⟨⟨_, glo c X G (by decide), rfl⟩, int_ c X G (by decide), fdd, D.f1, D.f2, D.f3, D.f4, D.f5, D.f6⟩
  obtain ⟨d0, F0⟩ := c.def_ 0 rfl
  have Gline_to : FnP K "line_to" s_line_to (He.ga K "line_to") d0 := F0
  have b_line_to : Binds K d0 ["schema", "node"] [] := Gline_to.bindsN fun _ _ _ _ _ _ us hl => match us, hl with | [_, _], _ => rfl
  obtain ⟨d1, F1⟩ := c.def_ 1 rfl
  have Gopen_line_to : FnP K "open_line_to" s_open_line_to (He.ga K "open_line_to") d1 := F1
  have b_open_line_to : Binds K d1 ["schema", "node"] [] := Gopen_line_to.bindsN fun _ _ _ _ _ _ us hl => match us, hl with | [_, _], _ => rfl
  obtain ⟨d2, F2⟩ := c.def_ 2 rfl
  have Gleaves_below : FnP K "leaves_below" s_leaves_below (He.ga K "leaves_below") d2 := F2
  have b_leaves_below : Binds K d2 ["schema", "node"] [] := Gleaves_below.bindsN fun _ _ _ _ _ _ us hl => match us, hl with | [_, _], _ => rfl
  obtain ⟨d3, F3⟩ := c.def_ 3 rfl
  have G_leaves_from : FnP K "_leaves_from" s__leaves_from (He.ga K "_leaves_from") d3 := F3
  have b__leaves_from : Binds K d3 ["schema", "node"] [] := G_leaves_from.bindsN fun _ _ _ _ _ _ us hl => match us, hl with | [_, _], _ => rfl
  obtain ⟨d4, F4⟩ := c.def_ 4 rfl
  have G_count_levels : FnP K "_count_levels" s__count_levels (He.ga K "_count_levels") d4 := F4
  have b__count_levels : Binds K d4 ["schema", "node"] [] := G_count_levels.bindsN fun _ _ _ _ _ _ us hl => match us, hl with | [_, _], _ => rfl
  obtain ⟨d5, F5⟩ := c.def_ 5 rfl
  have Gis_filtered_node : FnP K "is_filtered_node" s_is_filtered_node (He.ga K "is_filtered_node") d5 := F5
  have b_is_filtered_node : Binds K d5 ["schema", "thing"] [] := Gis_filtered_node.bindsN fun _ _ _ _ _ _ us hl => match us, hl with | [_, _], _ => rfl
  obtain ⟨d6, F6⟩ := c.def_ 6 rfl
  have Gis_test : FnP K "is_test" s_is_test (He.ga K "is_test") d6 := F6
  have b_is_test : Binds K d6 ["schema", "node", "thing", "deep"] [] := Gis_test.bindsN fun _ _ _ _ _ _ us hl => match us, hl with | [_, _, _, _], _ => rfl
  obtain ⟨d7, F7⟩ := c.def_ 7 rfl
  have Gtest_nodes : FnP K "test_nodes" s_test_nodes (He.ga K "test_nodes") d7 := F7
  have b_test_nodes : Binds K d7 ["test"] [] := Gtest_nodes.bindsN fun _ _ _ _ _ _ us hl => match us, hl with | [_], _ => rfl
  obtain ⟨d8, F8⟩ := c.def_ 8 rfl
  have G_is_comparison : FnP K "_is_comparison" s__is_comparison (He.ga K "_is_comparison") d8 := F8
  have b__is_comparison : Binds K d8 ["schema", "node", "thing"] [] := G_is_comparison.bindsN fun _ _ _ _ _ _ us hl => match us, hl with | [_, _, _], _ => rfl
  obtain ⟨d9, F9⟩ := c.def_ 9 rfl
  have Gneeds_of : FnP K "needs_of" s_needs_of (He.ga K "needs_of") d9 := F9
  have b_needs_of : Binds K d9 ["schema", "ask"] [] := Gneeds_of.bindsN fun _ _ _ _ _ _ us hl => match us, hl with | [_, _], _ => rfl
  obtain ⟨d10, F10⟩ := c.def_ 10 rfl
  have Gcheck_ask : FnP K "check_ask" s_check_ask (He.ga K "check_ask") d10 := F10
  have b_check_ask : Binds K d10 ["schema", "ask"] [] := Gcheck_ask.bindsN fun _ _ _ _ _ _ us hl => match us, hl with | [_, _], _ => rfl
  obtain ⟨d11, F11⟩ := c.def_ 11 rfl
  have G_is_ask : FnP K "_is_ask" s__is_ask (He.ga K "_is_ask") d11 := F11
  have b__is_ask : Binds K d11 ["schema", "thing", "deep"] [] := G_is_ask.bindsN fun _ _ _ _ _ _ us hl => match us, hl with | [_, _, _], _ => rfl
  obtain ⟨d12, F12⟩ := c.def_ 12 rfl
  have G_needs : FnP K "_needs" s__needs (He.ga K "_needs") d12 := F12
  have b__needs : Binds K d12 ["schema", "ask"] [] := G_needs.bindsN fun _ _ _ _ _ _ us hl => match us, hl with | [_, _], _ => rfl
  obtain ⟨d13, F13⟩ := c.def_ 13 rfl
  have G_needed_node : FnP K "_needed_node" s__needed_node (He.ga K "_needed_node") d13 := F13
  have b__needed_node : Binds K d13 ["schema", "ask"] [] := G_needed_node.bindsN fun _ _ _ _ _ _ us hl => match us, hl with | [_, _], _ => rfl
  obtain ⟨d14, F14⟩ := c.def_ 14 rfl
  have G_law_tape : FnP K "_law_tape" s__law_tape (He.ga K "_law_tape") d14 := F14
  have b__law_tape : Binds K d14 ["script", "k"] [] := G_law_tape.bindsN fun _ _ _ _ _ _ us hl => match us, hl with | [_, _], _ => rfl
  obtain ⟨d15, F15⟩ := c.def_ 15 rfl
  have G_law_next : FnP K "_law_next" s__law_next (He.ga K "_law_next") d15 := F15
  have b__law_next : Binds K d15 ["tape", "many"] [] := G_law_next.bindsN fun _ _ _ _ _ _ us hl => match us, hl with | [_, _], _ => rfl
  obtain ⟨d16, F16⟩ := c.def_ 16 rfl
  have G_law_tree : FnP K "_law_tree" s__law_tree (He.ga K "_law_tree") d16 := F16
  have b__law_tree : Binds K d16 ["tape", "left", "opens", "deep", "count"] [] := G_law_tree.bindsN fun _ _ _ _ _ _ us hl => match us, hl with | [_, _, _, _, _], _ => rfl
  obtain ⟨d17, F17⟩ := c.def_ 17 rfl
  have G_law_text : FnP K "_law_text" s__law_text (He.ga K "_law_text") d17 := F17
  have b__law_text : Binds K d17 ["tree"] [] := G_law_text.bindsN fun _ _ _ _ _ _ us hl => match us, hl with | [_], _ => rfl
  obtain ⟨d18, F18⟩ := c.def_ 18 rfl
  have G_law_all : FnP K "_law_all" s__law_all (He.ga K "_law_all") d18 := F18
  have b__law_all : Binds K d18 ["tree"] [] := G_law_all.bindsN fun _ _ _ _ _ _ us hl => match us, hl with | [_], _ => rfl
  obtain ⟨d19, F19⟩ := c.def_ 19 rfl
  have G_law_open_above : FnP K "_law_open_above" s__law_open_above (He.ga K "_law_open_above") d19 := F19
  have b__law_open_above : Binds K d19 ["tree", "spot", "last"] [] := G_law_open_above.bindsN fun _ _ _ _ _ _ us hl => match us, hl with | [_, _, _], _ => rfl
  obtain ⟨d20, F20⟩ := c.def_ 20 rfl
  have G_law_wish : FnP K "_law_wish" s__law_wish (He.ga K "_law_wish") d20 := F20
  have b__law_wish : Binds K d20 ["tape", "tree"] [] := G_law_wish.bindsN fun _ _ _ _ _ _ us hl => match us, hl with | [_, _], _ => rfl
  obtain ⟨d21, F21⟩ := c.def_ 21 rfl
  have G_law_test : FnP K "_law_test" s__law_test (He.ga K "_law_test") d21 := F21
  have b__law_test : Binds K d21 ["tape", "tree", "spot", "levels"] [] := G_law_test.bindsN fun _ _ _ _ _ _ us hl => match us, hl with | [_, _, _, _], _ => rfl
  obtain ⟨d22, F22⟩ := c.def_ 22 rfl
  have G_law_right : FnP K "_law_right" s__law_right (He.ga K "_law_right") d22 := F22
  have b__law_right : Binds K d22 ["tape"] [] := G_law_right.bindsN fun _ _ _ _ _ _ us hl => match us, hl with | [_], _ => rfl
  obtain ⟨d23, F23⟩ := c.def_ 23 rfl
  have Glaw : FnP K "law" s_law (He.ga K "law") d23 := F23
  have b_law := FunD.bindsA (ps := ["script"]) Glaw fun _ _ _ _ _ _ us hl => match us, hl with | [_], _ => rfl
  obtain ⟨d24, F24⟩ := c.def_ 24 rfl
  have b24 : Binds K d24 ["self", "text"] [] := F24.bindsN fun _ _ _ _ _ _ us hl => match us, hl with | [_, _], _ => rfl
  -- SchemaReader.__init__ is d24 F24 b24
  obtain ⟨d25, F25⟩ := c.def_ 25 rfl
  have b25 : Binds K d25 ["self"] [] := F25.bindsN fun _ _ _ _ _ _ us hl => match us, hl with | [_], _ => rfl
  -- SchemaReader.read_all is d25 F25 b25
  obtain ⟨d26, F26⟩ := c.def_ 26 rfl
  have b26 : Binds K d26 ["self"] [] := F26.bindsN fun _ _ _ _ _ _ us hl => match us, hl with | [_], _ => rfl
  -- SchemaReader._next_sign is d26 F26 b26
  obtain ⟨d27, F27⟩ := c.def_ 27 rfl
  have b27 : Binds K d27 ["self", "sign"] [] := F27.bindsN fun _ _ _ _ _ _ us hl => match us, hl with | [_, _], _ => rfl
  -- SchemaReader._take is d27 F27 b27
  obtain ⟨d28, F28⟩ := c.def_ 28 rfl
  have b28 : Binds K d28 ["self", "sign", "above", "open_above"] [] := F28.bindsN fun _ _ _ _ _ _ us hl => match us, hl with | [_, _, _, _], _ => rfl
  -- SchemaReader._can_begin is d28 F28 b28
  obtain ⟨d29, F29⟩ := c.def_ 29 rfl
  have b29 : Binds K d29 ["self", "parent", "name", "above", "open_above"] [] := F29.bindsN fun _ _ _ _ _ _ us hl => match us, hl with | [_, _, _, _, _], _ => rfl
  -- SchemaReader._read_node is d29 F29 b29
  obtain ⟨d30, F30⟩ := c.def_ 30 rfl
  have b30 : Binds K d30 ["self", "kind", "parent", "name"] [] := F30.bindsN fun _ _ _ _ _ _ us hl => match us, hl with | [_, _, _, _], _ => rfl
  -- SchemaReader._add_node is d30 F30 b30
  obtain ⟨d31, F31⟩ := c.def_ 31 rfl
  have b31 : Binds K d31 ["self", "node", "above", "open_above"] [] := F31.bindsN fun _ _ _ _ _ _ us hl => match us, hl with | [_, _, _, _], _ => rfl
  -- SchemaReader._read_fields is d31 F31 b31
  obtain ⟨d32, F32⟩ := c.def_ 32 rfl
  have b32 : Binds K d32 ["self", "taken"] [] := F32.bindsN fun _ _ _ _ _ _ us hl => match us, hl with | [_, _], _ => rfl
  -- SchemaReader._read_name is d32 F32 b32
  obtain ⟨d33, F33⟩ := c.def_ 33 rfl
  have b33 : Binds K d33 ["self", "text"] [] := F33.bindsN fun _ _ _ _ _ _ us hl => match us, hl with | [_, _], _ => rfl
  -- Schema.__init__ is d33 F33 b33
  obtain ⟨d34, F34⟩ := c.def_ 34 rfl
  have b34 : Binds K d34 ["self"] [] := F34.bindsN fun _ _ _ _ _ _ us hl => match us, hl with | [_], _ => rfl
  -- Schema.__len__ is d34 F34 b34
  have me : ∀ x, x ∈ mR → Meth K (He.ga K "SchemaReader") x (He.ma K (He.ga K "SchemaReader") x) := fun x hx => He.meth_ok (fact_of c (m_mR hx))
  have M : RM K (He.ga K "SchemaReader") := ⟨⟨_, _, He.mkr_ok (fact_of c (m_end (by simp [fEnd]))), F24, b24⟩, ⟨_, _, me _ (by decide), F25, b25⟩, ⟨_, _, me _ (by decide), F26, b26⟩, ⟨_, _, me _ (by decide), F27, b27⟩, ⟨_, _, me _ (by decide), F28, b28⟩,
    ⟨_, _, me _ (by decide), F29, b29⟩, ⟨_, _, me _ (by decide), F30, b30⟩, ⟨_, _, me _ (by decide), F31, b31⟩, ⟨_, _, me _ (by decide), F32, b32⟩⟩
  have krf : KRev K d9 ["schema", "ask"] ["ask", "schema"] := by
    obtain ⟨oc, od, dV, kV, doc, pm, an, cdv, ct, osl, rfl, lk, hcd, hD, _⟩ := Gneeds_of.ex
    rcases hD with ⟨_, rfl⟩ | ⟨e, _⟩
    · exact fun s ws _ hl => match ws, hl with | [_, _], _ => .of_eq rfl
    · exact absurd rfl e
  have g := fun x hx => glo c X G (x := x) hx
  have el := hfa.symm.trans (g "law" (by decide))
  cases el
  refine ⟨d23, fun s v => b_law s [v] rfl, fun base _ _ => ?_⟩
  have cal : ∀ {x : Str} {st : Stmt} {fd : FuncData} {ps : List Str} {k : Nat} {sp : L2.Sp}, FnP K x st (He.ga K x) fd → Binds K fd ps [] → x ∈ gls → FnOk P w K mg base CX0 k (He.ga K x) fd ps sp → Cal P w K mg base k x sp := fun {x st fd ps k sp} F b m q => ⟨_, fd, ps, q, g x m, F.kp, b⟩
  have cNext := cal G_law_next b__law_next (by decide) (ok_lnext (base := base) (P := P) (w := w) (mg := mg) G_law_next)
  have cTape := cal G_law_tape b__law_tape (by decide) (ok_tape (base := base) (P := P) (w := w) TX G_law_tape)
  have cTree := cal G_law_tree b__law_tree (by decide) (ok_tree TX cNext G_law_tree G_law_tree.kp (g _ (by decide)) b__law_tree 5)
  have cText := cal G_law_text b__law_text (by decide) (ok_text (base := base) (P := P) (w := w) TX G_law_text G_law_text.kp (g _ (by decide)) b__law_text 7)
  have cAll := cal G_law_all b__law_all (by decide) (ok_all_ (base := base) (P := P) (w := w) TX G_law_all G_law_all.kp (g _ (by decide)) b__law_all 7)
  have cOab := cal G_law_open_above b__law_open_above (by decide) (ok_oab cAll G_law_open_above G_law_open_above.kp (g _ (by decide)) b__law_open_above 7 (by decide))
  have cWish := cal G_law_wish b__law_wish (by decide) (ok_wish TX cNext cAll G_law_wish)
  have cTest := cal G_law_test b__law_test (by decide) (ok_test TX cNext cAll G_law_test G_law_test.kp (g _ (by decide)) b__law_test 3 (by decide))
  have mNode : C8.Met P w K mg base 46 (He.ga K "SchemaReader") "_read_node" (spNode (He.ga K "SchemaReader") 21) [] := met_node RX M 21
  have mAll : C8.Met P w K mg base 47 (He.ga K "SchemaReader") "read_all" (spAll (He.ga K "SchemaReader")) [] := M.all.met RX.cls fun f fd F => ok_all RX mNode F
  have kR : C8.Mak P w K mg base 1 "SchemaReader" (He.ga K "SchemaReader") (spRInit (He.ga K "SchemaReader")) [] := ⟨_, _, _, [], He.mkr_ok (fact_of c (m_end (by simp [fEnd]))), ok_rinit RX F24, g _ (by decide), b24, .nil⟩
  have cLine := cal Gline_to b_line_to (by decide) (ok_line (base := base) (P := P) SX Gline_to)
  have cLineM := cal Gline_to b_line_to (by decide) (ok_lineM (base := base) (P := P) (w := w) (mg := mg) (CS := He.ga K "Schema") Gline_to)
  have cOline := cal Gopen_line_to b_open_line_to (by decide) (ok_oline SX WX cLine Gopen_line_to)
  have cOlineI := cal Gopen_line_to b_open_line_to (by decide) (ok_olineI SX WX cLine cLineM Gopen_line_to)
  have cLf := cal G_leaves_from b__leaves_from (by decide) (ok_lf SX cLine G_leaves_from)
  have cKc := cal G_count_levels b__count_levels (by decide) (ok_kc SX cOline G_count_levels)
  have kS : C8.Mak P w K mg base 48 "Schema" (He.ga K "Schema") (spMk (He.ga K "Schema") (C_sch (He.ga K "Schema"))) [] := ⟨_, _, _, [], He.mkr_ok (fact_of c (m_end (by simp [fEnd]))), ok_sinit SX kR mAll cLf cKc F33, g _ (by decide), b33, .nil⟩
  have ml := He.meth_ok (fact_of c (m_end (f := .meth "Schema" "__len__") (by simp [fEnd])))
  have SL : SLen P w K mg base (He.ga K "Schema") := ⟨_, d34, _, ok_slen SX F34, ml.at_, ml.fn, b34⟩
  have cLb := cal Gleaves_below b_leaves_below (by decide) (ok_lb TX SX SL Gleaves_below)
  have cCmp := cal G_is_comparison b__is_comparison (by decide) (ok_cmp TX SX cLb G_is_comparison)
  have cIst := cal Gis_test b_is_test (by decide) (ok_ist TX cCmp Gis_test Gis_test.kp (g _ (by decide)) b_is_test 20)
  have cIfn := cal Gis_filtered_node b_is_filtered_node (by decide) (ok_ifn (base := base) (P := P) TX SX Gis_filtered_node)
  have cAsk := cal G_is_ask b__is_ask (by decide) (ok_ask TX SX FX cIfn cIst G_is_ask G_is_ask.kp (g _ (by decide)) b__is_ask 4)
  have cTn := cal Gtest_nodes b_test_nodes (by decide) (ok_tn (base := base) (P := P) (w := w) Gtest_nodes Gtest_nodes.kp (g _ (by decide)) b_test_nodes 20)
  have cNn := cal G_needed_node b__needed_node (by decide) (ok_nn TX cOlineI G_needed_node)
  have cNeeds := cal G_needs b__needs (by decide) (ok_needs TX cTn cNn G_needs)
  have cCa := cal Gcheck_ask b_check_ask (by decide) (ok_ca TX FX cAsk Gcheck_ask)
  have okNo := ok_no TX cCa cNeeds Gneeds_of
  have cNo := cal Gneeds_of b_needs_of (by decide) okNo
  have ckNo : CalK P w K mg base 31 "needs_of" ["ask", "schema"] (spF (C_no (He.ga K "Schema"))) := ⟨_, _, _, okNo, g _ (by decide), Gneeds_of.kp, krf⟩
  have cRight : CalG P w K mg base 50 "_law_right" (spY K3 (C_right (He.ga K "Schema"))) := ⟨_, _, _, ok_right TX cNext cTree cText cAll kS cWish cOab cTest cNo ckNo G_law_right, g _ (by decide), G_law_right.kp, b__law_right⟩
  exact ok_law TX cTape cRight kS cNo Glaw
end
end Lw
section
set_option Elab.async false
set_option maxRecDepth 100000
set_option maxHeartbeats 0
open PySem W PyProof Rows
open_top hd for PySem.Challenge.rw_levelcolumns_k43_nodes_that_asks_need
end
set_option Elab.async false
set_option linter.all false
set_option maxRecDepth 100000
set_option maxHeartbeats 0
namespace Lw
open PySem PySem.Spec PyProof.Rows L2 DL
theorem says4 (P : Params) : He.SaysD fa fn (hd.heap_39 P) := by
  show He.obsD fa fn (hd.heap_39 P) = He.valD fn
  kernel_rfl
def ekd (P : Params) : Array DictEntry := let k := fun (x : Str) => PyData.keyHash P x; #[⟨k "v", .str "v" 264, .str "value" 265⟩, ⟨k "?", .str "?" 266, .str "maybe" 267⟩, ⟨k "[", .str "[" 268, .str "list" 269⟩, ⟨k "{", .str "{" 270, .str "record" 271⟩]
theorem lk_kd (P : Params) : List.lookup (He.ga (hd.heap_39 P) "KIND_OF_SIGN") (hd.heap_39 P) = some ⟨.type "dict", none, .dict (ekd P) 4, #[]⟩ := by kernel_rfl
theorem lit_kd (P : Params) : PySem.W.KeysLit P (ekd P).toList := ⟨⟨_, _, rfl, rfl⟩, ⟨_, _, rfl, rfl⟩, ⟨_, _, rfl, rfl⟩, ⟨_, _, rfl, rfl⟩, trivial⟩
theorem low_kd (P : Params) : (He.ga (hd.heap_39 P) "KIND_OF_SIGN" == sysModules) = false := by kernel_rfl
theorem nv_kv (P : Params) : PySem.W.nsIn (hd.heap_39 P) (He.ga (hd.heap_39 P) "KIND_OF_SIGN") (SX.S [118]) = some (some (.str "value" 265)) := by kernel_rfl
theorem nv_km (P : Params) : PySem.W.nsIn (hd.heap_39 P) (He.ga (hd.heap_39 P) "KIND_OF_SIGN") (SX.S [63]) = some (some (.str "maybe" 267)) := by kernel_rfl
theorem nv_kl (P : Params) : PySem.W.nsIn (hd.heap_39 P) (He.ga (hd.heap_39 P) "KIND_OF_SIGN") (SX.S [91]) = some (some (.str "list" 269)) := by kernel_rfl
theorem nv_kr (P : Params) : PySem.W.nsIn (hd.heap_39 P) (He.ga (hd.heap_39 P) "KIND_OF_SIGN") (SX.S [123]) = some (some (.str "record" 271)) := by kernel_rfl
def ewd (P : Params) : Array DictEntry := let k := fun (x : Str) => PyData.keyHash P x; #[⟨k "list", .str "list" 394, .str "l" 395⟩, ⟨k "maybe", .str "maybe" 396, .str "m" 397⟩]
theorem lk_wd (P : Params) : List.lookup (He.ga (hd.heap_39 P) "SIGN_IN_WAY") (hd.heap_39 P) = some ⟨.type "dict", none, .dict (ewd P) 2, #[]⟩ := by kernel_rfl
theorem lit_wd (P : Params) : PySem.W.KeysLit P (ewd P).toList := ⟨⟨_, _, rfl, rfl⟩, ⟨_, _, rfl, rfl⟩, trivial⟩
theorem low_wd (P : Params) : (He.ga (hd.heap_39 P) "SIGN_IN_WAY" == sysModules) = false := by kernel_rfl
theorem nv_wl (P : Params) : PySem.W.nsIn (hd.heap_39 P) (He.ga (hd.heap_39 P) "SIGN_IN_WAY") "list" = some (some (.str "l" 395)) := by kernel_rfl
theorem nv_wm (P : Params) : PySem.W.nsIn (hd.heap_39 P) (He.ga (hd.heap_39 P) "SIGN_IN_WAY") "maybe" = some (some (.str "m" 397)) := by kernel_rfl
theorem nv_wv (P : Params) : PySem.W.nsIn (hd.heap_39 P) (He.ga (hd.heap_39 P) "SIGN_IN_WAY") "value" = some none := by kernel_rfl
theorem nv_wr (P : Params) : PySem.W.nsIn (hd.heap_39 P) (He.ga (hd.heap_39 P) "SIGN_IN_WAY") "record" = some none := by kernel_rfl
def efd (P : Params) : Array DictEntry := let k := fun (x : Str) => PyData.keyHash P x; #[⟨k "values", .str "values" 534, .str "value" 535⟩, ⟨k "sum", .str "sum" 536, .str "value" 537⟩, ⟨k "least", .str "least" 538, .str "value" 539⟩, ⟨k "greatest", .str "greatest" 540, .str "value" 541⟩, ⟨k "lengths", .str "lengths" 542, .str "list" 543⟩, ⟨k "there", .str "there" 544, .str "maybe" 545⟩]
theorem lk_fd (P : Params) : List.lookup (He.ga (hd.heap_39 P) "KIND_FOR_WORD") (hd.heap_39 P) = some ⟨.type "dict", none, .dict (efd P) 6, #[]⟩ := by kernel_rfl
theorem lit_fd (P : Params) : PySem.W.KeysLit P (efd P).toList := ⟨⟨_, _, rfl, rfl⟩, ⟨_, _, rfl, rfl⟩, ⟨_, _, rfl, rfl⟩, ⟨_, _, rfl, rfl⟩, ⟨_, _, rfl, rfl⟩, ⟨_, _, rfl, rfl⟩, trivial⟩
theorem low_fd (P : Params) : (He.ga (hd.heap_39 P) "KIND_FOR_WORD" == sysModules) = false := by kernel_rfl
theorem nv_f1 (P : Params) : PySem.W.nsIn (hd.heap_39 P) (He.ga (hd.heap_39 P) "KIND_FOR_WORD") "values" = some (some (.str "value" 535)) := by kernel_rfl
theorem nv_f2 (P : Params) : PySem.W.nsIn (hd.heap_39 P) (He.ga (hd.heap_39 P) "KIND_FOR_WORD") "sum" = some (some (.str "value" 537)) := by kernel_rfl
theorem nv_f3 (P : Params) : PySem.W.nsIn (hd.heap_39 P) (He.ga (hd.heap_39 P) "KIND_FOR_WORD") "least" = some (some (.str "value" 539)) := by kernel_rfl
theorem nv_f4 (P : Params) : PySem.W.nsIn (hd.heap_39 P) (He.ga (hd.heap_39 P) "KIND_FOR_WORD") "greatest" = some (some (.str "value" 541)) := by kernel_rfl
theorem nv_f5 (P : Params) : PySem.W.nsIn (hd.heap_39 P) (He.ga (hd.heap_39 P) "KIND_FOR_WORD") "lengths" = some (some (.str "list" 543)) := by kernel_rfl
theorem nv_f6 (P : Params) : PySem.W.nsIn (hd.heap_39 P) (He.ga (hd.heap_39 P) "KIND_FOR_WORD") "there" = some (some (.str "maybe" 545)) := by kernel_rfl
theorem dic4 (w : World) : Dic (hd.heap_39 w.params) w where
  kd := ⟨_, _, lk_kd _, lit_kd _, low_kd _⟩
  kv := ⟨_, _, _, lk_kd _, lit_kd _, nv_kv _, _, rfl⟩
  km := ⟨_, _, _, lk_kd _, lit_kd _, nv_km _, _, rfl⟩
  kl := ⟨_, _, _, lk_kd _, lit_kd _, nv_kl _, _, rfl⟩
  kr := ⟨_, _, _, lk_kd _, lit_kd _, nv_kr _, _, rfl⟩
  wd := ⟨_, _, lk_wd _, lit_wd _, low_wd _⟩
  wl := ⟨_, _, _, lk_wd _, lit_wd _, nv_wl _, _, rfl⟩
  wm := ⟨_, _, _, lk_wd _, lit_wd _, nv_wm _, _, rfl⟩
  wv := nv_wv _
  wr := nv_wr _
  fd := ⟨_, _, lk_fd _, lit_fd _, low_fd _⟩
  f1 := ⟨_, _, _, lk_fd _, lit_fd _, nv_f1 _, _, rfl⟩
  f2 := ⟨_, _, _, lk_fd _, lit_fd _, nv_f2 _, _, rfl⟩
  f3 := ⟨_, _, _, lk_fd _, lit_fd _, nv_f3 _, _, rfl⟩
  f4 := ⟨_, _, _, lk_fd _, lit_fd _, nv_f4 _, _, rfl⟩
  f5 := ⟨_, _, _, lk_fd _, lit_fd _, nv_f5 _, _, rfl⟩
  f6 := ⟨_, _, _, lk_fd _, lit_fd _, nv_f6 _, _, rfl⟩
end Lw
open PySem PySem.W PyProof.Rows in
theorem PySem.Challenge.cw_levelcolumns_k43_nodes_that_asks_need_holds : PySem.Challenge.rw_levelcolumns_k43_nodes_that_asks_need.Holds := by
  refine hd (DL.walkG (l := PySem.Challenge.rw_levelcolumns_k43_nodes_that_asks_need) (n := 63) (k := 51) (px := "script") (KP := hd.heap_39) (pr := fun K => DL.spE (Lw.C_law K)) rfl (by decide) rfl ⟨rfl, by decide, by decide⟩ (fun w h Y => PySem.W.kIn_of Y) ?F fun K H a ns h1 h2 => Lw.law_sp K H a ns h1 h2)
  intro w mg f h X G hm
  exact Lw.facts X G hm (Lw.says4 _) (Lw.dic4 w)
