import PyProof.Rows.All
import Wide.All
import OpenK.AllK
import Wide.FinOn
import HandS.ForMost
import HandS.ForExc
import HandS.Walk
import HandS.Style
import HandS.Defaults
import HandS.Conv
import HandS.Codes
import HandS.ExcInit
import HandS.ExcSuper
import KE.KExcSuper
import KE.KSuper
import HandS.ExcIs
import HandS.ExcField
import HandS.IsInst
import HandS.ExcValue
import KE.KExcIs
import PyProof.InstNe
import HandS.Dict
import HandS.MakeKwOnly
import HandS.HeadHook1
import HandS.HeadHook2
import PyProof.ReprRoads
import HandS.WideBits
import HandS.FStr
import PySem.Challenge.RW_levelcolumns_k78_errors_made
set_option Elab.async false
set_option linter.all false
set_option Elab.async false
set_option linter.all false
set_option maxRecDepth 100000
set_option maxHeartbeats 4000000
/-! DL: data over the hand layer. D: what a value is (immutable view); Rep: how the frozen heap bears it; En: what a slot holds; Good: the state of a def's body against its entry. -/
namespace DL
open PySem PySem.Spec PyProof.Rows L2

inductive D where
  | non | bl (b : Bool) | int (i : Int) | str (x : Str) | ref (a : Addr) | ty (n : String)
  | lst (ds : List D) | tup (ds : List D)
  | obj (C : Addr) (fs : List (Str × D))
  | scr (a : Addr) (ns : List Int) (p : Prop)
  | dct (kvs : List (Str × D))
  | dki (p : Int → Bool)
  | opq (p : Hp → V → Prop)

/-- an entry of a dict with text keys -/
def kvV (p : Str × V) : Key × V := (.inr p.1, p.2)
mutual
def Rep (F : Hp) : D → V → Prop
  | .non, v => v = .non
  | .bl b, v => v = .bl b
  | .int i, v => v = .int i
  | .str x, v => v = .str x
  | .ref a, v => v = .ref a
  | .ty n, v => v = .ty n
  | .lst ds, v => ∃ a xs, v = .ref a ∧ F a = some (.lst xs) ∧ Reps F ds xs
  | .tup ds, v => ∃ a xs, v = .ref a ∧ F a = some (.tup xs) ∧ Reps F ds xs
  | .obj C fs, v => ∃ a dx xs, v = .ref a ∧ F a = some (.ins C dx xs) ∧ RepF F fs xs
  | .scr a ns p, v => v = .ref a ∧ (F a = some (.lst (ns.map V.int)) ∨ (∃ o, F a = some (.frz o (.lst (ns.map V.int)))) ∨ p)
  | .dct kvs, v => ∃ a xs, v = .ref a ∧ F a = some (.dK (xs.map kvV)) ∧ RepF F kvs xs
  | .dki p, v => ∃ a kvs, v = .ref a ∧ F a = some (.dK kvs) ∧ ∀ i : Int, (valV kvs (Sum.inl i : Key)).isSome = p i
  | .opq p, v => ∃ F0 : Hp, (∀ a o, F0 a = some o → F a = some o) ∧ p F0 v
def Reps (F : Hp) : List D → List V → Prop
  | [], xs => xs = []
  | d :: ds, xs => ∃ v r, xs = v :: r ∧ Rep F d v ∧ Reps F ds r
def RepF (F : Hp) : List (Str × D) → List (Str × V) → Prop
  | [], xs => xs = []
  | (f, d) :: ds, xs => ∃ v r, xs = (f, v) :: r ∧ Rep F d v ∧ RepF F ds r
end
variable {K : PySem.W.Frag}

/-- the frozen heap grows -/
abbrev Ex (H H' : Hp) : Prop := ∀ a o, H a = some o → H' a = some o
theorem Ex.refl (H : Hp) : Ex H H := fun _ _ h => h
theorem Ex.trans {H H1 H2 : Hp} (a : Ex H H1) (b : Ex H1 H2) : Ex H H2 := fun x o h => b x o (a x o h)
theorem Ex.new {H : Hp} {p : Addr} {o : HO} (h : H p = none) : Ex H (upd H p o) := fun a u e => by
  rw [upd_ne (ne_of_none e h)]
  exact e
theorem ex_rd {H H' : Hp} {a : Addr} {u : HO} (e : Ex H H') (h : Rd H a u) : Rd H' a u := by
  rcases h with h | ⟨o, h⟩
  · exact Or.inl (e a _ h)
  · exact Or.inr ⟨o, e a _ h⟩
theorem ex_l {H H' : Hp} {a : Addr} {xs : List V} (e : Ex H H') (h : SqL K H a xs) : SqL K H' a xs := by
  rcases h with h | h
  · exact Or.inl (ex_rd e h)
  · exact Or.inr h
theorem ex_t {H H' : Hp} {a : Addr} {xs : List V} (e : Ex H H') (h : SqT K H a xs) : SqT K H' a xs := by
  rcases h with h | h
  · exact Or.inl (ex_rd e h)
  · exact Or.inr h
mutual
theorem Rep.mono {F F' : Hp} (e : Ex F F') : ∀ {d : D} {v : V}, Rep F d v → Rep F' d v
  | .non, _, h => h
  | .bl _, _, h => h
  | .int _, _, h => h
  | .str _, _, h => h
  | .ref _, _, h => h
  | .ty _, _, h => h
  | .lst ds, _, ⟨a, xs, h1, h2, h3⟩ => ⟨a, xs, h1, e _ _ h2, Reps.mono e h3⟩
  | .tup ds, _, ⟨a, xs, h1, h2, h3⟩ => ⟨a, xs, h1, e _ _ h2, Reps.mono e h3⟩
  | .obj C fs, _, ⟨a, dx, xs, h1, h2, h3⟩ => ⟨a, dx, xs, h1, e _ _ h2, RepF.mono e h3⟩
  | .scr a ns p, _, ⟨h1, h2⟩ => ⟨h1, h2.imp (e _ _) (fun h => h.imp (fun ⟨o, q⟩ => ⟨o, e _ _ q⟩) fun q => q)⟩
  | .dct kvs, _, ⟨a, xs, h1, h2, h3⟩ => ⟨a, xs, h1, e _ _ h2, RepF.mono e h3⟩
  | .dki p, _, ⟨a, kvs, h1, h2, h3⟩ => ⟨a, kvs, h1, e _ _ h2, h3⟩
  | .opq p, _, ⟨F0, h1, h2⟩ => ⟨F0, fun a o z => e _ _ (h1 a o z), h2⟩
theorem Reps.mono {F F' : Hp} (e : Ex F F') : ∀ {ds : List D} {xs : List V}, Reps F ds xs → Reps F' ds xs
  | [], _, h => h
  | _ :: _, _, ⟨v, r, h1, h2, h3⟩ => ⟨v, r, h1, Rep.mono e h2, Reps.mono e h3⟩
theorem RepF.mono {F F' : Hp} (e : Ex F F') : ∀ {ds : List (Str × D)} {xs : List (Str × V)}, RepF F ds xs → RepF F' ds xs
  | [], _, h => h
  | (_, _) :: _, _, ⟨v, r, h1, h2, h3⟩ => ⟨v, r, h1, Rep.mono e h2, RepF.mono e h3⟩
end
theorem Reps.length {F : Hp} : ∀ {ds : List D} {xs : List V}, Reps F ds xs → xs.length = ds.length
  | [], _, h => by cases h; rfl
  | _ :: _, _, ⟨v, r, h1, _, h3⟩ => by cases h1; simp [Reps.length h3]
theorem Reps.get {F : Hp} : ∀ {ds : List D} {xs : List V} {i : Nat} {d : D}, Reps F ds xs → ds[i]? = some d → ∃ v, xs[i]? = some v ∧ Rep F d v
  | [], _, _, _, _, e => by simp at e
  | _ :: _, _, 0, _, ⟨v, r, h1, h2, _⟩, e => by cases h1; simp at e; subst e; exact ⟨v, rfl, h2⟩
  | _ :: _, _, i + 1, _, ⟨v, r, h1, _, h3⟩, e => by
    cases h1
    obtain ⟨u, e1, e2⟩ := Reps.get (i := i) h3 (by simpa using e)
    exact ⟨u, by simpa using e1, e2⟩
theorem Reps.get' {F : Hp} {ds : List D} {xs : List V} {i : Nat} {v : V} (h : Reps F ds xs) (e : xs[i]? = some v) : ∃ d, ds[i]? = some d ∧ Rep F d v := by
  have hi : i < ds.length := by
    rw [← h.length]
    exact (List.getElem?_eq_some_iff.mp e).1
  obtain ⟨u, e1, r⟩ := h.get (List.getElem?_eq_getElem hi)
  rw [e] at e1
  cases e1
  exact ⟨_, List.getElem?_eq_getElem hi, r⟩
theorem Reps.append {F : Hp} : ∀ {ds es : List D} {xs ys : List V}, Reps F ds xs → Reps F es ys → Reps F (ds ++ es) (xs ++ ys)
  | [], _, _, _, h, g => by cases h; exact g
  | _ :: _, _, _, _, ⟨v, r, h1, h2, h3⟩, g => by cases h1; exact ⟨v, r ++ _, rfl, h2, h3.append g⟩
theorem Reps.one {F : Hp} {d : D} {v : V} (h : Rep F d v) : Reps F [d] [v] := ⟨v, [], rfl, h, rfl⟩
theorem Reps.set {F : Hp} {d : D} {v : V} (h : Rep F d v) : ∀ {ds : List D} {xs : List V} (i : Nat), Reps F ds xs → Reps F (ds.set i d) (xs.set i v)
  | [], _, _, g => by cases g; exact rfl
  | _ :: _, _, 0, ⟨u, r, h1, h2, h3⟩ => by cases h1; exact ⟨v, r, rfl, h, h3⟩
  | _ :: _, _, i + 1, ⟨u, r, h1, h2, h3⟩ => by cases h1; exact ⟨u, r.set i v, rfl, h2, h3.set h i⟩
theorem Reps.eraseIdx {F : Hp} : ∀ {ds : List D} {xs : List V} (i : Nat), Reps F ds xs → Reps F (ds.eraseIdx i) (xs.eraseIdx i)
  | [], _, _, g => by cases g; exact rfl
  | _ :: _, _, 0, ⟨u, r, h1, h2, h3⟩ => by cases h1; exact h3
  | _ :: _, _, i + 1, ⟨u, r, h1, h2, h3⟩ => by cases h1; exact ⟨u, r.eraseIdx i, rfl, h2, h3.eraseIdx i⟩
theorem Reps.take {F : Hp} : ∀ {ds : List D} {xs : List V} (n : Nat), Reps F ds xs → Reps F (ds.take n) (xs.take n)
  | [], _, _, g => by cases g; simp [Reps]
  | _ :: _, _, 0, _ => by simp [Reps]
  | _ :: _, _, n + 1, ⟨u, r, h1, h2, h3⟩ => by cases h1; exact ⟨u, r.take n, rfl, h2, h3.take n⟩
theorem Reps.drop {F : Hp} : ∀ {ds : List D} {xs : List V} (n : Nat), Reps F ds xs → Reps F (ds.drop n) (xs.drop n)
  | [], _, _, g => by cases g; simp [Reps]
  | _ :: _, _, 0, g => g
  | _ :: _, _, n + 1, ⟨u, r, h1, h2, h3⟩ => by cases h1; exact h3.drop n
theorem Reps.reverse {F : Hp} : ∀ {ds : List D} {xs : List V}, Reps F ds xs → Reps F ds.reverse xs.reverse
  | [], _, g => by cases g; exact rfl
  | _ :: _, _, ⟨u, r, h1, h2, h3⟩ => by
    cases h1
    rw [List.reverse_cons, List.reverse_cons]
    exact h3.reverse.append (.one h2)
theorem Reps.ints {F : Hp} : ∀ (ns : List Int), Reps F (ns.map D.int) (ns.map V.int)
  | [] => rfl
  | n :: ns => ⟨_, _, rfl, rfl, Reps.ints ns⟩
theorem Reps.strs {F : Hp} : ∀ (ns : List Str), Reps F (ns.map D.str) (ns.map V.str)
  | [] => rfl
  | n :: ns => ⟨_, _, rfl, rfl, Reps.strs ns⟩
theorem Reps.strs_eq {F : Hp} : ∀ {ns : List Str} {xs : List V}, Reps F (ns.map D.str) xs → xs = ns.map V.str
  | [], _, h => h
  | n :: ns, _, ⟨v, r, h1, h2, h3⟩ => by
    cases h1
    have h2' : v = .str n := h2
    rw [h2', Reps.strs_eq h3]
    rfl
theorem Reps.ints_eq {F : Hp} : ∀ {ns : List Int} {xs : List V}, Reps F (ns.map D.int) xs → xs = ns.map V.int
  | [], _, h => h
  | n :: ns, _, ⟨v, r, h1, h2, h3⟩ => by
    cases h1
    have h2' : v = .int n := h2
    rw [h2', Reps.ints_eq h3]
    rfl
theorem RepF.lookup {F : Hp} {f : Str} {d : D} : ∀ {fs : List (Str × D)} {xs : List (Str × V)}, RepF F fs xs → fs.lookup f = some d → ∃ v, xs.lookup f = some v ∧ Rep F d v
  | [], _, _, e => by simp at e
  | (g, d') :: fs, _, ⟨v, r, h1, h2, h3⟩, e => by
    cases h1
    simp only [List.lookup] at e ⊢
    cases q : f == g with
    | true => rw [q] at e; cases e; exact ⟨v, rfl, h2⟩
    | false => rw [q] at e; exact RepF.lookup h3 e

/-! ### what a slot holds: nothing; shared (frozen) data; a list of the def's own; a list lent by the caller -/
inductive En where
  | un
  | sh (d : D)
  | own (ds : List D)
  | lent (ds : List D)

/-- the entry of a def: frozen heap, heap, the lent slots' addresses -/
structure Ct where
  F0 : Hp
  H0 : Hp
  P : Nat → Option Addr
def Ct.L (c : Ct) (a : Addr) : Prop := ∃ i, c.P i = some a

def EnOk (c : Ct) (F H : Hp) (i : Nat) (o : Option V) : En → Prop
  | .un => True
  | .sh d => ∃ v, o = some v ∧ Rep F d v
  | .own ds => ∃ a xs, o = some (.ref a) ∧ F a = none ∧ H a = some (.lst xs) ∧ Reps F ds xs ∧ c.H0 a = none
  | .lent ds => ∃ a xs, o = some (.ref a) ∧ F a = none ∧ H a = some (.lst xs) ∧ Reps F ds xs ∧ c.P i = some a
def En.mut : En → Bool
  | .own _ => true
  | .lent _ => true
  | _ => false

def En.put : En → List D → En
  | .own _, es => .own es
  | _, es => .lent es

structure Good (c : Ct) (F H : Hp) (σ : L2.St) (Γ : List En) : Prop where
  ff : Ex c.F0 F
  fh : Ex F H
  hh : ∀ a o, c.H0 a = some o → ¬ c.L a → H a = some o
  li : ∀ a, c.L a → ∃ o, H a = some o
  nw : ∀ a, F a ≠ none → c.F0 a ≠ none ∨ c.H0 a = none
  len : σ.length = Γ.length
  en : ∀ (i : Nat) (e : En), Γ[i]? = some e → ∃ o, σ[i]? = some o ∧ EnOk c F H i o e
  dj : ∀ (i j : Nat) (a : Addr) (e e' : En), Γ[i]? = some e → Γ[j]? = some e' → e.mut = true → e'.mut = true → σ[i]? = some (some (.ref a)) → σ[j]? = some (some (.ref a)) → i = j

/-- a pure step: new objects, frozen or not -/
structure Stp (F H F' H' : Hp) : Prop where
  f : Ex F F'
  h : Ex H H'
  fh : Ex F' H'
  nw : ∀ a, F' a ≠ none → F a ≠ none ∨ H a = none
theorem Stp.refl {F H : Hp} (h : Ex F H) : Stp F H F H := ⟨Ex.refl _, Ex.refl _, h, fun _ e => .inl e⟩
theorem Stp.trans {F H F1 H1 F2 H2 : Hp} (a : Stp F H F1 H1) (b : Stp F1 H1 F2 H2) : Stp F H F2 H2 := ⟨a.f.trans b.f, a.h.trans b.h, b.fh, fun x e => by
  rcases b.nw x e with z | z
  · exact a.nw x z
  · right
    cases q : H x with
    | none => rfl
    | some o => rw [a.h x o q] at z; cases z⟩
/-- a new object, frozen -/
theorem Stp.new {F H : Hp} (e : Ex F H) {p : Addr} (o : HO) (h : H p = none) : Stp F H (upd F p o) (upd H p o) := by
  have hF : F p = none := by
    cases q : F p with
    | none => rfl
    | some u => rw [e _ _ q] at h; cases h
  refine ⟨Ex.new hF, Ex.new h, fun a u q => ?_, fun a q => ?_⟩
  · by_cases z : a = p
    · subst z; rw [upd_same] at q ⊢; exact q
    · rw [upd_ne z] at q ⊢; exact e _ _ q
  · by_cases z : a = p
    · subst z; exact .inr h
    · rw [upd_ne z] at q; exact .inl q
/-- a new object, kept loose -/
theorem Stp.loose {F H : Hp} (e : Ex F H) {p : Addr} (o : HO) (h : H p = none) : Stp F H F (upd H p o) :=
  ⟨Ex.refl _, Ex.new h, e.trans (Ex.new h), fun _ q => .inl q⟩

section
variable {c : Ct} {F F' H H' : Hp} {σ : L2.St} {Γ : List En}
theorem Good.exH (G : Good c F H σ Γ) {a : Addr} {o : HO} (h : F a = some o) : H a = some o := G.fh a o h
theorem Good.sh (G : Good c F H σ Γ) {i : Nat} {d : D} (h : Γ[i]? = some (.sh d)) : ∃ v, σ[i]? = some (some v) ∧ Rep F d v := by
  obtain ⟨o, e, v, e2, r⟩ := G.en i _ h
  exact ⟨v, by rw [e, e2], r⟩
theorem Good.own (G : Good c F H σ Γ) {i : Nat} {ds : List D} (h : Γ[i]? = some (.own ds)) : ∃ a xs, σ[i]? = some (some (.ref a)) ∧ F a = none ∧ H a = some (.lst xs) ∧ Reps F ds xs ∧ c.H0 a = none := by
  obtain ⟨o, e, a, xs, e2, r⟩ := G.en i _ h
  exact ⟨a, xs, by rw [e, e2], r⟩
theorem Good.lent (G : Good c F H σ Γ) {i : Nat} {ds : List D} (h : Γ[i]? = some (.lent ds)) : ∃ a xs, σ[i]? = some (some (.ref a)) ∧ F a = none ∧ H a = some (.lst xs) ∧ Reps F ds xs ∧ c.P i = some a := by
  obtain ⟨o, e, a, xs, e2, r⟩ := G.en i _ h
  exact ⟨a, xs, by rw [e, e2], r⟩
/-- what is new to H is new to the entry -/
theorem Good.fresh (G : Good c F H σ Γ) {a : Addr} (h : H a = none) : c.H0 a = none := by
  cases q : c.H0 a with
  | none => rfl
  | some o =>
    by_cases l : c.L a
    · obtain ⟨u, e⟩ := G.li a l
      rw [h] at e; cases e
    · rw [G.hh a o q l] at h; cases h
theorem Good.step (G : Good c F H σ Γ) (S : Stp F H F' H') : Good c F' H' σ Γ where
  ff := G.ff.trans S.f
  fh := S.fh
  hh := fun a o e n => S.h a o (G.hh a o e n)
  li := fun a l => (G.li a l).imp fun o e => S.h a o e
  nw := fun a e => by
    rcases S.nw a e with z | z
    · exact G.nw a z
    · exact .inr (G.fresh z)
  len := G.len
  en := fun i e he => by
    obtain ⟨o, h1, h2⟩ := G.en i e he
    have key : ∀ a xs, F a = none → H a = some (.lst xs) → F' a = none := fun a xs e2 e3 => by
      cases q : F' a with
      | none => rfl
      | some u =>
        rcases S.nw a (by rw [q]; exact Option.some_ne_none _) with z | z
        · exact absurd e2 z
        · rw [e3] at z; cases z
    refine ⟨o, h1, ?_⟩
    cases e with
    | un => trivial
    | sh d =>
      obtain ⟨v, e1, r⟩ := h2
      exact ⟨v, e1, r.mono S.f⟩
    | own ds =>
      obtain ⟨a, xs, e1, e2, e3, e4, e5⟩ := h2
      exact ⟨a, xs, e1, key a xs e2 e3, S.h _ _ e3, e4.mono S.f, e5⟩
    | lent ds =>
      obtain ⟨a, xs, e1, e2, e3, e4, e5⟩ := h2
      exact ⟨a, xs, e1, key a xs e2 e3, S.h _ _ e3, e4.mono S.f, e5⟩
  dj := G.dj
/-- a slot gets shared data (whatever it held, but a lent list) -/
theorem Good.setSh (G : Good c F H σ Γ) {i : Nat} {d : D} {v : V} (r : Rep F d v) : Good c F H (σ.set i (some v)) (Γ.set i (.sh d)) where
  ff := G.ff
  fh := G.fh
  hh := G.hh
  li := G.li
  nw := G.nw
  len := by rw [List.length_set, List.length_set]; exact G.len
  en := fun j e he => by
    by_cases z : i = j
    · subst z
      have hl : i < Γ.length := by
        have := (List.getElem?_eq_some_iff.mp he).1
        rwa [List.length_set] at this
      rw [List.getElem?_set_self hl] at he
      cases he
      exact ⟨some v, List.getElem?_set_self (by rw [G.len]; exact hl), v, rfl, r⟩
    · rw [List.getElem?_set_ne z] at he
      obtain ⟨o, h1, h2⟩ := G.en j e he
      exact ⟨o, by rw [List.getElem?_set_ne z]; exact h1, h2⟩
  dj := fun a b x e e' h1 h2 m1 m2 h3 h4 => by
    have f : ∀ {j : Nat} {e : En}, (Γ.set i (.sh d))[j]? = some e → e.mut = true → i ≠ j := fun {j e} he m z => by
      subst z
      have hl : i < Γ.length := by
        have := (List.getElem?_eq_some_iff.mp he).1
        rwa [List.length_set] at this
      rw [List.getElem?_set_self hl] at he
      cases he
      cases m
    have za := f h1 m1
    have zb := f h2 m2
    rw [List.getElem?_set_ne za] at h1 h3
    rw [List.getElem?_set_ne zb] at h2 h4
    exact G.dj a b x e e' h1 h2 m1 m2 h3 h4
/-- a slot's entry is forgotten -/
theorem Good.setUn (G : Good c F H σ Γ) {i : Nat} {o : Option V} : Good c F H (σ.set i o) (Γ.set i .un) where
  ff := G.ff
  fh := G.fh
  hh := G.hh
  li := G.li
  nw := G.nw
  len := by rw [List.length_set, List.length_set]; exact G.len
  en := fun j e he => by
    by_cases z : i = j
    · subst z
      have hl : i < Γ.length := by
        have := (List.getElem?_eq_some_iff.mp he).1
        rwa [List.length_set] at this
      rw [List.getElem?_set_self hl] at he
      cases he
      exact ⟨o, List.getElem?_set_self (by rw [G.len]; exact hl), trivial⟩
    · rw [List.getElem?_set_ne z] at he
      obtain ⟨o, h1, h2⟩ := G.en j e he
      exact ⟨o, by rw [List.getElem?_set_ne z]; exact h1, h2⟩
  dj := fun a b x e e' h1 h2 m1 m2 h3 h4 => by
    have f : ∀ {j : Nat} {e : En}, (Γ.set i .un)[j]? = some e → e.mut = true → i ≠ j := fun {j e} he m z => by
      subst z
      have hl : i < Γ.length := by
        have := (List.getElem?_eq_some_iff.mp he).1
        rwa [List.length_set] at this
      rw [List.getElem?_set_self hl] at he
      cases he
      cases m
    have za := f h1 m1
    have zb := f h2 m2
    rw [List.getElem?_set_ne za] at h1 h3
    rw [List.getElem?_set_ne zb] at h2 h4
    exact G.dj a b x e e' h1 h2 m1 m2 h3 h4
/-- no slot holds the mutable list at a -/
def NoSlot (σ : L2.St) (Γ : List En) (a : Addr) : Prop := ∀ (j : Nat) (e : En), Γ[j]? = some e → e.mut = true → σ[j]? ≠ some (some (.ref a))
theorem Good.noSlot (G : Good c F H σ Γ) {a : Addr} (h : H a = none) : NoSlot σ Γ a := fun j e he m q => by
  obtain ⟨o, h1, h2⟩ := G.en j e he
  rw [q] at h1
  cases h1
  cases e with
  | un => cases m
  | sh d => cases m
  | own ds =>
    obtain ⟨b, xs, e1, e2, e3, _⟩ := h2
    cases e1
    rw [h] at e3; cases e3
  | lent ds =>
    obtain ⟨b, xs, e1, e2, e3, _⟩ := h2
    cases e1
    rw [h] at e3; cases e3
/-- a slot gets a list of the def's own -/
theorem Good.setOwn (G : Good c F H σ Γ) {i : Nat} {ds : List D} {a : Addr} {xs : List V} (n : NoSlot σ Γ a) (hF : F a = none) (hH : H a = some (.lst xs)) (r : Reps F ds xs) (h0 : c.H0 a = none) :
    Good c F H (σ.set i (some (.ref a))) (Γ.set i (.own ds)) where
  ff := G.ff
  fh := G.fh
  hh := G.hh
  li := G.li
  nw := G.nw
  len := by rw [List.length_set, List.length_set]; exact G.len
  en := fun j e he => by
    by_cases z : i = j
    · subst z
      have hl : i < Γ.length := by
        have := (List.getElem?_eq_some_iff.mp he).1
        rwa [List.length_set] at this
      rw [List.getElem?_set_self hl] at he
      cases he
      exact ⟨some (.ref a), List.getElem?_set_self (by rw [G.len]; exact hl), a, xs, rfl, hF, hH, r, h0⟩
    · rw [List.getElem?_set_ne z] at he
      obtain ⟨o, h1, h2⟩ := G.en j e he
      exact ⟨o, by rw [List.getElem?_set_ne z]; exact h1, h2⟩
  dj := fun p q x e e' h1 h2 m1 m2 h3 h4 => by
    have hli : ∀ {j : Nat} {e : En}, (Γ.set i (.own ds))[j]? = some e → i = j → i < σ.length := fun {j e} he z => by
      subst z
      have := (List.getElem?_eq_some_iff.mp he).1
      rw [List.length_set] at this
      rw [G.len]; exact this
    by_cases zp : i = p
    · by_cases zq : i = q
      · exact zp.symm.trans zq
      · have hl := hli h1 zp
        subst zp
        rw [List.getElem?_set_self hl] at h3
        cases h3
        rw [List.getElem?_set_ne zq] at h2 h4
        exact absurd h4 (n q e' h2 m2)
    · by_cases zq : i = q
      · have hl := hli h2 zq
        subst zq
        rw [List.getElem?_set_self hl] at h4
        cases h4
        rw [List.getElem?_set_ne zp] at h1 h3
        exact absurd h3 (n p e h1 m1)
      · rw [List.getElem?_set_ne zp] at h1 h3
        rw [List.getElem?_set_ne zq] at h2 h4
        exact G.dj p q x e e' h1 h2 m1 m2 h3 h4
/-- a loose list is frozen -/
theorem Good.freeze (G : Good c F H σ Γ) {a : Addr} {xs : List V} (n : NoSlot σ Γ a) (hF : F a = none) (hH : H a = some (.lst xs)) (h0 : c.H0 a = none) : Good c (upd F a (.lst xs)) H σ Γ := by
  have e0 : Ex F (upd F a (.lst xs)) := Ex.new hF
  refine ⟨G.ff.trans e0, fun b o q => ?_, G.hh, G.li, fun b q => ?_, G.len, fun i e he => ?_, G.dj⟩
  · by_cases z : b = a
    · subst z; rw [upd_same] at q; cases q; exact hH
    · rw [upd_ne z] at q; exact G.fh _ _ q
  · by_cases z : b = a
    · subst z; exact .inr h0
    · rw [upd_ne z] at q; exact G.nw _ q
  · obtain ⟨o, h1, h2⟩ := G.en i e he
    refine ⟨o, h1, ?_⟩
    cases e with
    | un => trivial
    | sh d =>
      obtain ⟨v, e1, r⟩ := h2
      exact ⟨v, e1, r.mono e0⟩
    | own ds =>
      obtain ⟨b, ys, e1, e2, e3, e4, e5⟩ := h2
      have nb : b ≠ a := fun z => by
        subst z
        exact n i _ he rfl (by rw [h1, e1])
      exact ⟨b, ys, e1, by rw [upd_ne nb]; exact e2, e3, e4.mono e0, e5⟩
    | lent ds =>
      obtain ⟨b, ys, e1, e2, e3, e4, e5⟩ := h2
      have nb : b ≠ a := fun z => by
        subst z
        exact n i _ he rfl (by rw [h1, e1])
      exact ⟨b, ys, e1, by rw [upd_ne nb]; exact e2, e3, e4.mono e0, e5⟩
/-- the own list of a slot is frozen: the slot is shared from now on -/
theorem Good.freezeSlot (G : Good c F H σ Γ) {i : Nat} {ds : List D} (h : Γ[i]? = some (.own ds)) : ∃ F', Ex F F' ∧ Good c F' H σ (Γ.set i (.sh (.lst ds))) := by
  obtain ⟨a, xs, e1, e2, e3, e4, e5⟩ := G.own h
  have hi : i < Γ.length := (List.getElem?_eq_some_iff.mp h).1
  have G1 : Good c F H (σ.set i (some (.ref a))) (Γ.set i .un) := G.setUn
  have es : σ.set i (some (.ref a)) = σ := by
    apply List.ext_getElem?
    intro j
    by_cases z : i = j
    · subst z; rw [List.getElem?_set_self (by rw [G.len]; exact hi), e1]
    · rw [List.getElem?_set_ne z]
  rw [es] at G1
  have n : NoSlot σ (Γ.set i .un) a := fun j e he m q => by
    by_cases z : i = j
    · subst z
      rw [List.getElem?_set_self hi] at he
      cases he; cases m
    · rw [List.getElem?_set_ne z] at he
      exact z (G.dj i j a _ _ h he rfl m e1 q)
  have G2 := G1.freeze n e2 e3 e5
  have r : Rep (upd F a (.lst xs)) (.lst ds) (.ref a) := ⟨a, xs, rfl, upd_same, e4.mono (Ex.new e2)⟩
  have G3 := G2.setSh (i := i) r
  rw [es, List.set_set] at G3
  exact ⟨_, Ex.new e2, G3⟩
/-- a mutable slot's list changes -/
theorem Good.chg (G : Good c F H σ Γ) {i : Nat} {ds es : List D} {a : Addr} {ys : List V} {e : En} (h : Γ[i]? = some e) (he : e = .own ds ∨ e = .lent ds) (e1 : σ[i]? = some (some (.ref a))) (r : Reps F es ys) :
    Good c F (upd H a (.lst ys)) σ (Γ.set i (e.put es)) := by
  have hi : i < Γ.length := (List.getElem?_eq_some_iff.mp h).1
  have hm : e.mut = true := by rcases he with rfl | rfl <;> rfl
  have info : F a = none ∧ (∃ xs, H a = some (.lst xs)) ∧ EnOk c F (upd H a (.lst ys)) i (some (.ref a)) (e.put es) ∧ (c.L a ∨ c.H0 a = none) := by
    rcases he with rfl | rfl
    · obtain ⟨b, xs, q1, q2, q3, q4, q5⟩ := G.own h
      rw [e1] at q1; cases q1
      exact ⟨q2, ⟨xs, q3⟩, ⟨a, ys, rfl, q2, upd_same, r, q5⟩, .inr q5⟩
    · obtain ⟨b, xs, q1, q2, q3, q4, q5⟩ := G.lent h
      rw [e1] at q1; cases q1
      exact ⟨q2, ⟨xs, q3⟩, ⟨a, ys, rfl, q2, upd_same, r, q5⟩, .inl ⟨i, q5⟩⟩
  obtain ⟨hF, ⟨xs, hH⟩, hen, hl⟩ := info
  have hm' : (e.put es).mut = true := by rcases he with rfl | rfl <;> rfl
  refine ⟨G.ff, fun b o q => ?_, fun b o q n => ?_, fun b l => ?_, G.nw, by rw [List.length_set]; exact G.len, fun j f hf => ?_, fun p q x f f' h1 h2 m1 m2 h3 h4 => ?_⟩
  · have nb : b ≠ a := fun z => by subst z; rw [hF] at q; cases q
    rw [upd_ne nb]; exact G.fh _ _ q
  · have nb : b ≠ a := fun z => by
      subst z
      rcases hl with l | l
      · exact n l
      · rw [l] at q; cases q
    rw [upd_ne nb]; exact G.hh _ _ q n
  · by_cases z : b = a
    · subst z; exact ⟨_, upd_same⟩
    · rw [upd_ne z]; exact G.li _ l
  · by_cases z : i = j
    · subst z
      rw [List.getElem?_set_self hi] at hf
      cases hf
      exact ⟨_, e1, hen⟩
    · rw [List.getElem?_set_ne z] at hf
      obtain ⟨o, h1, h2⟩ := G.en j f hf
      refine ⟨o, h1, ?_⟩
      cases f with
      | un => trivial
      | sh d => exact h2
      | own ds' =>
        obtain ⟨b, zs, q1, q2, q3, q4, q5⟩ := h2
        have nb : b ≠ a := fun w => by
          subst w
          exact z (G.dj i j b _ _ h hf hm rfl e1 (by rw [h1, q1]))
        exact ⟨b, zs, q1, q2, by rw [upd_ne nb]; exact q3, q4, q5⟩
      | lent ds' =>
        obtain ⟨b, zs, q1, q2, q3, q4, q5⟩ := h2
        have nb : b ≠ a := fun w => by
          subst w
          exact z (G.dj i j b _ _ h hf hm rfl e1 (by rw [h1, q1]))
        exact ⟨b, zs, q1, q2, by rw [upd_ne nb]; exact q3, q4, q5⟩
  · have back : ∀ {j : Nat} {f : En}, (Γ.set i (e.put es))[j]? = some f → f.mut = true → ∃ g, Γ[j]? = some g ∧ g.mut = true := fun {j f} hf m => by
      by_cases z : i = j
      · subst z; exact ⟨e, h, hm⟩
      · rw [List.getElem?_set_ne z] at hf; exact ⟨f, hf, m⟩
    obtain ⟨g, hg, mg⟩ := back h1 m1
    obtain ⟨g', hg', mg'⟩ := back h2 m2
    exact G.dj p q x g g' hg hg' mg mg' h3 h4
end
end DL
set_option Elab.async false
set_option linter.all false
set_option maxRecDepth 100000
set_option maxHeartbeats 4000000
/-! DL2: judgements over data: expressions (pure, fresh, with effects), tests, arguments, statements, loops, comprehensions, calls. -/
namespace DL
open PySem PySem.Spec PyProof.Rows L2
section
/-- te is the data d, nothing that stood changes -/
def EvP (te : TE) (Γ : List En) (d : D) : Prop := ∀ c F H σ, Good c F H σ Γ → ∀ Q : VK, (∀ v F' H', Stp F H F' H' → Rep F' d v → Q v H') → te σ H Q
/-- te is a new list, loose as yet -/
def EvF (te : TE) (Γ : List En) (ds : List D) : Prop := ∀ c F H σ, Good c F H σ Γ → ∀ Q : VK, (∀ a xs F' H', Stp F H F' H' → H a = none → F' a = none → H' a = some (.lst xs) → Reps F' ds xs → Q (.ref a) H') → te σ H Q
/-- what stands apart from the slots' lists stays as it is -/
def Fr (σ : L2.St) (Γ Γ' : List En) (F H F' H' : Hp) : Prop := ∀ a o, H a = some o → NoSlot σ Γ a → H' a = some o ∧ (F a = none → F' a = none) ∧ NoSlot σ Γ' a
theorem Fr.stp {σ : L2.St} {Γ : List En} {F H F' H' : Hp} (S : Stp F H F' H') : Fr σ Γ Γ F H F' H' := fun a o e n => by
  refine ⟨S.h a o e, fun f => ?_, n⟩
  cases q : F' a with
  | none => rfl
  | some u =>
    rcases S.nw a (by rw [q]; exact Option.some_ne_none _) with z | z
    · exact absurd f z
    · rw [e] at z; cases z
theorem Fr.trans {σ : L2.St} {Γ Γ1 Γ2 : List En} {F H F1 H1 F2 H2 : Hp} (x : Fr σ Γ Γ1 F H F1 H1) (y : Fr σ Γ1 Γ2 F1 H1 F2 H2) : Fr σ Γ Γ2 F H F2 H2 := fun a o e n => by
  obtain ⟨h1, h2, h3⟩ := x a o e n
  obtain ⟨k1, k2, k3⟩ := y a o h1 h3
  exact ⟨k1, fun f => k2 (h2 f), k3⟩
/-- te gives some d and turns the slots' lists to Γ', as R says -/
def EvW (te : TE) (Γ : List En) (R : D → List En → Prop) : Prop := ∀ c F H σ, Good c F H σ Γ → ∀ Q : VK, (∀ v d Γ' F' H', R d Γ' → Good c F' H' σ Γ' → Ex F F' → Fr σ Γ Γ' F H F' H' → Rep F' d v → Q v H') → te σ H Q
def EtP (tt : TT) (Γ : List En) (b : Bool) : Prop := ∀ c F H σ, Good c F H σ Γ → ∀ Q : Bool → Hp → Prop, (∀ F' H', Stp F H F' H' → Q b H') → tt σ H Q
def EtW (tt : TT) (Γ : List En) (R : Bool → List En → Prop) : Prop := ∀ c F H σ, Good c F H σ Γ → ∀ Q : Bool → Hp → Prop, (∀ b Γ' F' H', R b Γ' → Good c F' H' σ Γ' → Ex F F' → Q b H') → tt σ H Q
def EaP (ta : TA) (Γ : List En) (ds : List D) : Prop := ∀ c F H σ, Good c F H σ Γ → ∀ Q : List V → Hp → Prop, (∀ vs F' H', Stp F H F' H' → Reps F' ds vs → Q vs H') → ta σ H Q
def EoP (to : TO) (Γ : List En) (o : Option Int) : Prop := ∀ c F H σ, Good c F H σ Γ → ∀ Q : Option Int → Hp → Prop, (∀ F' H', Stp F H F' H' → Q o H') → to σ H Q
/-- an operation on two values; a call or method's rule on values -/
def RD (r : R2) (x y z : D) : Prop := ∀ F H vx vy, Ex F H → Rep F x vx → Rep F y vy → ∀ Q : VK, (∀ v F' H', Stp F H F' H' → Rep F' z v → Q v H') → r vx vy H Q
def RDF (r : R2) (x y : D) (zs : List D) : Prop := ∀ F H vx vy, Ex F H → Rep F x vx → Rep F y vy → ∀ Q : VK, (∀ a xs F' H', Stp F H F' H' → H a = none → F' a = none → H' a = some (.lst xs) → Reps F' zs xs → Q (.ref a) H') → r vx vy H Q
def RC (r : List V → Hp → VK → Prop) (ds : List D) (z : D) : Prop := ∀ F H vs, Ex F H → Reps F ds vs → ∀ Q : VK, (∀ v F' H', Stp F H F' H' → Rep F' z v → Q v H') → r vs H Q
def RCF (r : List V → Hp → VK → Prop) (ds : List D) (zs : List D) : Prop := ∀ F H vs, Ex F H → Reps F ds vs → ∀ Q : VK, (∀ a xs F' H', Stp F H F' H' → H a = none → F' a = none → H' a = some (.lst xs) → Reps F' zs xs → Q (.ref a) H') → r vs H Q
end
section
variable {K : PySem.W.Frag} {Γ Γ' : List En} {te ta tb : TE} {tt tu : TT} {d x y z : D} {ds es : List D} {R : D → List En → Prop}
theorem EvP.w (h : EvP te Γ d) (hR : R d Γ) : EvW te Γ R := fun c F H σ G Q k => h c F H σ G Q fun v F' H' S r => k v d Γ F' H' hR (G.step S) S.f (Fr.stp S) r
theorem EvP.w' (h : EvP te Γ d) : EvW te Γ (fun e Γ' => e = d ∧ Γ' = Γ) := h.w ⟨rfl, rfl⟩
theorem EvF.p (h : EvF te Γ ds) : EvP te Γ (.lst ds) := fun c F H σ G Q k => h c F H σ G Q fun a xs F' H' S n nf e r =>
  k (.ref a) (upd F' a (.lst xs)) H' ⟨S.f.trans (Ex.new nf), S.h, fun b o q => by
    by_cases z : b = a
    · subst z; rw [upd_same] at q; cases q; exact e
    · rw [upd_ne z] at q; exact S.fh _ _ q, fun b q => by
    by_cases z : b = a
    · subst z; exact .inr n
    · rw [upd_ne z] at q; exact S.nw _ q⟩ ⟨a, xs, rfl, upd_same, r.mono (Ex.new nf)⟩
theorem RC.cast {r : List V → Hp → VK → Prop} (h : RC r ds x) (e : x = y) : RC r ds y := e ▸ h
theorem EvP.cast (h : EvP te Γ x) (e : x = y) : EvP te Γ y := e ▸ h
theorem EvF.cast (h : EvF te Γ ds) (e : ds = es) : EvF te Γ es := e ▸ h
theorem EtP.cast {a b : Bool} (h : EtP tt Γ a) (e : a = b) : EtP tt Γ b := e ▸ h
/-! ### pure expressions -/
theorem ep_var {i : Nat} (h : Γ[i]? = some (.sh d)) : EvP (tVar i) Γ d := fun c F H σ G Q k => by
  obtain ⟨v, e, r⟩ := G.sh h
  exact ⟨v, e, k v F H (.refl G.fh) r⟩
theorem ep_int {i : Int} : EvP (tC (.int i)) Γ (.int i) := fun c F H σ G Q k => k _ F H (.refl G.fh) rfl
theorem ep_str {i : Str} : EvP (tC (.str i)) Γ (.str i) := fun c F H σ G Q k => k _ F H (.refl G.fh) rfl
theorem ep_bl {i : Bool} : EvP (tC (.bl i)) Γ (.bl i) := fun c F H σ G Q k => k _ F H (.refl G.fh) rfl
theorem ep_non : EvP (tC .non) Γ .non := fun c F H σ G Q k => k _ F H (.refl G.fh) rfl
theorem ep_ref {a : Addr} : EvP (tC (.ref a)) Γ (.ref a) := fun c F H σ G Q k => k _ F H (.refl G.fh) rfl
theorem ep_ty {a : String} : EvP (tC (.ty a)) Γ (.ty a) := fun c F H σ G Q k => k _ F H (.refl G.fh) rfl
theorem ep_op {r : R2} (ha : EvP ta Γ x) (hb : EvP tb Γ y) (hr : RD r x y z) : EvP (tOp r ta tb) Γ z := fun c F H σ G Q k =>
  ha c F H σ G _ fun v F1 H1 S1 r1 => hb c F1 H1 σ (G.step S1) _ fun u F2 H2 S2 r2 =>
    hr F2 H2 v u S2.fh (r1.mono S2.f) r2 Q fun w F3 H3 S3 r3 => k w F3 H3 (S1.trans (S2.trans S3)) r3
theorem ef_op {r : R2} (ha : EvP ta Γ x) (hb : EvP tb Γ y) (hr : RDF r x y ds) : EvF (tOp r ta tb) Γ ds := fun c F H σ G Q k =>
  ha c F H σ G _ fun v F1 H1 S1 r1 => hb c F1 H1 σ (G.step S1) _ fun u F2 H2 S2 r2 =>
    hr F2 H2 v u S2.fh (r1.mono S2.f) r2 Q fun a xs F3 H3 S3 n nf e r3 => k a xs F3 H3 (S1.trans (S2.trans S3)) (by
      cases q : H a with
      | none => rfl
      | some o => rw [S2.h _ _ (S1.h _ _ q)] at n; cases n) nf e r3
theorem ea_nil : EaP tNil Γ [] := fun c F H σ G Q k => k [] F H (.refl G.fh) rfl
theorem ea_cons {tr : TA} (ha : EvP ta Γ x) (hr : EaP tr Γ ds) : EaP (tCons ta tr) Γ (x :: ds) := fun c F H σ G Q k =>
  ha c F H σ G _ fun v F1 H1 S1 r1 => hr c F1 H1 σ (G.step S1) _ fun vs F2 H2 S2 r2 => k (v :: vs) F2 H2 (S1.trans S2) ⟨v, vs, rfl, r1.mono S2.f, r2⟩
theorem ep_cb {r : List V → Hp → VK → Prop} {t : TA} (ha : EaP t Γ ds) (hr : RC r ds z) : EvP (tCB r t) Γ z := fun c F H σ G Q k =>
  ha c F H σ G _ fun vs F1 H1 S1 r1 => hr F1 H1 vs S1.fh r1 Q fun v F2 H2 S2 r2 => k v F2 H2 (S1.trans S2) r2
theorem ef_cb {r : List V → Hp → VK → Prop} {t : TA} (ha : EaP t Γ ds) (hr : RCF r ds es) : EvF (tCB r t) Γ es := fun c F H σ G Q k =>
  ha c F H σ G _ fun vs F1 H1 S1 r1 => hr F1 H1 vs S1.fh r1 Q fun a xs F2 H2 S2 n nf e r2 => k a xs F2 H2 (S1.trans S2) (by
      cases q : H a with
      | none => rfl
      | some o => rw [S1.h _ _ q] at n; cases n) nf e r2
theorem ep_tup {t : TA} (ha : EaP t Γ ds) (hl : ds.length ≤ sizeLine) : EvP (tTup t) Γ (.tup ds) := fun c F H σ G Q k =>
  ha c F H σ G _ fun vs F1 H1 S1 r1 => ⟨by rw [r1.length]; exact hl, fun p hp => by
    have S2 := Stp.new S1.fh (.tup vs) hp
    exact k (.ref p) _ _ (S1.trans S2) ⟨p, vs, rfl, upd_same, r1.mono S2.f⟩⟩
theorem ef_lst {t : TA} (ha : EaP t Γ ds) (hl : ds.length ≤ sizeLine) : EvF (tLst t) Γ ds := fun c F H σ G Q k =>
  ha c F H σ G _ fun vs F1 H1 S1 r1 => ⟨by rw [r1.length]; exact hl, fun p hp => by
    have S2 := Stp.loose S1.fh (.lst vs) hp
    refine k p vs _ _ (S1.trans S2) ?_ ?_ upd_same r1
    · cases q : H p with
      | none => rfl
      | some o => rw [S1.h _ _ q] at hp; cases hp
    · cases q : F1 p with
      | none => rfl
      | some o => rw [S1.fh _ _ q] at hp; cases hp⟩
theorem ep_if {b : Bool} (ht : EtP tt Γ b) (h1 : b = true → EvP ta Γ d) (h2 : b = false → EvP tb Γ d) : EvP (tIf tt ta tb) Γ d := fun c F H σ G Q k =>
  ht c F H σ G _ fun F1 H1 S1 => by
    cases b with
    | true => rw [if_pos rfl]; exact h1 rfl c F1 H1 σ (G.step S1) Q fun v F2 H2 S2 r => k v F2 H2 (S1.trans S2) r
    | false => rw [if_neg Bool.false_ne_true]; exact h2 rfl c F1 H1 σ (G.step S1) Q fun v F2 H2 S2 r => k v F2 H2 (S1.trans S2) r
theorem ep_un {r : V → Hp → VK → Prop} (ha : EvP ta Γ x) (hr : RC (fun vs H Q => ∃ v, vs = [v] ∧ r v H Q) [x] z) : EvP (tUn r ta) Γ z := fun c F H σ G Q k =>
  ha c F H σ G _ fun v F1 H1 S1 r1 => by
    obtain ⟨u, e, q⟩ := hr F1 H1 [v] S1.fh (.one r1) Q fun w F2 H2 S2 r2 => k w F2 H2 (S1.trans S2) r2
    cases e
    exact q
/-- an attribute of an instance -/
theorem ep_fld {f : Str} {C : Addr} {fs : List (Str × D)} (ha : EvP ta Γ (.obj C fs)) (hc : Cls K C) (hn : NoAttr K C f) (hf : fs.lookup f = some d) : EvP (tFld K ta f) Γ d := fun c F H σ G Q k =>
  ha c F H σ G _ fun v F1 H1 S1 r1 => by
    obtain ⟨a, dx, xs, e, h, r⟩ := r1
    obtain ⟨u, hu, ru⟩ := r.lookup hf
    exact ⟨a, C, dx, xs, u, e, S1.fh _ _ h, hc, hn, hu, k u F1 H1 S1 ru⟩
/-! ### tests -/
theorem et_test {b : Bool} (h : EvP te Γ (.bl b)) : EtP (tTest te) Γ b := fun c F H σ G Q k => h c F H σ G _ fun v F' H' S r => ⟨b, r, k F' H' S⟩
theorem et_B {b : Bool} (h : EvP te Γ (.bl b)) : EtP (tB te) Γ b := fun c F H σ G Q k => h c F H σ G _ fun v F' H' S r => ⟨b, r, k F' H' S⟩
theorem et_and {a b : Bool} (h1 : EtP tt Γ a) (h2 : a = true → EtP tu Γ b) : EtP (tAnd tt tu) Γ (a && b) := fun c F H σ G Q k => h1 c F H σ G _ fun F1 H1 S1 => by
  cases a with
  | true => rw [if_pos rfl]; exact h2 rfl c F1 H1 σ (G.step S1) Q fun F2 H2 S2 => k F2 H2 (S1.trans S2)
  | false => rw [if_neg Bool.false_ne_true]; exact k F1 H1 S1
theorem et_or {a b : Bool} (h1 : EtP tt Γ a) (h2 : a = false → EtP tu Γ b) : EtP (tOr tt tu) Γ (a || b) := fun c F H σ G Q k => h1 c F H σ G _ fun F1 H1 S1 => by
  cases a with
  | false => rw [if_neg Bool.false_ne_true]; exact h2 rfl c F1 H1 σ (G.step S1) Q fun F2 H2 S2 => k F2 H2 (S1.trans S2)
  | true => rw [if_pos rfl]; exact k F1 H1 S1
theorem et_not {a : Bool} (h1 : EtP tt Γ a) : EtP (tNot tt) Γ (!a) := fun c F H σ G Q k => h1 c F H σ G _ fun F1 H1 S1 => k F1 H1 S1
theorem et_yes : EtP tYes Γ true := fun c F H σ G Q k => k F H (.refl G.fh)
theorem ep_andV {a b : Bool} (h1 : EvP ta Γ (.bl a)) (h2 : a = true → EvP tb Γ (.bl b)) : EvP (tAndV ta tb) Γ (.bl (a && b)) := fun c F H σ G Q k => h1 c F H σ G _ fun v F1 H1 S1 r => ⟨a, r, by
  cases a with
  | true => rw [if_pos rfl]; exact h2 rfl c F1 H1 σ (G.step S1) Q fun v F2 H2 S2 r2 => k v F2 H2 (S1.trans S2) r2
  | false => rw [if_neg Bool.false_ne_true]; exact k _ F1 H1 S1 rfl⟩
theorem ep_orV {a b : Bool} (h1 : EvP ta Γ (.bl a)) (h2 : a = false → EvP tb Γ (.bl b)) : EvP (tOrV ta tb) Γ (.bl (a || b)) := fun c F H σ G Q k => h1 c F H σ G _ fun v F1 H1 S1 r => ⟨a, r, by
  cases a with
  | false => rw [if_neg Bool.false_ne_true]; exact h2 rfl c F1 H1 σ (G.step S1) Q fun v F2 H2 S2 r2 => k v F2 H2 (S1.trans S2) r2
  | true => rw [if_pos rfl]; exact k _ F1 H1 S1 rfl⟩
theorem ep_notV {a : Bool} (h1 : EvP ta Γ (.bl a)) : EvP (tNotV ta) Γ (.bl (!a)) := fun c F H σ G Q k => h1 c F H σ G _ fun v F1 H1 S1 r => ⟨a, r, k _ F1 H1 S1 rfl⟩
/-! ### operations on ints, texts, lists -/
theorem rd_I0 {g : Int → Int → V} {i j : Int} (hz : ∀ F, Rep F z (g i j)) : RD (rI0 g) (.int i) (.int j) z := fun F H vx vy e rx ry Q k => ⟨i, j, rx, ry, k _ F H (.refl e) (hz F)⟩
theorem rd_I {C : Int → Int → Prop} {g : Int → Int → V} {i j : Int} (hc : C i j) (hz : ∀ F, Rep F z (g i j)) : RD (rI C g) (.int i) (.int j) z := fun F H vx vy e rx ry Q k => ⟨i, j, rx, ry, hc, k _ F H (.refl e) (hz F)⟩
def scalD : D → Option V
  | .non => some .non
  | .bl b => some (.bl b)
  | .int i => some (.int i)
  | .str x => some (.str x)
  | .ty n => some (.ty n)
  | _ => none
theorem scalD_rep {F : Hp} {v w : V} : ∀ {d : D}, scalD d = some w → Rep F d v → v = w
  | .non, e, r => by cases e; exact r
  | .bl _, e, r => by cases e; exact r
  | .int _, e, r => by cases e; exact r
  | .str _, e, r => by cases e; exact r
  | .ty _, e, r => by cases e; exact r
  | .ref _, e, _ => by cases e
  | .lst _, e, _ => by cases e
  | .tup _, e, _ => by cases e
  | .obj _ _, e, _ => by cases e
  | .scr _ _ _, e, _ => by cases e
  | .dct _, e, _ => by cases e
  | .dki _, e, _ => by cases e
  | .opq _, e, _ => by cases e
theorem rep_scalD {F : Hp} {w : V} : ∀ {d : D}, scalD d = some w → Rep F d w
  | .non, e => by cases e; rfl
  | .bl _, e => by cases e; rfl
  | .int _, e => by cases e; rfl
  | .str _, e => by cases e; rfl
  | .ty _, e => by cases e; rfl
  | .ref _, e => by cases e
  | .lst _, e => by cases e
  | .tup _, e => by cases e
  | .obj _ _, e => by cases e
  | .scr _ _ _, e => by cases e
  | .dct _, e => by cases e
  | .dki _, e => by cases e
  | .opq _, e => by cases e
theorem rd_eq {v w : V} {b : Bool} (hx : scalD x = some v) (hy : scalD y = some w) (hs : scal v w = true) (hb : decide (v = w) = b) : RD rEq x y (.bl b) := fun F H vx vy e rx ry Q k => by
  rw [scalD_rep hx rx, scalD_rep hy ry]
  exact ⟨hs, by rw [hb]; exact k _ F H (.refl e) rfl⟩
theorem rd_ne {v w : V} {b : Bool} (hx : scalD x = some v) (hy : scalD y = some w) (hs : scal v w = true) (hb : (!decide (v = w)) = b) : RD rNe x y (.bl b) := fun F H vx vy e rx ry Q k => by
  rw [scalD_rep hx rx, scalD_rep hy ry]
  exact ⟨hs, by rw [hb]; exact k _ F H (.refl e) rfl⟩
theorem atI_some {α : Type} {l : List α} {i : Int} {x : α} (h : atI l i = some x) : ∃ j, ixN l.length i = some j ∧ l[j]? = some x := by
  unfold atI at h
  cases q : ixN l.length i with
  | none => rw [q] at h; cases h
  | some j => rw [q] at h; exact ⟨j, rfl, h⟩
theorem atI_of {α : Type} {l : List α} {i : Int} {j : Nat} {x : α} (h : ixN l.length i = some j) (h2 : l[j]? = some x) : atI l i = some x := by
  unfold atI
  rw [h]
  exact h2
theorem Reps.atI {F : Hp} {xs : List V} {i : Int} (r : Reps F ds xs) (h : L2.atI ds i = some d) : ∃ v, L2.atI xs i = some v ∧ Rep F d v := by
  obtain ⟨j, h1, h2⟩ := atI_some h
  obtain ⟨v, e, rv⟩ := r.get h2
  exact ⟨v, atI_of (by rw [r.length]; exact h1) e, rv⟩
theorem rd_ixL {i : Int} (h : atI ds i = some d) : RD (rIxL K) (.lst ds) (.int i) d := fun F H vx vy e rx ry Q k => by
  obtain ⟨a, xs, rfl, hs, r⟩ := rx
  obtain ⟨v, hv, rv⟩ := r.atI h
  exact ⟨a, xs, i, v, rfl, ry, .inl (.inl (e _ _ hs)), hv, k v F H (.refl e) rv⟩
theorem rd_ixT {i : Int} (h : atI ds i = some d) : RD (rIxT K) (.tup ds) (.int i) d := fun F H vx vy e rx ry Q k => by
  obtain ⟨a, xs, rfl, hs, r⟩ := rx
  obtain ⟨v, hv, rv⟩ := r.atI h
  exact ⟨a, xs, i, v, rfl, ry, .inl (.inl (e _ _ hs)), hv, k v F H (.refl e) rv⟩
abbrev rAddStr : R2 := fun x y H Q => ∃ i j, x = .str i ∧ y = .str j ∧ i.length + j.length ≤ sizeLine ∧ Q (.str (i ++ j)) H
theorem rd_addS {a b : Str} (h : a.length + b.length ≤ sizeLine) : RD rAddStr (.str a) (.str b) (.str (a ++ b)) := fun F H vx vy e rx ry Q k => ⟨a, b, rx, ry, h, k _ F H (.refl e) rfl⟩
/-- + of two lists -/
theorem rdf_cat (h : ds.length + es.length ≤ sizeLine) : RDF rCat (.lst ds) (.lst es) (ds ++ es) := fun F H vx vy e rx ry Q k => by
  obtain ⟨a, xs, rfl, hs, r⟩ := rx
  obtain ⟨b, ys, rfl, hs2, r2⟩ := ry
  refine ⟨a, b, xs, ys, rfl, rfl, e _ _ hs, e _ _ hs2, by rw [r.length, r2.length]; exact h, fun p hp => ?_⟩
  refine k p _ F _ (.loose e _ hp) hp ?_ upd_same (r.append r2)
  cases q : F p with
  | none => rfl
  | some o => rw [e _ _ q] at hp; cases hp
/-! ### built-in calls -/
abbrev rLenS (K : PySem.W.Frag) : List V → Hp → VK → Prop := fun xs H Q => ∃ p ys, xs = [.ref p] ∧ (SqL K H p ys ∨ SqT K H p ys) ∧ Q (.int ys.length) H
theorem rc_len : RC (rLenS K) [.lst ds] (.int ds.length) := fun F H vs e r Q k => by
  obtain ⟨v, _, rfl, ⟨a, xs, rfl, hs, r1⟩, rfl⟩ := r
  exact ⟨a, xs, rfl, .inl (.inl (.inl (e _ _ hs))), k _ F H (.refl e) (by rw [r1.length]; rfl)⟩
theorem rc_lenT : RC (rLenS K) [.tup ds] (.int ds.length) := fun F H vs e r Q k => by
  obtain ⟨v, _, rfl, ⟨a, xs, rfl, hs, r1⟩, rfl⟩ := r
  exact ⟨a, xs, rfl, .inr (.inl (.inl (e _ _ hs))), k _ F H (.refl e) (by rw [r1.length]; rfl)⟩
/-- the script -/
def KLs (K : PySem.W.Frag) (a : Addr) (xs : List V) : Prop := ∃ (o : Obj) (its : Array Value) (n : Nat), K.lookup a = some o ∧ o.cls = .type "list" ∧ o.dict = none ∧ o.data = .seq its n ∧ its.size ≤ sizeLine ∧ Vals xs its.toList
theorem scr_sq {F H : Hp} {a : Addr} {ns : List Int} {p : Prop} {v : V} (e : Ex F H) (h : Rep F (.scr a ns p) v) (hp : p → KLs K a (ns.map V.int)) : v = .ref a ∧ SqL K H a (ns.map V.int) := by
  obtain ⟨h1, h2 | ⟨o, h2⟩ | h2⟩ := h
  · exact ⟨h1, .inl (.inl (e _ _ h2))⟩
  · exact ⟨h1, .inl (.inr ⟨o, e _ _ h2⟩)⟩
  · exact ⟨h1, .inr (hp h2)⟩
theorem rd_ixScr {a : Addr} {ns : List Int} {p : Prop} {i n : Int} (hp : p → KLs K a (ns.map V.int)) (h : atI ns i = some n) : RD (rIxL K) (.scr a ns p) (.int i) (.int n) := fun F H vx vy e rx ry Q k => by
  obtain ⟨rfl, hs⟩ := scr_sq e rx hp
  have q : atI (ns.map V.int) i = some (.int n) := by
    obtain ⟨j, h1, h2⟩ := atI_some h
    exact atI_of (by rw [List.length_map]; exact h1) (by rw [List.getElem?_map, h2]; rfl)
  exact ⟨a, _, i, .int n, rfl, ry, hs, q, k _ F H (.refl e) rfl⟩
theorem rc_lenScr {a : Addr} {ns : List Int} {p : Prop} (hp : p → KLs K a (ns.map V.int)) : RC (rLenS K) [.scr a ns p] (.int ns.length) := fun F H vs e r Q k => by
  obtain ⟨v, _, rfl, rx, rfl⟩ := r
  obtain ⟨rfl, hs⟩ := scr_sq e rx hp
  exact ⟨a, _, rfl, .inl hs, k _ F H (.refl e) (by rw [List.length_map]; rfl)⟩
/-- abs, max, min of two ints -/
theorem rc_int2 {f : Int → Int → Int} {i j : Int} : RC (fun vs H Q => ∃ i j, vs = [.int i, .int j] ∧ Q (.int (f i j)) H) [.int i, .int j] (.int (f i j)) := fun F H vs e rr Q k => by
  obtain ⟨v, _, rfl, rv, v2, _, rfl, rv2, rfl⟩ := rr
  have rv' : v = .int i := rv
  have rv2' : v2 = .int j := rv2
  subst rv' rv2'
  exact ⟨i, j, rfl, k _ F H (.refl e) rfl⟩
theorem rc_int1 {f : Int → Int} {i : Int} : RC (fun vs H Q => ∃ i, vs = [.int i] ∧ Q (.int (f i)) H) [.int i] (.int (f i)) := fun F H vs e rr Q k => by
  obtain ⟨v, _, rfl, rv, rfl⟩ := rr
  have rv' : v = .int i := rv
  subst rv'
  exact ⟨i, rfl, k _ F H (.refl e) rfl⟩
end
end DL
set_option Elab.async false
set_option linter.all false
set_option maxRecDepth 100000
set_option maxHeartbeats 4000000
/-! DL3: statements, loops, comprehensions, calls. -/
namespace DL
open PySem PySem.Spec PyProof.Rows L2
/-- what is wanted behind a statement -/
structure Po where
  nx : List En → Prop
  rt : D → List En → Prop
  bk : List En → Prop := fun _ => False
  ct : List En → Prop := fun _ => False
def SW (ts : TS) (Γ : List En) (P : Po) : Prop := ∀ c F H σ, Good c F H σ Γ → ∀ D : Ends,
  (∀ Γ' F' H' σ', P.nx Γ' → Good c F' H' σ' Γ' → Ex F F' → D.nx σ' H') →
  (∀ v d Γ' F' H' σ', P.rt d Γ' → Good c F' H' σ' Γ' → Ex F F' → Rep F' d v → D.rt v H') →
  (∀ Γ' F' H' σ', P.bk Γ' → Good c F' H' σ' Γ' → Ex F F' → D.bk σ' H') →
  (∀ Γ' F' H' σ', P.ct Γ' → Good c F' H' σ' Γ' → Ex F F' → D.ct σ' H') → ts D σ H
/-- a binding target -/
def GtP (g : TG) (d : D) (Γ Γ' : List En) : Prop := ∀ c F H σ v, Good c F H σ Γ → Rep F d v → ∀ Q : L2.St → Hp → Prop, (∀ σ', Good c F H σ' Γ' → Q σ' H) → g v σ H Q
section
variable {K : PySem.W.Frag} {Γ Γ' : List En} {te ta tb : TE} {tt tu : TT} {t u w : TS} {d x y z : D} {ds es : List D} {R : D → List En → Prop} {P : Po} {g : TG}
theorem SW.imp {P' : Po} (h : SW t Γ P) (h1 : ∀ G, P.nx G → P'.nx G) (h2 : ∀ d G, P.rt d G → P'.rt d G) (h3 : ∀ G, P.bk G → P'.bk G) (h4 : ∀ G, P.ct G → P'.ct G) : SW t Γ P' :=
  fun c F H σ G D a b e f => h c F H σ G D (fun Γ' F' H' σ' p => a Γ' F' H' σ' (h1 _ p)) (fun v d Γ' F' H' σ' p => b v d Γ' F' H' σ' (h2 _ _ p)) (fun Γ' F' H' σ' p => e Γ' F' H' σ' (h3 _ p)) (fun Γ' F' H' σ' p => f Γ' F' H' σ' (h4 _ p))
theorem gt_name {i : Nat} : GtP (gName i) d Γ (Γ.set i (.sh d)) := fun c F H σ v G r Q k => k _ (G.setSh r)
theorem gt_tup2 {i j : Nat} : GtP (gTup K 2 (gCons (gName i) (gCons (gName j) gNil))) (.tup [x, y]) Γ ((Γ.set i (.sh x)).set j (.sh y)) := fun c F H σ v G r Q k => by
  obtain ⟨a, xs, rfl, ha, u1, r1, rfl, h1, u2, r2, rfl, h2, rfl⟩ := r
  exact ⟨a, [u1, u2], rfl, .inl (.inl (G.exH ha)), rfl, u1, [u2], rfl, u2, [], rfl, rfl, k _ ((G.setSh h1).setSh h2)⟩
theorem gt_tup3 {i j l : Nat} : GtP (gTup K 3 (gCons (gName i) (gCons (gName j) (gCons (gName l) gNil)))) (.tup [x, y, z]) Γ (((Γ.set i (.sh x)).set j (.sh y)).set l (.sh z)) := fun c F H σ v G r Q k => by
  obtain ⟨a, xs, rfl, ha, u1, r1, rfl, h1, u2, r2, rfl, h2, u3, r3, rfl, h3, rfl⟩ := r
  exact ⟨a, [u1, u2, u3], rfl, .inl (.inl (G.exH ha)), rfl, u1, [u2, u3], rfl, u2, [u3], rfl, u3, [], rfl, rfl, k _ (((G.setSh h1).setSh h2).setSh h3)⟩
theorem sw_next (h : P.nx Γ) : SW tNext Γ P := fun c F H σ G D a b e f => a Γ F H σ h G (Ex.refl F)
theorem sw_brk (h : P.bk Γ) : SW tBreak Γ P := fun c F H σ G D a b e f => e Γ F H σ h G (Ex.refl F)
theorem sw_cont (h : P.ct Γ) : SW tCont Γ P := fun c F H σ G D a b e f => f Γ F H σ h G (Ex.refl F)
theorem sw_seq (M : List En → Prop) (h1 : SW t Γ ⟨M, P.rt, P.bk, P.ct⟩) (h2 : ∀ Γ', M Γ' → SW u Γ' P) : SW (tSeq t u) Γ P := fun c F H σ G D a b e f =>
  h1 c F H σ G { D with nx := u D } (fun Γ' F' H' σ' m G' x => h2 Γ' m c F' H' σ' G' D (fun Γ'' F'' H'' σ'' p G'' y => a Γ'' F'' H'' σ'' p G'' (x.trans y)) (fun v d Γ'' F'' H'' σ'' p G'' y => b v d Γ'' F'' H'' σ'' p G'' (x.trans y))
    (fun Γ'' F'' H'' σ'' p G'' y => e Γ'' F'' H'' σ'' p G'' (x.trans y)) (fun Γ'' F'' H'' σ'' p G'' y => f Γ'' F'' H'' σ'' p G'' (x.trans y))) b e f
theorem sw_seq1 (h1 : SW t Γ ⟨(· = Γ'), P.rt, P.bk, P.ct⟩) (h2 : SW u Γ' P) : SW (tSeq t u) Γ P := sw_seq (· = Γ') h1 fun _ e => e ▸ h2
theorem sw_ret (h : EvP te Γ d) (hr : P.rt d Γ) : SW (tRet te) Γ P := fun c F H σ G D a b e f => h c F H σ G _ fun v F' H' S r => b v d Γ F' H' σ hr (G.step S) S.f r
theorem sw_retW (h : EvW te Γ P.rt) : SW (tRet te) Γ P := fun c F H σ G D a b e f => h c F H σ G _ fun v d Γ' F' H' hr G' x _ r => b v d Γ' F' H' σ hr G' x r
theorem sw_asg {i : Nat} (h : EvP te Γ d) (hn : P.nx (Γ.set i (.sh d))) : SW (tAsg te (gName i)) Γ P := fun c F H σ G D a b e f => h c F H σ G _ fun v F' H' S r => a _ F' H' _ hn ((G.step S).setSh r) S.f
theorem sw_asgG (h : EvP te Γ d) (hg : GtP g d Γ Γ') (hn : P.nx Γ') : SW (tAsg te g) Γ P := fun c F H σ G D a b e f => h c F H σ G _ fun v F' H' S r => hg c F' H' σ v (G.step S) r _ fun σ' G' => a _ F' H' _ hn G' S.f
theorem sw_asgF {i : Nat} (h : EvF te Γ ds) (hn : P.nx (Γ.set i (.own ds))) : SW (tAsg te (gName i)) Γ P := fun c F H σ G D a b e f => h c F H σ G _ fun p xs F' H' S n nf eq r =>
  a _ F' H' _ hn ((G.step S).setOwn (G.noSlot n) nf eq r (G.fresh n)) S.f
theorem sw_asgW {i : Nat} (h : EvW te Γ R) (hn : ∀ d Γ', R d Γ' → P.nx (Γ'.set i (.sh d))) : SW (tAsg te (gName i)) Γ P := fun c F H σ G D a b e f => h c F H σ G _ fun v d Γ' F' H' hr G' x _ r => a _ F' H' _ (hn d Γ' hr) (G'.setSh r) x
theorem sw_drop (h : EvP te Γ d) (hn : P.nx Γ) : SW (tDrop te) Γ P := fun c F H σ G D a b e f => h c F H σ G _ fun v F' H' S r => a _ F' H' _ hn (G.step S) S.f
theorem sw_dropW (h : EvW te Γ R) (hn : ∀ d Γ', R d Γ' → P.nx Γ') : SW (tDrop te) Γ P := fun c F H σ G D a b e f => h c F H σ G _ fun v d Γ' F' H' hr G' x _ r => a _ F' H' _ (hn d Γ' hr) G' x
theorem sw_if {b : Bool} (h : EtP tt Γ b) (h1 : b = true → SW t Γ P) (h2 : b = false → SW u Γ P) : SW (tIfS tt t u) Γ P := fun c F H σ G D a b' e f => h c F H σ G _ fun F1 H1 S => by
  cases b with
  | true =>
    rw [if_pos rfl]
    exact h1 rfl c F1 H1 σ (G.step S) D (fun Γ' F' H' σ' p G' x => a Γ' F' H' σ' p G' (S.f.trans x)) (fun v d Γ' F' H' σ' p G' x => b' v d Γ' F' H' σ' p G' (S.f.trans x)) (fun Γ' F' H' σ' p G' x => e Γ' F' H' σ' p G' (S.f.trans x)) (fun Γ' F' H' σ' p G' x => f Γ' F' H' σ' p G' (S.f.trans x))
  | false =>
    rw [if_neg Bool.false_ne_true]
    exact h2 rfl c F1 H1 σ (G.step S) D (fun Γ' F' H' σ' p G' x => a Γ' F' H' σ' p G' (S.f.trans x)) (fun v d Γ' F' H' σ' p G' x => b' v d Γ' F' H' σ' p G' (S.f.trans x)) (fun Γ' F' H' σ' p G' x => e Γ' F' H' σ' p G' (S.f.trans x)) (fun Γ' F' H' σ' p G' x => f Γ' F' H' σ' p G' (S.f.trans x))
theorem sw_ifW {R : Bool → List En → Prop} (h : EtW tt Γ R) (h1 : ∀ Γ', R true Γ' → SW t Γ' P) (h2 : ∀ Γ', R false Γ' → SW u Γ' P) : SW (tIfS tt t u) Γ P := fun c F H σ G D a b' e f => h c F H σ G _ fun b Γ1 F1 H1 hr G1 x1 => by
  cases b with
  | true =>
    rw [if_pos rfl]
    exact h1 _ hr c F1 H1 σ G1 D (fun Γ' F' H' σ' p G' x => a Γ' F' H' σ' p G' (x1.trans x)) (fun v d Γ' F' H' σ' p G' x => b' v d Γ' F' H' σ' p G' (x1.trans x)) (fun Γ' F' H' σ' p G' x => e Γ' F' H' σ' p G' (x1.trans x)) (fun Γ' F' H' σ' p G' x => f Γ' F' H' σ' p G' (x1.trans x))
  | false =>
    rw [if_neg Bool.false_ne_true]
    exact h2 _ hr c F1 H1 σ G1 D (fun Γ' F' H' σ' p G' x => a Γ' F' H' σ' p G' (x1.trans x)) (fun v d Γ' F' H' σ' p G' x => b' v d Γ' F' H' σ' p G' (x1.trans x)) (fun Γ' F' H' σ' p G' x => e Γ' F' H' σ' p G' (x1.trans x)) (fun Γ' F' H' σ' p G' x => f Γ' F' H' σ' p G' (x1.trans x))
/-- an own list is shared from here on -/
theorem sw_frz {i : Nat} (h : Γ[i]? = some (.own ds)) (k : SW t (Γ.set i (.sh (.lst ds))) P) : SW t Γ P := fun c F H σ G D a b e f => by
  obtain ⟨F1, x1, G1⟩ := G.freezeSlot h
  exact k c F1 H σ G1 D (fun Γ' F' H' σ' p G' x => a Γ' F' H' σ' p G' (x1.trans x)) (fun v d Γ' F' H' σ' p G' x => b v d Γ' F' H' σ' p G' (x1.trans x)) (fun Γ' F' H' σ' p G' x => e Γ' F' H' σ' p G' (x1.trans x)) (fun Γ' F' H' σ' p G' x => f Γ' F' H' σ' p G' (x1.trans x))
/-! ### a mutable list of a slot: read, put, appended to, popped from -/
def Mt (Γ : List En) (i : Nat) (ds : List D) : Prop := Γ[i]? = some (.own ds) ∨ Γ[i]? = some (.lent ds)
theorem Good.mt {c : Ct} {F H : Hp} {σ : L2.St} (G : Good c F H σ Γ) {i : Nat} (h : Mt Γ i ds) : ∃ a xs e, σ[i]? = some (some (.ref a)) ∧ H a = some (.lst xs) ∧ Reps F ds xs ∧ F a = none ∧ Γ[i]? = some e ∧ (e = .own ds ∨ e = .lent ds) := by
  rcases h with h | h
  · obtain ⟨a, xs, h1, h2, h3, h4, _⟩ := G.own h
    exact ⟨a, xs, _, h1, h3, h4, h2, h, .inl rfl⟩
  · obtain ⟨a, xs, h1, h2, h3, h4, _⟩ := G.lent h
    exact ⟨a, xs, _, h1, h3, h4, h2, h, .inr rfl⟩
/-- the slot's list is now es -/
def pt (Γ : List En) (i : Nat) (es : List D) : List En := Γ.set i ((Γ[i]?.getD .un).put es)
theorem Good.pt {c : Ct} {F H : Hp} {σ : L2.St} (G : Good c F H σ Γ) {i : Nat} {a : Addr} {ys : List V} (h : Mt Γ i ds) (e1 : σ[i]? = some (some (.ref a))) (r : Reps F es ys) : Good c F (upd H a (.lst ys)) σ (DL.pt Γ i es) := by
  unfold DL.pt
  rcases h with h | h
  · rw [h]; exact G.chg (ds := ds) h (.inl rfl) e1 r
  · rw [h]; exact G.chg (ds := ds) h (.inr rfl) e1 r
/-- x[e], x a mutable list -/
theorem ep_ixM {i : Nat} {n : Int} (h : Mt Γ i ds) (he : EvP te Γ (.int n)) (hx : atI ds n = some d) : EvP (tOp (rIxL K) (tVar i) te) Γ d := fun c F H σ G Q k => by
  obtain ⟨a, xs, e, h1, h2, h3, h4, h5, h6⟩ := G.mt h
  refine ⟨_, h1, he c F H σ G _ fun v F' H' S r => ?_⟩
  obtain ⟨u, hu, ru⟩ := (h3.mono S.f).atI hx
  exact ⟨a, xs, n, u, rfl, r, .inl (.inl (S.h _ _ h2)), hu, k u F' H' S ru⟩
theorem ep_lenM {i : Nat} (h : Mt Γ i ds) : EvP (tCB (rLenS K) (tCons (tVar i) tNil)) Γ (.int ds.length) := fun c F H σ G Q k => by
  obtain ⟨a, xs, e, h1, h2, h3, h4, h5, h6⟩ := G.mt h
  exact ⟨_, h1, a, xs, rfl, .inl (.inl (.inl h2)), k _ F H (.refl G.fh) (by rw [h3.length]; rfl)⟩
/-- x[e1] = e2 -/
theorem sw_setM {i : Nat} {n : Int} {j : Nat} {tn : TE} (hv : EvP te Γ d) (h : Mt Γ i ds) (hi : EvP tn Γ (.int n)) (hj : ixN ds.length n = some j) (hn : P.nx (pt Γ i (ds.set j d))) : SW (tAsg te (gSub (tVar i) tn rSetL)) Γ P := fun c F H σ G D a b e f =>
  hv c F H σ G _ fun v F1 H1 S1 r1 => by
    have G1 := G.step S1
    obtain ⟨p, xs, e', h1, h2, h3, h4, h5, h6⟩ := G1.mt h
    refine ⟨_, h1, hi c F1 H1 σ G1 _ fun w F2 H2 S2 r2 => ?_⟩
    have G2 := G1.step S2
    exact ⟨p, xs, n, j, rfl, r2, S2.h _ _ h2, by rw [h3.length]; exact hj, a _ F2 _ σ hn (G2.pt h h1 (((h3.mono S2.f)).set (r1.mono S2.f) j)) (S1.f.trans S2.f)⟩
/-- x.append(e) -/
theorem sw_app {i : Nat} (h : Mt Γ i ds) (hv : EvP te Γ d) (hl : ds.length < sizeLine) (hn : P.nx (pt Γ i (ds ++ [d]))) : SW (tDrop (tBM K "list" rAppend (tVar i) (tCons te tNil))) Γ P := fun c F H σ G D a b e f => by
  obtain ⟨p, xs, e', h1, h2, h3, h4, h5, h6⟩ := G.mt h
  refine ⟨_, h1, .inl ⟨rfl, _, SqL.of h2⟩, hv c F H σ G _ fun v F1 H1 S1 r1 => ?_⟩
  have G1 := G.step S1
  exact ⟨p, xs, v, rfl, rfl, S1.h _ _ h2, by rw [h3.length]; exact hl, a _ F1 _ σ hn (G1.pt h h1 ((h3.mono S1.f).append (.one r1))) S1.f⟩
/-- x.append(e), e with effects (x keeps its list meanwhile) -/
theorem sw_appW {i : Nat} (h : Mt Γ i ds) (hv : EvW te Γ R) (hR : ∀ d Γ', R d Γ' → Mt Γ' i ds ∧ P.nx (pt Γ' i (ds ++ [d]))) (hl : ds.length < sizeLine) : SW (tDrop (tBM K "list" rAppend (tVar i) (tCons te tNil))) Γ P := fun c F H σ G D a b e f => by
  obtain ⟨p, xs, e', h1, h2, h3, h4, h5, h6⟩ := G.mt h
  refine ⟨_, h1, .inl ⟨rfl, _, SqL.of h2⟩, hv c F H σ G _ fun v d Γ' F1 H1 hr G1 x1 _ r1 => ?_⟩
  obtain ⟨m, hn⟩ := hR d Γ' hr
  obtain ⟨p', xs', e'', k1, k2, k3, k4, k5, k6⟩ := G1.mt m
  rw [h1] at k1
  cases k1
  exact ⟨p, xs', v, rfl, rfl, k2, by rw [k3.length]; exact hl, a _ F1 _ σ hn (G1.pt m h1 (k3.append (.one r1))) x1⟩
/-! ### loops -/
/-- what is walked is the list ds -/
def WiP (wi : TI) (Γ : List En) (ds : List D) : Prop := ∀ c F H σ, Good c F H σ Γ → ∀ R : It → Hp → Prop,
  (∀ J F' H' (Gd : Hp → Prop) (Y : Nat → Hp → V → Hp → Prop), Stp F H F' H' → Walk J ds.length Gd Y → (∀ H2, Ex F' H2 → Gd H2) →
    (∀ i H1 v H2 F1, i < ds.length → Ex F' F1 → Ex F1 H1 → Y i H1 v H2 → ∃ F2 d, ds[i]? = some d ∧ Stp F1 H1 F2 H2 ∧ Rep F2 d v) → R J H') → wi σ H R
theorem wi_list (h : EvP te Γ (.lst ds)) : WiP (iList K te) Γ ds := fun c F H σ G R k => h c F H σ G _ fun v F1 H1 S1 r1 => by
  obtain ⟨a, xs, rfl, ha, r⟩ := r1
  refine ⟨a, rfl, ⟨xs, .inl (.inl (S1.fh _ _ ha))⟩, k _ F1 H1 (fun H => SqL K H a xs) (YAt xs) S1 (r.length ▸ walk_list) (fun H2 e => .inl (.inl (e _ _ ha))) fun i H1' v H2 F2 hi x1 x2 y => ?_⟩
  obtain ⟨rfl, hv⟩ := y
  obtain ⟨d, hd, rd⟩ := r.get' hv
  exact ⟨F2, d, hd, .refl x2, rd.mono x1⟩
theorem wi_tup (h : EvP te Γ (.tup ds)) : WiP (iTup K te) Γ ds := fun c F H σ G R k => h c F H σ G _ fun v F1 H1 S1 r1 => by
  obtain ⟨a, xs, rfl, ha, r⟩ := r1
  refine ⟨a, rfl, ⟨xs, .inl (.inl (S1.fh _ _ ha))⟩, k _ F1 H1 (fun H => SqT K H a xs) (YAt xs) S1 (r.length ▸ walk_tup) (fun H2 e => .inl (.inl (e _ _ ha))) fun i H1' v H2 F2 hi x1 x2 y => ?_⟩
  obtain ⟨rfl, hv⟩ := y
  obtain ⟨d, hd, rd⟩ := r.get' hv
  exact ⟨F2, d, hd, .refl x2, rd.mono x1⟩
def rgD (lo : Int) (n : Nat) : List D := (List.range n).map fun (i : Nat) => D.int (lo + (i : Int))
theorem rgD_len {lo : Int} {n : Nat} : (rgD lo n).length = n := by simp [rgD]
theorem rgD_get {lo : Int} {n i : Nat} (h : i < n) : (rgD lo n)[i]? = some (.int (lo + (i : Nat))) := by simp [rgD, h]
theorem wi_rng1 {ta : TA} {n : Int} (h : EaP ta Γ [.int n]) (h1 : -(2 ^ 62) ≤ n) (h2 : n < 2 ^ 62) : WiP (iRng1 ta) Γ (rgD 0 n.toNat) := fun c F H σ G R k => h c F H σ G _ fun vs F1 H1 S1 r1 => by
  obtain ⟨v, _, rfl, rv, rfl⟩ := r1
  have rv' : v = .int n := rv
  subst rv'
  refine ⟨n, rfl, h1, h2, k _ F1 H1 (fun _ => True) (YFn fun i => .int (0 + i)) S1 (by rw [rgD_len]; exact walk_range) (fun _ _ => trivial) fun i H1' v H2 F2 hi x1 x2 y => ?_⟩
  obtain ⟨rfl, rfl⟩ := y
  rw [rgD_len] at hi
  exact ⟨F2, _, rgD_get hi, .refl x2, rfl⟩
theorem wi_rng2 {ta : TA} {m n : Int} (h : EaP ta Γ [.int m, .int n]) (hb : -(2 ^ 62) ≤ m ∧ m < 2 ^ 62 ∧ -(2 ^ 62) ≤ n ∧ n < 2 ^ 62) : WiP (iRng2 ta) Γ (rgD m (n - m).toNat) := fun c F H σ G R k => h c F H σ G _ fun vs F1 H1 S1 r1 => by
  obtain ⟨v, _, rfl, rv, v2, _, rfl, rv2, rfl⟩ := r1
  have rv' : v = .int m := rv
  have rv2' : v2 = .int n := rv2
  subst rv' rv2'
  refine ⟨m, n, rfl, hb, k _ F1 H1 (fun _ => True) (YFn fun i => .int (m + i)) S1 (by rw [rgD_len]; exact walk_range) (fun _ _ => trivial) fun i H1' v H2 F2 hi x1 x2 y => ?_⟩
  obtain ⟨rfl, rfl⟩ := y
  rw [rgD_len] at hi
  exact ⟨F2, _, rgD_get hi, .refl x2, rfl⟩
def enD (ds : List D) : List D := (List.range ds.length).map fun (i : Nat) => D.tup [.int (i : Int), ds.getD i .non]
theorem enD_len : (enD ds).length = ds.length := by simp [enD]
theorem wi_enum {ta : TA} (h : EaP ta Γ [.lst ds]) : WiP (iEnum K ta) Γ (enD ds) := fun c F H σ G R k => h c F H σ G _ fun vs F1 H1 S1 r1 => by
  obtain ⟨v, _, rfl, ⟨a, xs, rfl, ha, r⟩, rfl⟩ := r1
  refine ⟨a, xs, rfl, .inl (.inl (S1.fh _ _ ha)), k _ F1 H1 (fun H => SqL K H a xs) _ S1 (by rw [enD_len, ← r.length]; exact walk_enum) (fun H2 e => .inl (.inl (e _ _ ha))) fun i H1' v H2 F2 hi x1 x2 y => ?_⟩
  obtain ⟨T, p, q, rfl, hT, rfl, hp, hq⟩ := y
  obtain ⟨d, hd, rd⟩ := r.get' hq
  rw [enD_len] at hi
  refine ⟨_, .tup [.int (i : Nat), d], by simp [enD, hi]; exact (List.getElem?_eq_some_iff.mp hd).2, Stp.new x2 _ hT, T, _, rfl, upd_same, _, _, rfl, ?_, _, _, rfl, (rd.mono x1).mono (Stp.new x2 (HO.tup [p, q]) hT).f, rfl⟩
  exact (Option.some.inj hp).symm
def zpD : List D → List D → List D
  | x :: xs, y :: ys => .tup [x, y] :: zpD xs ys
  | _, _ => []
theorem zpD_len : ∀ {xs ys : List D}, (zpD xs ys).length = min xs.length ys.length
  | [], _ => by simp [zpD]
  | _ :: _, [] => by simp [zpD]
  | _ :: xs, _ :: ys => by simp only [zpD, List.length_cons, zpD_len (xs := xs) (ys := ys)]; omega
theorem zpD_get : ∀ {xs ys : List D} {i : Nat} {x y : D}, xs[i]? = some x → ys[i]? = some y → (zpD xs ys)[i]? = some (.tup [x, y])
  | [], _, _, _, _, h, _ => by simp at h
  | _ :: _, [], _, _, _, _, h => by simp at h
  | _ :: _, _ :: _, 0, _, _, h, h2 => by simp at h h2; subst h h2; rfl
  | _ :: xs, _ :: ys, i + 1, _, _, h, h2 => by simpa [zpD] using zpD_get (xs := xs) (ys := ys) (i := i) (by simpa using h) (by simpa using h2)
theorem wi_zip {ta : TA} (h : EaP ta Γ [.lst ds, .lst es]) : WiP (iZip K ta) Γ (zpD ds es) := fun c F H σ G R k => h c F H σ G _ fun vs F1 H1 S1 r1 => by
  obtain ⟨v, _, rfl, ⟨a, xs, rfl, ha, r⟩, v2, _, rfl, ⟨b, ys, rfl, hb, r2⟩, rfl⟩ := r1
  refine ⟨a, b, xs, ys, rfl, .inl (.inl (S1.fh _ _ ha)), .inl (.inl (S1.fh _ _ hb)), k _ F1 H1 (fun H => SqL K H a xs ∧ SqL K H b ys) _ S1 (walk_zip (by rw [zpD_len, r.length, r2.length])) (fun H2 e => ⟨.inl (.inl (e _ _ ha)), .inl (.inl (e _ _ hb))⟩) fun i H1' v H2 F2 hi x1 x2 y => ?_⟩
  obtain ⟨T, p, q, rfl, hT, rfl, hp, hq⟩ := y
  obtain ⟨d, hd, rd⟩ := r.get' hp
  obtain ⟨d2, hd2, rd2⟩ := r2.get' hq
  exact ⟨_, _, zpD_get hd hd2, Stp.new x2 _ hT, T, _, rfl, upd_same, _, _, rfl, (rd.mono x1).mono (Stp.new x2 (HO.tup [p, q]) hT).f, _, _, rfl, (rd2.mono x1).mono (Stp.new x2 (HO.tup [p, q]) hT).f, rfl⟩
/-- for .. in ..: I by the turn and the slots -/
theorem sw_for {wi : TI} (I : Nat → List En → Prop) (h : WiP wi Γ ds) (h0 : I 0 Γ) (hs : ∀ i d Γi, ds[i]? = some d → I i Γi → ∃ Γ', GtP g d Γi Γ' ∧ SW t Γ' ⟨I (i + 1), P.rt, P.nx, I (i + 1)⟩) (hd : ∀ Γ', I ds.length Γ' → P.nx Γ') :
    SW (tFor wi g t) Γ P := fun c F H σ G D a b e f => h c F H σ G _ fun J F1 H1 Gd Y S w hG hY => by
  refine for_it w (fun i σ' H' => ∃ Γi F', I i Γi ∧ Good c F' H' σ' Γi ∧ Ex F1 F') ⟨Γ, F1, h0, G.step S, Ex.refl _⟩ (fun i σ' H' _ ⟨_, _, _, G', x⟩ => hG _ (x.trans G'.fh)) ?_ ?_
  · rintro i v σ1 H2 H3 hi ⟨Γi, F2, p, G2, x2⟩ y
    obtain ⟨F3, d, hd', S3, r3⟩ := hY i H2 v H3 F2 hi x2 G2.fh y
    obtain ⟨Γ', hg, hb⟩ := hs i d Γi hd' p
    refine hg c F3 H3 σ1 v (G2.step S3) r3 _ fun σ2 G3 => ?_
    exact hb c F3 H3 σ2 G3 _ (fun Γ'' F' H' σ' q G' x => ⟨Γ'', F', q, G', (x2.trans S3.f).trans x⟩) (fun v d Γ'' F' H' σ' q G' x => b v d Γ'' F' H' σ' q G' ((S.f.trans (x2.trans S3.f)).trans x))
      (fun Γ'' F' H' σ' q G' x => a Γ'' F' H' σ' q G' ((S.f.trans (x2.trans S3.f)).trans x)) (fun Γ'' F' H' σ' q G' x => ⟨Γ'', F', q, G', (x2.trans S3.f).trans x⟩)
  · rintro σ1 H2 ⟨Γi, F2, p, G2, x2⟩
    exact a Γi F2 H2 σ1 (hd _ p) G2 (S.f.trans x2)
/-- while: I by the slots, μ falls -/
theorem sw_while (I : Nat → List En → Prop) (m0 : Nat) (h0 : I m0 Γ) (hs : ∀ m Γi, I m Γi → ∃ b, EtP tt Γi b ∧ (b = true → SW t Γi ⟨fun Γ' => ∃ m', m' < m ∧ I m' Γ', P.rt, P.nx, fun Γ' => ∃ m', m' < m ∧ I m' Γ'⟩) ∧ (b = false → P.nx Γi)) :
    SW (tWhile tt t) Γ P := fun c F H σ G D a b e f => by
  refine ⟨fun m σ' H' => ∃ Γi F', I m Γi ∧ Good c F' H' σ' Γi ∧ Ex F F', ⟨m0, Γ, F, h0, G, Ex.refl _⟩, ?_⟩
  rintro m σ1 H1 ⟨Γi, F1, p, G1, x1⟩
  obtain ⟨v, ht, h1, h2⟩ := hs m Γi p
  refine ht c F1 H1 σ1 G1 _ fun F2 H2 S => ?_
  cases v with
  | true =>
    rw [if_pos rfl]
    refine ⟨fun σ' H' => ∃ Γ' F', (∃ m', m' < m ∧ I m' Γ') ∧ Good c F' H' σ' Γ' ∧ Ex F F', fun σ' H' ⟨Γ', F', ⟨m', hm, q⟩, G', x⟩ => ⟨m', hm, Γ', F', q, G', x⟩, ?_⟩
    exact h1 rfl c F2 H2 σ1 (G1.step S) _ (fun Γ'' F' H' σ' q G' x => ⟨Γ'', F', q, G', (x1.trans S.f).trans x⟩) (fun v d Γ'' F' H' σ' q G' x => b v d Γ'' F' H' σ' q G' ((x1.trans S.f).trans x))
      (fun Γ'' F' H' σ' q G' x => a Γ'' F' H' σ' q G' ((x1.trans S.f).trans x)) (fun Γ'' F' H' σ' q G' x => ⟨Γ'', F', q, G', (x1.trans S.f).trans x⟩)
  | false =>
    rw [if_neg Bool.false_ne_true]
    exact a Γi F2 H2 σ1 (h2 rfl) (G1.step S) (x1.trans S.f)
end
end DL
set_option Elab.async false
set_option linter.all false
set_option maxRecDepth 100000
set_option maxHeartbeats 4000000
/-! DL4: comprehensions, calls, a def. -/
namespace DL
open PySem PySem.Spec PyProof.Rows L2
/-! ### comprehensions -/
theorem wipe_at (σ : L2.St) : ∀ (vs : List Nat) (j : Nat), (wipe σ vs)[j]? = if j ∈ vs then σ[j]?.map (fun _ => none) else σ[j]?
  | [], j => by simp [wipe]
  | v :: vs, j => by
    unfold wipe
    by_cases z : v = j
    · subst z
      rw [List.getElem?_set]
      simp [wipe_length]
      split <;> rename_i h <;> simp [h]
    · rw [List.getElem?_set_ne z, wipe_at σ vs j]
      have e : (j ∈ v :: vs) ↔ j ∈ vs := by simp [Ne.symm z]
      simp [e]
theorem wipe_eq {σ τ : L2.St} {vs : List Nat} (h : ∀ j, j ∉ vs → τ[j]? = σ[j]?) (hl : τ.length = σ.length) : wipe τ vs = wipe σ vs := by
  apply List.ext_getElem?
  intro j
  rw [wipe_at, wipe_at]
  by_cases z : j ∈ vs
  · simp only [if_pos z]
    by_cases q : j < σ.length
    · rw [List.getElem?_eq_getElem q, List.getElem?_eq_getElem (hl ▸ q)]; rfl
    · rw [List.getElem?_eq_none (by omega), List.getElem?_eq_none (by omega)]
  · simp only [if_neg z]; exact h j z
def wipG (Γ : List En) : List Nat → List En
  | [] => Γ
  | v :: vs => (wipG Γ vs).set v .un
theorem Good.wip {c : Ct} {F H : Hp} {σ : L2.St} {Γ : List En} (G : Good c F H σ Γ) : ∀ vs : List Nat, Good c F H (wipe σ vs) (wipG Γ vs)
  | [] => G
  | v :: vs => (G.wip vs).setUn
/-- a target that binds the comprehension's own names vs -/
def GtV (g : TG) (d : D) (vs : List Nat) (Γ Γ' : List En) : Prop := ∀ c F H σ v, Good c F H σ Γ → Rep F d v → ∀ Q : L2.St → Hp → Prop, (∀ σ', Good c F H σ' Γ' → (∀ j, j ∉ vs → σ'[j]? = σ[j]?) → σ'.length = σ.length → Q σ' H) → g v σ H Q
section
variable {K : PySem.W.Frag} {Γ Γ' : List En} {te ta tb : TE} {tt tu : TT} {t u w : TS} {d x y z : D} {ds es : List D} {R R' : D → List En → Prop} {P : Po} {g : TG}
theorem gv_name {i : Nat} {vs : List Nat} (hi : i ∈ vs) : GtV (gName i) d vs Γ (Γ.set i (.sh d)) := fun c F H σ v G r Q k => k _ (G.setSh r) (fun j hj => List.getElem?_set_ne fun (z : i = j) => hj (z ▸ hi)) (List.length_set ..)
theorem gv_tup2 {i j : Nat} {vs : List Nat} (hi : i ∈ vs) (hj : j ∈ vs) : GtV (gTup K 2 (gCons (gName i) (gCons (gName j) gNil))) (.tup [x, y]) vs Γ ((Γ.set i (.sh x)).set j (.sh y)) := fun c F H σ v G r Q k => by
  obtain ⟨a, xs, rfl, ha, u1, r1, rfl, h1, u2, r2, rfl, h2, rfl⟩ := r
  refine ⟨a, [u1, u2], rfl, .inl (.inl (G.exH ha)), rfl, u1, [u2], rfl, u2, [], rfl, rfl, k _ ((G.setSh h1).setSh h2) (fun l hl => ?_) (by rw [List.length_set, List.length_set])⟩
  rw [List.getElem?_set_ne fun (z : j = l) => hl (z ▸ hj), List.getElem?_set_ne fun (z : i = l) => hl (z ▸ hi)]
theorem filterMap_snoc {α β : Type} (f : α → Option β) {xs : List α} {i : Nat} {x : α} (h : xs[i]? = some x) : (xs.take (i + 1)).filterMap f = (xs.take i).filterMap f ++ (f x).toList := by
  have hi := (List.getElem?_eq_some_iff.mp h).1
  have e : xs.take (i + 1) = xs.take i ++ [x] := by
    rw [List.take_succ, h]; rfl
  rw [e, List.filterMap_append]
  cases q : f x <;> simp [q]
/-- [te for g in wi if tt], pure -/
theorem ef_lc {α : Type} {wi : TI} {vs : List Nat} (xs : List α) (f : α → D) (o : α → Option D) (h : WiP wi Γ (xs.map f)) (hl : xs.length < sizeLine)
    (hs : ∀ x ∈ xs, ∃ Γ', GtV g (f x) vs (wipG Γ vs) Γ' ∧ EtP tt Γ' (o x).isSome ∧ ∀ e, o x = some e → EvP te Γ' e) : EvF (tLc wi g tt te vs) Γ (xs.filterMap o) := fun c F H σ G Q k => h c F H σ G _ fun J F1 H1 Gd Y S w hG hY => by
  intro Dl nD
  have nF1 : F1 Dl = none := by
    cases q : F1 Dl with
    | none => rfl
    | some u => rw [S.fh _ _ q] at nD; cases nD
  rw [List.length_map] at w
  have G1 := G.step S
  have fD : ∀ {F2 H2 F3 H3 : Hp} {u : HO}, Stp F2 H2 F3 H3 → F2 Dl = none → H2 Dl = some u → F3 Dl = none := fun {F2 H2 F3 H3 u} S2 hf he => by
    cases q : F3 Dl with
    | none => rfl
    | some v =>
      rcases S2.nw Dl (by rw [q]; exact Option.some_ne_none _) with z | z
      · exact absurd hf z
      · rw [he] at z; cases z
  refine lc_it w (fun i H2 => ∃ F2 acc, Stp F1 H1 F2 H2 ∧ F2 Dl = none ∧ H2 Dl = some (.lst acc) ∧ Reps F2 ((xs.take i).filterMap o) acc) ⟨F1, [], .loose S.fh _ nD, nF1, upd_same, rfl⟩ (fun i H2 _ ⟨F2, acc, S2, _⟩ => hG _ (S2.f.trans S2.fh)) ?_ ?_
  · rintro i v H2 H3 hi ⟨F2, acc, S2, f2, e2, r2⟩ y
    obtain ⟨F3, d, hd, S3, r3⟩ := hY i H2 v H3 F2 (by rw [List.length_map]; exact hi) S2.f S2.fh y
    have hx : xs[i]? = some xs[i] := List.getElem?_eq_getElem hi
    have ed : d = f xs[i] := by
      rw [List.getElem?_map, hx] at hd
      exact (Option.some.inj hd).symm
    subst ed
    obtain ⟨Γ', hg, ht, he⟩ := hs _ (List.getElem_mem hi)
    have S23 := S2.trans S3
    refine hg c F3 H3 _ v ((G1.step S23).wip vs) r3 _ fun σ2 G3 q1 q2 => ⟨?_, ?_⟩
    · refine wipe_eq (fun j hj => ?_) ?_
      · rw [q1 j hj, wipe_at, if_neg hj]
      · rw [q2, wipe_length]
    · refine ht c F3 H3 σ2 G3 _ fun F4 H4 S4 => ?_
      have f3 := fD S3 f2 e2
      have e3 := S3.h _ _ e2
      have f4 := fD S4 f3 e3
      have e4 := S4.h _ _ e3
      cases q : o xs[i] with
      | none =>
        rw [Option.isSome_none, if_neg Bool.false_ne_true]
        refine ⟨F4, acc, S23.trans S4, f4, e4, ?_⟩
        rw [filterMap_snoc o hx, q]
        exact ((r2.mono S3.f).mono S4.f).append (ds := _) (es := []) rfl |> fun z => by simpa using z
      | some e =>
        rw [Option.isSome_some, if_pos rfl]
        refine he e q c F4 H4 σ2 (G3.step S4) _ fun u F5 H5 S5 r5 => ?_
        have f5 := fD S5 f4 e4
        have e5 := S5.h _ _ e4
        have hz : acc.length < sizeLine := by
          rw [r2.length]
          refine Nat.lt_of_le_of_lt (List.length_filterMap_le ..) ?_
          rw [List.length_take]
          omega
        have S5' := (S23.trans S4).trans S5
        refine ⟨acc, e5, hz, F5, acc ++ [u], ⟨S5'.f, fun a w q => ?_, fun a w q => ?_, S5'.nw⟩, f5, upd_same, ?_⟩
        · have na : a ≠ Dl := fun z => by subst z; rw [nD] at q; cases q
          rw [upd_ne na]; exact S5'.h _ _ q
        · have na : a ≠ Dl := fun z => by subst z; rw [f5] at q; cases q
          rw [upd_ne na]; exact S5'.fh _ _ q
        · rw [filterMap_snoc o hx, q]
          exact (((r2.mono S3.f).mono S4.f).mono S5.f).append (.one r5)
  · rintro H2 ⟨F2, acc, S2, f2, e2, r2⟩
    rw [List.take_length] at r2
    refine k Dl acc F2 H2 (S.trans S2) ?_ f2 e2 r2
    cases q : H Dl with
    | none => rfl
    | some u => rw [S.h _ _ q] at nD; cases nD
theorem ef_map {α : Type} {wi : TI} {vs : List Nat} (xs : List α) (f : α → D) (o : α → D) (h : WiP wi Γ (xs.map f)) (hl : xs.length < sizeLine)
    (hs : ∀ x ∈ xs, ∃ Γ', GtV g (f x) vs (wipG Γ vs) Γ' ∧ EvP te Γ' (o x)) : EvF (tLc wi g tYes te vs) Γ (xs.map o) := by
  have q := ef_lc (tt := tYes) xs f (fun x => some (o x)) h hl (te := te) (g := g) (vs := vs) fun x hx => by
    obtain ⟨Γ', h1, h2⟩ := hs x hx
    exact ⟨Γ', h1, et_yes, fun e z => by cases z; exact h2⟩
  rwa [List.filterMap_eq_map'] at q
/-! ### calls -/
abbrev Cn := List En → (D → List En → Prop) → Prop
def argOk : List En → Prop
  | [] => True
  | .sh _ :: r => argOk r
  | .lent _ :: r => argOk r
  | _ :: _ => False
/-- a def's promise, by data -/
def spE (C : Cn) : Sp := fun vs H Q _ => ∃ c F Γ R, Good c F H (vs.map some) Γ ∧ argOk Γ ∧ C Γ R ∧ ∀ v d Γ' F' H', R d Γ' → Good c F' H' (vs.map some) Γ' → Ex F F' → Rep F' d v → Q v H'
theorem reps_slots {F : Hp} : ∀ {es : List D} {vs : List V}, Reps F es vs → ∀ (i : Nat) (e : En), (es.map En.sh)[i]? = some e → ∃ d v, e = .sh d ∧ (vs.map some)[i]? = some (some v) ∧ Rep F d v
  | [], _, _, i, e, h => by simp at h
  | _ :: _, _, ⟨v, r, h1, h2, h3⟩, 0, e, h => by cases h1; simp at h; exact ⟨_, v, h.symm, rfl, h2⟩
  | _ :: _, _, ⟨v, r, h1, h2, h3⟩, i + 1, e, h => by
    cases h1
    obtain ⟨d, u, q1, q2, q3⟩ := reps_slots h3 i e (by simpa using h)
    exact ⟨d, u, q1, by simpa using q2, q3⟩
theorem good_args {F H : Hp} {es : List D} {vs : List V} (x : Ex F H) (r : Reps F es vs) : Good ⟨F, H, fun _ => none⟩ F H (vs.map some) (es.map .sh) where
  ff := Ex.refl _
  fh := x
  hh := fun _ _ e _ => e
  li := fun a ⟨_, e⟩ => by cases e
  nw := fun _ e => .inl e
  len := by rw [List.length_map, List.length_map, r.length]
  en := fun i e he => by
    obtain ⟨d, v, rfl, h2, h3⟩ := reps_slots r i e he
    exact ⟨_, h2, v, rfl, h3⟩
  dj := fun i j a e e' h1 h2 m1 => by
    obtain ⟨d, v, rfl, _, _⟩ := reps_slots r i e h1
    cases m1
theorem argOk_sh : ∀ es : List D, argOk (es.map En.sh)
  | [] => trivial
  | _ :: es => argOk_sh es
/-- a call of a def that changes none of its arguments -/
theorem ep_call {C : Cn} {ta : TA} (ha : EaP ta Γ es) (hc : C (es.map .sh) R) (hR : ∀ e Γ', R e Γ' → e = z) : EvP (tCall (spE C) [] E0 ta) Γ z := fun c F H σ G Q k => ha c F H σ G _ fun vs F1 H1 S1 r1 => by
  show spE C (vs ++ []) H1 Q E0
  rw [List.append_nil]
  refine ⟨_, F1, _, R, good_args S1.fh r1, argOk_sh es, hc, fun v d Γ' F' H' hr G' x r => ?_⟩
  have e := hR d Γ' hr
  subst e
  exact k v F' H' (S1.trans ⟨x, fun a o q => G'.hh a o q (fun ⟨_, z⟩ => by cases z), G'.fh, G'.nw⟩) r
theorem ew_callP {C : Cn} {ta : TA} (ha : EaP ta Γ es) (hc : C (es.map .sh) R') (hR : ∀ e Γ', R' e Γ' → R e Γ) : EvW (tCall (spE C) [] E0 ta) Γ R := fun c F H σ G Q k => ha c F H σ G _ fun vs F1 H1 S1 r1 => by
  show spE C (vs ++ []) H1 Q E0
  rw [List.append_nil]
  refine ⟨_, F1, _, R', good_args S1.fh r1, argOk_sh es, hc, fun v d Γ' F' H' hr G' x r => ?_⟩
  have S2 : Stp F1 H1 F' H' := ⟨x, fun a o q => G'.hh a o q (fun ⟨_, z⟩ => by cases z), G'.fh, G'.nw⟩
  exact k v d Γ F' H' (hR d Γ' hr) (G.step (S1.trans S2)) (S1.trans S2).f (Fr.stp (S1.trans S2)) r
/-- a call whose first argument is a mutable list of slot i, lent -/
theorem ew_call1 {C : Cn} {ta : TA} {i : Nat} (hm : Mt Γ i ds) (ha : EaP ta Γ es) (hc : C (.lent ds :: es.map .sh) R') (hR : ∀ e Γ', R' e Γ' → ∃ ds', Γ'[0]? = some (.lent ds') ∧ R e (pt Γ i ds')) : EvW (tCall (spE C) [] E0 (tCons (tVar i) ta)) Γ R := fun c F H σ G Q k => by
  obtain ⟨a, xs, e0, h1, h2, h3, h4, h5, h6⟩ := G.mt hm
  refine ⟨_, h1, ha c F H σ G _ fun vs F1 H1 S1 r1 => ?_⟩
  show spE C ((.ref a :: vs) ++ []) H1 Q E0
  rw [List.append_nil]
  have G1 := G.step S1
  have f1 : F1 a = none := by
    obtain ⟨a', xs', e', k1, k2, k3, k4, _⟩ := G1.mt hm
    rw [h1] at k1; cases k1; exact k4
  have e1 := S1.h _ _ h2
  have Ga := good_args S1.fh r1
  have Gc : Good ⟨F1, H1, fun j => if j = 0 then some a else none⟩ F1 H1 ((V.ref a :: vs).map some) (.lent ds :: es.map .sh) := by
    refine ⟨Ex.refl _, S1.fh, fun _ _ e _ => e, fun b ⟨j, e⟩ => ?_, fun _ e => .inl e, by simp [r1.length], fun j e he => ?_, fun p q x e e' k1 k2 m1 m2 k3 k4 => ?_⟩
    · dsimp only at e
      by_cases z : j = 0
      · rw [if_pos z] at e; cases e; exact ⟨_, e1⟩
      · rw [if_neg z] at e; cases e
    · cases j with
      | zero => simp at he; subst he; exact ⟨some (.ref a), rfl, a, xs, rfl, f1, e1, h3.mono S1.f, (if_pos rfl : (if (0 : Nat) = 0 then some a else none) = some a)⟩
      | succ j =>
        obtain ⟨d, v, rfl, q1, q2⟩ := reps_slots r1 j e (by simpa using he)
        exact ⟨some v, by simpa using q1, v, rfl, q2⟩
    · have f : ∀ {j : Nat} {e : En}, (En.lent ds :: es.map En.sh)[j]? = some e → e.mut = true → j = 0 := fun {j e} he m => by
        cases j with
        | zero => rfl
        | succ j =>
          obtain ⟨d, v, rfl, _, _⟩ := reps_slots r1 j e (by simpa using he)
          cases m
      rw [f k1 m1, f k2 m2]
  refine ⟨_, F1, _, R', Gc, argOk_sh es, hc, fun v d Γ' F' H' hr G' x r => ?_⟩
  obtain ⟨ds', hl, hr'⟩ := hR d Γ' hr
  obtain ⟨b, ys, q1, q2, q3, q4, q5⟩ := G'.lent hl
  have eb : b = a := by simpa using q1.symm
  subst eb
  have m1 : Mt Γ i ds := hm
  -- the rest of the step first, then the list changes
  have S2 : Stp F1 H1 F' (upd H' b (.lst xs)) := by
    refine ⟨x, fun p o q => ?_, fun p o q => ?_, G'.nw⟩
    · by_cases z : p = b
      · subst z; rw [e1] at q; cases q; exact upd_same
      · rw [upd_ne z]
        exact G'.hh p o q fun ⟨j, e⟩ => by
          dsimp only at e
          by_cases w : j = 0
          · rw [if_pos w] at e; cases e; exact z rfl
          · rw [if_neg w] at e; cases e
    · have np : p ≠ b := fun z => by subst z; rw [q2] at q; cases q
      rw [upd_ne np]; exact G'.fh p o q
  have G3 := (G1.step S2).pt m1 h1 q4
  have eH : upd (upd H' b (.lst xs)) b (.lst ys) = H' := by
    rw [upd_upd]
    funext p
    by_cases z : p = b
    · subst z; rw [upd_same, q3]
    · rw [upd_ne z]
  rw [eH] at G3
  refine k v d _ F' H' hr' G3 (S1.f.trans x) (fun p o e n => ?_) r
  have np : p ≠ b := fun z => by
    subst z
    rcases hm with hm | hm
    · exact n i _ hm rfl h1
    · exact n i _ hm rfl h1
  obtain ⟨t1, t2, t3⟩ := Fr.stp (S1.trans S2) p o e n
  rw [upd_ne np] at t1
  refine ⟨t1, t2, fun j e' he m q => ?_⟩
  unfold pt at he
  by_cases z : i = j
  · subst z; rw [h1] at q; cases q; exact np rfl
  · rw [List.getElem?_set_ne z] at he; exact n j e' he m q
end
end DL
set_option Elab.async false
set_option linter.all false
set_option maxRecDepth 100000
set_option maxHeartbeats 4000000
/-! DL5: a def. -/
namespace DL
open PySem PySem.Spec PyProof.Rows L2
/-- the arguments' entries behind the def: the lent ones as they are now -/
def outG : List En → List En → List En
  | [], _ => []
  | .lent ds :: r, Γ' => (Γ'.headD .un) :: outG r Γ'.tail
  | e :: r, Γ' => e :: outG r Γ'.tail
def lentOk : List En → List En → Prop
  | [], _ => True
  | .lent _ :: r, .lent _ :: r' => lentOk r r'
  | .lent _ :: _, _ => False
  | _ :: r, _ :: r' => lentOk r r'
  | _ :: r, [] => False
theorem outG_len : ∀ {Γ Γ' : List En}, (outG Γ Γ').length = Γ.length
  | [], _ => rfl
  | .un :: r, Γ' => by simp [outG, outG_len (Γ := r)]
  | .sh _ :: r, Γ' => by simp [outG, outG_len (Γ := r)]
  | .own _ :: r, Γ' => by simp [outG, outG_len (Γ := r)]
  | .lent _ :: r, Γ' => by simp [outG, outG_len (Γ := r)]
theorem outG_get : ∀ {Γ Γ' : List En} {i : Nat} {e : En}, argOk Γ → lentOk Γ Γ' → (outG Γ Γ')[i]? = some e → (∃ d, e = .sh d ∧ Γ[i]? = some (.sh d)) ∨ (∃ ds ds', e = .lent ds' ∧ Γ[i]? = some (.lent ds) ∧ Γ'[i]? = some (.lent ds'))
  | [], _, _, _, _, _, h => by simp [outG] at h
  | .sh d :: r, [], _, _, _, l, _ => by simp [lentOk] at l
  | .sh d :: r, _ :: r', 0, e, _, _, h => by simp [outG] at h; exact .inl ⟨d, h.symm, rfl⟩
  | .sh d :: r, _ :: r', i + 1, e, a, l, h => by
    have q := outG_get (Γ := r) (Γ' := r') (i := i) (e := e) (by simpa [argOk] using a) (by simpa [lentOk] using l) (by simpa [outG] using h)
    simpa using q
  | .lent d :: r, .lent d' :: r', 0, e, _, _, h => by simp [outG] at h; exact .inr ⟨d, d', h.symm, rfl, rfl⟩
  | .lent d :: r, .lent d' :: r', i + 1, e, a, l, h => by
    have q := outG_get (Γ := r) (Γ' := r') (i := i) (e := e) (by simpa [argOk] using a) (by simpa [lentOk] using l) (by simpa [outG] using h)
    simpa using q
  | .lent d :: r, [], _, _, _, l, _ => by simp [lentOk] at l
  | .lent d :: r, .un :: _, _, _, _, l, _ => by simp [lentOk] at l
  | .lent d :: r, .sh _ :: _, _, _, _, l, _ => by simp [lentOk] at l
  | .lent d :: r, .own _ :: _, _, _, _, l, _ => by simp [lentOk] at l
  | .un :: _, _, _, _, a, _, _ => by simp [argOk] at a
  | .own _ :: _, _, _, _, a, _, _ => by simp [argOk] at a
section
variable {c : Ct} {F F' H H' : Hp} {σ : L2.St} {Γ Γ' : List En}
theorem Good.start (G : Good c F H σ Γ) (n : Nat) : Good c F H (σ ++ List.replicate n none) (Γ ++ List.replicate n .un) where
  ff := G.ff
  fh := G.fh
  hh := G.hh
  li := G.li
  nw := G.nw
  len := by simp [G.len]
  en := fun i e he => by
    by_cases z : i < Γ.length
    · rw [List.getElem?_append_left z] at he
      obtain ⟨o, h1, h2⟩ := G.en i e he
      exact ⟨o, by rw [List.getElem?_append_left (by rw [G.len]; exact z)]; exact h1, h2⟩
    · have hi : i < Γ.length + n := by
        have := (List.getElem?_eq_some_iff.mp he).1
        simpa using this
      rw [List.getElem?_append_right (by omega), List.getElem?_replicate, if_pos (by omega)] at he
      cases he
      exact ⟨none, by rw [List.getElem?_append_right (by rw [G.len]; omega), List.getElem?_replicate, if_pos (by rw [G.len]; omega)], trivial⟩
  dj := fun i j a e e' h1 h2 m1 m2 h3 h4 => by
    have f : ∀ {j : Nat} {e : En}, (Γ ++ List.replicate n En.un)[j]? = some e → e.mut = true → j < Γ.length := fun {j e} he m => by
      by_cases z : j < Γ.length
      · exact z
      · have hi : j < Γ.length + n := by
          have := (List.getElem?_eq_some_iff.mp he).1
          simpa using this
        rw [List.getElem?_append_right (by omega), List.getElem?_replicate, if_pos (by omega)] at he
        cases he; cases m
    have z1 := f h1 m1
    have z2 := f h2 m2
    rw [List.getElem?_append_left z1] at h1
    rw [List.getElem?_append_left z2] at h2
    rw [List.getElem?_append_left (by rw [G.len]; exact z1)] at h3
    rw [List.getElem?_append_left (by rw [G.len]; exact z2)] at h4
    exact G.dj i j a e e' h1 h2 m1 m2 h3 h4
/-- behind the def: the arguments again -/
theorem Good.back (G : Good c F H σ Γ) {σ' : L2.St} (G' : Good c F' H' σ' Γ') (x : Ex F F') (a : argOk Γ) (l : lentOk Γ Γ') : Good c F' H' σ (outG Γ Γ') where
  ff := G'.ff
  fh := G'.fh
  hh := G'.hh
  li := G'.li
  nw := G'.nw
  len := by rw [outG_len]; exact G.len
  en := fun i e he => by
    rcases outG_get a l he with ⟨d, rfl, h1⟩ | ⟨ds, ds', rfl, h1, h2⟩
    · obtain ⟨v, e1, r⟩ := G.sh h1
      exact ⟨some v, e1, v, rfl, r.mono x⟩
    · obtain ⟨p, xs, e1, _, _, _, e2⟩ := G.lent h1
      obtain ⟨q, ys, k1, k2, k3, k4, k5⟩ := G'.lent h2
      rw [e2] at k5
      cases k5
      exact ⟨some (.ref p), e1, p, ys, rfl, k2, k3, k4, e2⟩
  dj := fun i j p e e' h1 h2 m1 m2 h3 h4 => by
    rcases outG_get a l h1 with ⟨d, rfl, _⟩ | ⟨ds, ds', rfl, k1, _⟩
    · cases m1
    · rcases outG_get a l h2 with ⟨d, rfl, _⟩ | ⟨es, es', rfl, k2, _⟩
      · cases m2
      · exact G.dj i j p _ _ k1 k2 rfl rfl h3 h4
end
section
variable {P : Program} {w : World} {K : PySem.W.Frag} {mg : Str → Option Value} {base : Heap} {x qual : Str} {params : Arguments} {body : List Stmt} {scope : Scope} {f : Addr} {fd : FuncData} {N ps : List Str} {k : Nat} {C : Cn}
/-- THE RULE for a def over data: its reading t and, for each Γ and R that the contract allows, the run of t -/
theorem fn_ok (F : FunD K x qual params body scope [] [] f fd) (S : FnScope N ps scope) (hlen : ∀ Γ R, C Γ R → Γ.length = ps.length)
    (hb : ∀ (cdv : Value) (A : Around) (outer : List Env) (s : Shared) (H : Hp) (E : XK), Room k (A.deeper (envOfC qual scope s.heap.objs.size f cdv)) →
      ∃ t, PSs (cxOf CX0 P w K mg base N qual scope f cdv A outer s H E).nox body t ∧
        ∀ Γ R, C Γ R → argOk Γ → SW t (Γ ++ List.replicate (N.length - ps.length) .un) ⟨fun Γ' => R .non (outG Γ Γ') ∧ lentOk Γ Γ', fun d Γ' => R d (outG Γ Γ') ∧ lentOk Γ Γ', fun _ => False, fun _ => False⟩) :
    FnOk P w K mg base CX0 (k + 1) f fd ps (spE C) := by
  have ln : ∀ vs H Q E, spE C vs H Q E → vs.length = ps.length := fun vs H Q E ⟨c, F, Γ, R, G, a, hC, q⟩ => by
    have e := G.len
    rw [List.length_map] at e
    rw [e, hlen _ _ hC]
  refine F.ok S ln fun cdv A outer s H vs Q E hr h => ?_
  obtain ⟨t, h1, h2⟩ := hb cdv A outer s H E hr
  refine ⟨t, PSs.nox h1, ?_⟩
  have lv := ln vs H Q E h
  obtain ⟨c, F0, Γ, R, G, a, hC, q⟩ := h
  show t _ (vs.map some ++ List.replicate (N.length - vs.length) none) H
  rw [lv]
  refine h2 Γ R hC a c F0 H _ (G.start _) _ (fun Γ' F' H' σ' p G' x => ?_) (fun v d Γ' F' H' σ' p G' x r => ?_) (fun _ _ _ _ z => z.elim) (fun _ _ _ _ z => z.elim)
  · exact q .non .non _ F' H' p.1 (G.back G' x a p.2) x rfl
  · exact q v d _ F' H' p.1 (G.back G' x a p.2) x r
end
end DL
set_option Elab.async false
set_option linter.all false
set_option maxRecDepth 100000
set_option maxHeartbeats 4000000
/-! DL6: operations in the forms that unify. -/
namespace DL
open PySem PySem.Spec PyProof.Rows L2
def CPowW (i j : Int) : Prop := 0 ≤ j ∧ (Builtin.Int.intBits i : Int) * j ≤ 2 ^ 27
theorem op_powW {X : Cx} : OpR X (binaryOp .Pow) (rI CPowW fun i j => .int (i ^ j.toNat)) := opI fun _ _ _ _ _ _ _ hc q => pow_int hc.1 hc.2 q
section
variable {K : PySem.W.Frag} {Γ Γ' : List En} {te ta tb : TE} {tt tu : TT} {t u w : TS} {d x y z : D} {ds es : List D} {R : D → List En → Prop} {P : Po} {g : TG}
theorem rd_I0i {g : Int → Int → Int} {i j : Int} : RD (rI0 fun i j => .int (g i j)) (.int i) (.int j) (.int (g i j)) := rd_I0 fun _ => rfl
theorem rd_I0b {g : Int → Int → Bool} {i j : Int} : RD (rI0 fun i j => .bl (g i j)) (.int i) (.int j) (.bl (g i j)) := rd_I0 fun _ => rfl
theorem rd_Ii {C : Int → Int → Prop} {g : Int → Int → Int} {i j : Int} (h : C i j) : RD (rI C fun i j => .int (g i j)) (.int i) (.int j) (.int (g i j)) := rd_I h fun _ => rfl
theorem rd_eqI {i j : Int} : RD rEq (.int i) (.int j) (.bl (decide (i = j))) := rd_eq rfl rfl rfl (by by_cases h : i = j <;> simp [h])
theorem rd_neI {i j : Int} : RD rNe (.int i) (.int j) (.bl (!decide (i = j))) := rd_ne rfl rfl rfl (by by_cases h : i = j <;> simp [h])
theorem rd_eqS {i j : Str} : RD rEq (.str i) (.str j) (.bl (decide (i = j))) := rd_eq rfl rfl rfl (by by_cases h : i = j <;> simp [h])
theorem rd_neS {i j : Str} : RD rNe (.str i) (.str j) (.bl (!decide (i = j))) := rd_ne rfl rfl rfl (by by_cases h : i = j <;> simp [h])
/-- an if that leaves -/
theorem sw_guard {b : Bool} (h : EtP tt Γ b) (h1 : b = true → SW t Γ ⟨fun _ => False, P.rt, P.bk, P.ct⟩) (h2 : b = false → SW u Γ P) : SW (tSeq (tIfS tt t tNext) u) Γ P := by
  refine sw_seq (fun G' => b = false ∧ G' = Γ) (sw_if h (fun e => (h1 e).imp (fun _ z => z.elim) (fun _ _ z => z) (fun _ z => z) (fun _ z => z)) fun e => sw_next ⟨e, rfl⟩) ?_
  rintro _ ⟨e, rfl⟩
  exact h2 e
theorem sw_guardW {Rb : Bool → List En → Prop} (h : EtW tt Γ Rb) (h1 : ∀ Γ', Rb true Γ' → SW t Γ' ⟨fun _ => False, P.rt, P.bk, P.ct⟩) (h2 : ∀ Γ', Rb false Γ' → SW u Γ' P) : SW (tSeq (tIfS tt t tNext) u) Γ P := by
  refine sw_seq (fun G' => Rb false G') (sw_ifW h (fun G' e => (h1 G' e).imp (fun _ z => z.elim) (fun _ _ z => z) (fun _ z => z) (fun _ z => z)) fun G' e => sw_next e) ?_
  intro G' e
  exact h2 G' e
theorem q_asg {i : Nat} (h : EvP te Γ d) (k : SW u (Γ.set i (.sh d)) P) : SW (tSeq (tAsg te (gName i)) u) Γ P := sw_seq1 (sw_asg h rfl) k
theorem q_asgF {i : Nat} (h : EvF te Γ ds) (k : SW u (Γ.set i (.own ds)) P) : SW (tSeq (tAsg te (gName i)) u) Γ P := sw_seq1 (sw_asgF h rfl) k
theorem q_asgW {i : Nat} (h : EvW te Γ R) (k : ∀ d Γ', R d Γ' → SW u (Γ'.set i (.sh d)) P) : SW (tSeq (tAsg te (gName i)) u) Γ P :=
  sw_seq (fun G' => ∃ d Γ', R d Γ' ∧ G' = Γ'.set i (.sh d)) (sw_asgW h fun d Γ' r => ⟨d, Γ', r, rfl⟩) fun G' ⟨d, Γ', r, e⟩ => e ▸ k d Γ' r
theorem q_setM {i : Nat} {n : Int} {j : Nat} {tn : TE} (hv : EvP te Γ d) (h : Mt Γ i ds) (hi : EvP tn Γ (.int n)) (hj : ixN ds.length n = some j) (k : SW u (pt Γ i (ds.set j d)) P) : SW (tSeq (tAsg te (gSub (tVar i) tn rSetL)) u) Γ P := sw_seq1 (sw_setM hv h hi hj rfl) k
theorem q_app {i : Nat} (h : Mt Γ i ds) (hv : EvP te Γ d) (hl : ds.length < sizeLine) (k : SW u (pt Γ i (ds ++ [d])) P) : SW (tSeq (tDrop (tBM K "list" rAppend (tVar i) (tCons te tNil))) u) Γ P := sw_seq1 (sw_app h hv hl rfl) k
theorem q_drop (h : EvP te Γ d) (k : SW u Γ P) : SW (tSeq (tDrop te) u) Γ P := sw_seq1 (sw_drop h rfl) k
/-! ### built-in calls on ints -/
theorem rc_of {r : List V → Hp → VK → Prop} {ds : List D} {w : V} (h : ∀ F H vs, Reps F ds vs → ∀ Q : VK, Q w H → r vs H Q) (hz : ∀ F, Rep F z w) : RC r ds z := fun F H vs e rs Q k => h F H vs rs Q (k w F H (.refl e) (hz F))
end
end DL
set_option Elab.async false
set_option linter.all false
set_option maxRecDepth 100000
set_option maxHeartbeats 4000000
/-! DL7: expressions with effects; more operations. -/
namespace DL
open PySem PySem.Spec PyProof.Rows L2
section
variable {K : PySem.W.Frag} {Γ Γ' : List En} {te ta tb tc : TE} {tt tu : TT} {t u w : TS} {d x y z : D} {ds es : List D} {R R' : D → List En → Prop} {P : Po} {g : TG}
theorem EvW.imp (h : EvW te Γ R') (k : ∀ d Γ', R' d Γ' → R d Γ') : EvW te Γ R := fun c F H σ G Q q => h c F H σ G Q fun v d Γ' F' H' hr => q v d Γ' F' H' (k d Γ' hr)
theorem ew_op {r : R2} (ha : EvP ta Γ x) (hb : EvW tb Γ R') (hr : ∀ y Γ', R' y Γ' → ∃ z, RD r x y z ∧ R z Γ') : EvW (tOp r ta tb) Γ R := fun c F H σ G Q k =>
  ha c F H σ G _ fun v F1 H1 S1 r1 => hb c F1 H1 σ (G.step S1) _ fun u y Γ' F2 H2 hy G2 x2 f2 r2 => by
    obtain ⟨z, hz, hR⟩ := hr y Γ' hy
    exact hz F2 H2 v u G2.fh (r1.mono x2) r2 Q fun w F3 H3 S3 r3 => k w z Γ' F3 H3 hR (G2.step S3) (S1.f.trans (x2.trans S3.f)) (((Fr.stp S1).trans f2).trans (Fr.stp S3)) r3
theorem ew_opL {r : R2} (ha : EvW ta Γ R') (hb : ∀ x Γ', R' x Γ' → ∃ y z, EvP tb Γ' y ∧ RD r x y z ∧ R z Γ') : EvW (tOp r ta tb) Γ R := fun c F H σ G Q k =>
  ha c F H σ G _ fun v x Γ' F1 H1 hx G1 x1 f1 r1 => by
    obtain ⟨y, z, hy, hz, hR⟩ := hb x Γ' hx
    exact hy c F1 H1 σ G1 _ fun u F2 H2 S2 r2 => hz F2 H2 v u S2.fh (r1.mono S2.f) r2 Q fun w F3 H3 S3 r3 =>
      k w z Γ' F3 H3 hR ((G1.step S2).step S3) ((x1.trans S2.f).trans S3.f) ((f1.trans (Fr.stp S2)).trans (Fr.stp S3)) r3
/-- (a, b), b with effects -/
theorem ew_tup2 (ha : EvP ta Γ x) (hb : EvW tb Γ R') (hr : ∀ y Γ', R' y Γ' → R (.tup [x, y]) Γ') : EvW (tTup (tCons ta (tCons tb tNil))) Γ R := fun c F H σ G Q k =>
  ha c F H σ G _ fun v F1 H1 S1 r1 => hb c F1 H1 σ (G.step S1) _ fun u y Γ' F2 H2 hy G2 x2 f2 r2 => ⟨(by show 2 ≤ sizeLine; decide), fun p hp => by
    have S3 := Stp.new G2.fh (.tup [v, u]) hp
    exact k (.ref p) _ Γ' _ _ (hr y Γ' hy) (G2.step S3) (S1.f.trans (x2.trans S3.f)) (((Fr.stp S1).trans f2).trans (Fr.stp S3)) ⟨p, [v, u], rfl, upd_same, ⟨v, [u], rfl, (r1.mono x2).mono S3.f, u, [], rfl, r2.mono S3.f, rfl⟩⟩⟩
/-- a pure call whose one argument has effects -/
theorem ew_callA1 {C : Cn} (ha : EvW ta Γ R') (hc : ∀ x Γ', R' x Γ' → ∃ R'', C [.sh x] R'' ∧ ∀ e G, R'' e G → R e Γ') : EvW (tCall (spE C) [] E0 (tCons ta tNil)) Γ R := fun c F H σ G Q k =>
  ha c F H σ G _ fun v x Γ' F1 H1 hx G1 x1 f1 r1 => by
    obtain ⟨R'', hC, hR⟩ := hc x Γ' hx
    show spE C ([v] ++ []) H1 Q E0
    rw [List.append_nil]
    refine ⟨_, F1, [.sh x], R'', good_args (es := [x]) G1.fh (.one r1), argOk_sh [x], hC, fun w e G' F' H' hr Gz x' r => ?_⟩
    have S2 : Stp F1 H1 F' H' := ⟨x', fun a o q => Gz.hh a o q (fun ⟨_, z⟩ => by cases z), Gz.fh, Gz.nw⟩
    exact k w e Γ' F' H' (hR e G' hr) (G1.step S2) (x1.trans S2.f) (f1.trans (Fr.stp S2)) r
theorem etw_test {Rb : Bool → List En → Prop} (h : EvW te Γ R) (hr : ∀ e Γ', R e Γ' → ∃ b, e = .bl b ∧ Rb b Γ') : EtW (tTest te) Γ Rb := fun c F H σ G Q k => h c F H σ G _ fun v e Γ' F' H' he G' x _ r => by
  obtain ⟨b, rfl, hb⟩ := hr e Γ' he
  exact ⟨b, r, k b Γ' F' H' hb G' x⟩
theorem etw_B {Rb : Bool → List En → Prop} (h : EvW te Γ R) (hr : ∀ e Γ', R e Γ' → ∃ b, e = .bl b ∧ Rb b Γ') : EtW (tB te) Γ Rb := fun c F H σ G Q k => h c F H σ G _ fun v e Γ' F' H' he G' x _ r => by
  obtain ⟨b, rfl, hb⟩ := hr e Γ' he
  exact ⟨b, r, k b Γ' F' H' hb G' x⟩
theorem etw_not {Rb Rb' : Bool → List En → Prop} (h : EtW tt Γ Rb) (hr : ∀ b Γ', Rb b Γ' → Rb' (!b) Γ') : EtW (tNot tt) Γ Rb' := fun c F H σ G Q k => h c F H σ G _ fun b Γ' F' H' hb G' x => k _ Γ' F' H' (hr b Γ' hb) G' x
/-- x.pop(e) of a mutable list, e with effects -/
theorem ew_popAt {i : Nat} (hm : Mt Γ i ds) (he : EvW te Γ R') (hr : ∀ e Γ', R' e Γ' → ∃ (n : Nat) (d : D), e = .int n ∧ ds[n]? = some d ∧ n < 1000000 ∧ Mt Γ' i ds ∧ R d (pt Γ' i (ds.eraseIdx n))) :
    EvW (tBM K "list" rPopAt (tVar i) (tCons te tNil)) Γ R := fun c F H σ G Q k => by
  obtain ⟨p, xs, e0, h1, h2, h3, h4, h5, h6⟩ := G.mt hm
  refine ⟨_, h1, .inl ⟨rfl, _, SqL.of h2⟩, he c F H σ G _ fun v e Γ' F1 H1 hx G1 x1 f1 r1 => ?_⟩
  obtain ⟨n, d, rfl, hd, hn, m1, hR⟩ := hr e Γ' hx
  obtain ⟨p', ys, e1, k1, k2, k3, k4, k5, k6⟩ := G1.mt m1
  rw [h1] at k1; cases k1
  have hv : v = .int n := r1
  subst hv
  obtain ⟨y, hy, ry⟩ := k3.get hd
  have hlen : n < ys.length := (List.getElem?_eq_some_iff.mp hy).1
  refine ⟨p, ys, (n : Int), n, y, rfl, rfl, k2, by omega, by omega, ?_, hy, k y d _ F1 _ hR (G1.pt m1 h1 (k3.eraseIdx n)) x1 (fun a o ea na => ?_) ry⟩
  · unfold seqIndex?
    simp
    omega
  · have nap : a ≠ p := fun z => by
      subst z
      rcases hm with hm | hm
      · exact na i _ hm rfl h1
      · exact na i _ hm rfl h1
    obtain ⟨t1, t2, t3⟩ := f1 a o ea na
    refine ⟨by rw [upd_ne nap]; exact t1, t2, fun j e' hj m q => ?_⟩
    unfold pt at hj
    by_cases z : i = j
    · subst z; rw [h1] at q; cases q; exact nap rfl
    · rw [List.getElem?_set_ne z] at hj; exact t3 j e' hj m q
/-- a, b, c = [..], e, f with f having effects -/
theorem sw_par3F {i j l : Nat} (ha : EvF ta Γ ds) (hb : EvP tb Γ x) (hc : EvW tc Γ R) (hn : ∀ z Γ', R z Γ' → P.nx (((Γ'.set i (.own ds)).set j (.sh x)).set l (.sh z))) :
    SW (tPar3 i j l (tCons ta (tCons tb (tCons tc tNil)))) Γ P := fun c F H σ G D a b e f =>
  ha c F H σ G _ fun p xs F1 H1 S1 n1 f1 e1 r1 => hb c F1 H1 σ (G.step S1) _ fun u F2 H2 S2 r2 => hc c F2 H2 σ ((G.step S1).step S2) _ fun v z Γ' F3 H3 hz G3 x3 fr3 r3 => by
    have ns : NoSlot σ Γ p := G.noSlot n1
    have e2 : H2 p = some (.lst xs) := S2.h _ _ e1
    have f2 : F2 p = none := ((Fr.stp S2) p _ e1 ns).2.1 f1
    obtain ⟨e3, f3, n3⟩ := fr3 p _ e2 ns
    refine ⟨_, _, _, rfl, a _ F3 H3 _ (hn z Γ' hz) (((G3.setOwn n3 (f3 f2) e3 ((r1.mono S2.f).mono x3) (G.fresh n1)).setSh (r2.mono x3)).setSh r3) ((S1.f.trans S2.f).trans x3)⟩
/-- a, b = e, f -/
theorem sw_par {i j : Nat} (ha : EvP ta Γ x) (hb : EvP tb Γ y) (hn : P.nx ((Γ.set i (.sh x)).set j (.sh y))) : SW (tPar i j (tCons ta (tCons tb tNil))) Γ P := fun c F H σ G D a b e f =>
  ha c F H σ G _ fun v F1 H1 S1 r1 => hb c F1 H1 σ (G.step S1) _ fun u F2 H2 S2 r2 => ⟨_, _, rfl, a _ F2 H2 _ hn ((((G.step S1).step S2).setSh (r1.mono S2.f)).setSh r2) (S1.f.trans S2.f)⟩
/-- x.extend(e) -/
theorem sw_ext {i : Nat} (h : Mt Γ i ds) (hv : EvP te Γ (.lst es)) (hl : ds.length + es.length ≤ sizeLine) (hn : P.nx (pt Γ i (ds ++ es))) : SW (tDrop (tBM K "list" rExtend (tVar i) (tCons te tNil))) Γ P := fun c F H σ G D a b e f => by
  obtain ⟨p, xs, e', h1, h2, h3, h4, h5, h6⟩ := G.mt h
  refine ⟨_, h1, .inl ⟨rfl, _, SqL.of h2⟩, hv c F H σ G _ fun v F1 H1 S1 r1 => ?_⟩
  have G1 := G.step S1
  obtain ⟨q, ys, rfl, hq, rq⟩ := r1
  exact ⟨p, q, xs, ys, rfl, rfl, S1.h _ _ h2, S1.fh _ _ hq, by rw [h3.length, rq.length]; exact hl, a _ F1 _ σ hn (G1.pt h h1 ((h3.mono S1.f).append rq)) S1.f⟩
/-- sep.join(xs) -/
abbrev rJoin (K : PySem.W.Frag) : V → List V → Hp → VK → Prop := fun x xs H Q => ∃ a p, ∃ ys : List Str, x = .str a ∧ xs = [.ref p] ∧ (SqL K H p (ys.map V.str) ∨ SqT K H p (ys.map V.str)) ∧ (ys.map (·.length)).sum + ys.length * a.length ≤ 16777216 ∧ Q (.str (Txt.join a ys)) H
theorem ep_join {a : Str} {ys : List Str} (ha : EvP ta Γ (.str a)) (he : EvP te Γ (.lst (ys.map D.str))) (hl : (ys.map (·.length)).sum + ys.length * a.length ≤ 16777216) : EvP (tM1 (rJoin K) ta te) Γ (.str (Txt.join a ys)) := fun c F H σ G Q k =>
  ha c F H σ G _ fun v F1 H1 S1 r1 => ⟨⟨a, r1⟩, he c F1 H1 σ (G.step S1) _ fun u F2 H2 S2 r2 => by
    obtain ⟨p, xs, rfl, hp, rs⟩ := r2
    have ex := rs.strs_eq
    subst ex
    exact ⟨a, p, ys, r1, rfl, .inl (.inl (.inl (S2.fh _ _ hp))), hl, k _ F2 H2 (S1.trans S2) rfl⟩⟩
/-- tuple(xs), list(t) -/
abbrev rTuple (K : PySem.W.Frag) : List V → Hp → VK → Prop := fun xs H Q => ∃ p ys, xs = [.ref p] ∧ ((SqL K H p ys ∧ ∀ l, H l = none → Q (.ref l) (upd H l (.tup ys))) ∨ (SqT K H p ys ∧ Q (.ref p) H))
theorem rc_tuple : RC (rTuple K) [.lst ds] (.tup ds) := fun F H vs e r Q k => by
  obtain ⟨v, _, rfl, ⟨a, xs, rfl, hs, r1⟩, rfl⟩ := r
  refine ⟨a, xs, rfl, .inl ⟨.inl (.inl (e _ _ hs)), fun l hl => ?_⟩⟩
  have S := Stp.new e (.tup xs) hl
  exact k _ _ _ S ⟨l, xs, rfl, upd_same, r1.mono S.f⟩
/-- tuple(x), x a mutable list -/
theorem ep_tupleM {i : Nat} (h : Mt Γ i ds) : EvP (tCB (rTuple K) (tCons (tVar i) tNil)) Γ (.tup ds) := fun c F H σ G Q k => by
  obtain ⟨p, xs, e', h1, h2, h3, h4, h5, h6⟩ := G.mt h
  refine ⟨_, h1, p, xs, rfl, .inl ⟨.inl (.inl h2), fun l hl => ?_⟩⟩
  have S := Stp.new G.fh (.tup xs) hl
  exact k _ _ _ S ⟨l, xs, rfl, upd_same, h3.mono S.f⟩
abbrev rList (K : PySem.W.Frag) : List V → Hp → VK → Prop := fun xs H Q => ∃ p ys, xs = [.ref p] ∧ (SqL K H p ys ∨ SqT K H p ys) ∧ ∀ l, H l = none → Q (.ref l) (upd H l (.lst ys))
theorem rcf_listT : RCF (rList K) [.tup ds] ds := fun F H vs e r Q k => by
  obtain ⟨v, _, rfl, ⟨a, xs, rfl, hs, r1⟩, rfl⟩ := r
  refine ⟨a, xs, rfl, .inr (.inl (.inl (e _ _ hs))), fun l hl => ?_⟩
  have S := Stp.loose e (.lst xs) hl
  refine k l xs _ _ S hl ?_ upd_same r1
  cases q : F l with
  | none => rfl
  | some u => rw [e _ _ q] at hl; cases hl
theorem rcf_listL : RCF (rList K) [.lst ds] ds := fun F H vs e r Q k => by
  obtain ⟨v, _, rfl, ⟨a, xs, rfl, hs, r1⟩, rfl⟩ := r
  refine ⟨a, xs, rfl, .inl (.inl (.inl (e _ _ hs))), fun l hl => ?_⟩
  have S := Stp.loose e (.lst xs) hl
  refine k l xs _ _ S hl ?_ upd_same r1
  cases q : F l with
  | none => rfl
  | some u => rw [e _ _ q] at hl; cases hl
abbrev rLenStr : List V → Hp → VK → Prop := fun xs H Q => ∃ z, xs = [.str z] ∧ z.length ≤ sizeLine ∧ Q (.int z.length) H
theorem rc_lenStr {z : Str} (h : z.length ≤ sizeLine) : RC rLenStr [.str z] (.int z.length) := fun F H vs e r Q k => by
  obtain ⟨v, _, rfl, rv, rfl⟩ := r
  have rv' : v = .str z := rv
  subst rv'
  exact ⟨z, rfl, h, k _ F H (.refl e) rfl⟩
/-- x in (texts) -/
theorem inV_str (x : Str) : ∀ ys : List Str, inV (.str x) (ys.map V.str) = decide (x ∈ ys)
  | [] => by simp [inV]
  | y :: ys => by
    have q := inV_str x ys
    unfold inV at q ⊢
    rw [List.map_cons, List.any_cons, q]
    show ((y == x) || decide (x ∈ ys)) = decide (x ∈ y :: ys)
    by_cases e : x = y
    · subst e; simp
    · have e' : (y == x) = false := by simpa using fun z => e z.symm
      simp [e, e']
theorem flat_strs : ∀ ys : List Str, (ys.map V.str).all flatV = true
  | [] => rfl
  | _ :: ys => flat_strs ys
theorem rd_inS {neg : Bool} {a : Str} {ys : List Str} : RD (rIn K neg) (.str a) (.tup (ys.map D.str)) (.bl (if neg then !decide (a ∈ ys) else decide (a ∈ ys))) := fun F H vx vy e rx ry Q k => by
  obtain ⟨p, xs, rfl, hp, rs⟩ := ry
  have ex := rs.strs_eq
  subst ex
  have rx' : vx = .str a := rx
  subst rx'
  exact ⟨p, _, rfl, .inr (.inl (.inl (e _ _ hp))), rfl, flat_strs ys, by rw [inV_str]; exact k _ F H (.refl e) rfl⟩
/-- xs[::-1] -/
theorem ef_rev (h : EvP te Γ (.lst ds)) : EvF (tRevL K te) Γ ds.reverse := fun c F H σ G Q k => h c F H σ G _ fun v F1 H1 S1 r1 => by
  obtain ⟨a, xs, rfl, hs, r⟩ := r1
  refine ⟨a, xs, rfl, .inl (.inl (S1.fh _ _ hs)), fun p hp => ?_⟩
  refine k p xs.reverse F1 _ (S1.trans (.loose S1.fh _ hp)) ?_ ?_ upd_same r.reverse
  · cases q : H p with
    | none => rfl
    | some o => rw [S1.h _ _ q] at hp; cases hp
  · cases q : F1 p with
    | none => rfl
    | some o => rw [S1.fh _ _ q] at hp; cases hp
/-! == of data -/
mutual
def pyD : D → Option PyData
  | .non => some .none
  | .bl b => some (.bool b)
  | .int i => some (.int i)
  | .str x => some (.str x)
  | .lst ds => (pyDs ds).map .list
  | .tup ds => (pyDs ds).map .tuple
  | _ => none
def pyDs : List D → Option (List PyData)
  | [] => some []
  | d :: ds => match pyD d, pyDs ds with
    | some p, some ps => some (p :: ps)
    | _, _ => none
end
mutual
theorem dp_of {F H : Hp} (e : Ex F H) : ∀ {d : D} {p : PyData} {v : V}, pyD d = some p → Rep F d v → Dp K H v p
  | .non, _, _, h, r => by cases h; cases r; exact .non
  | .bl b, _, _, h, r => by cases h; cases r; exact .bl b
  | .int i, _, _, h, r => by cases h; cases r; exact .int i
  | .str x, _, _, h, r => by cases h; cases r; exact .str x
  | .lst ds, p, _, h, ⟨a, xs, h1, h2, h3⟩ => by
    simp only [pyD, Option.map_eq_some_iff] at h
    obtain ⟨ps, q, rfl⟩ := h
    cases h1
    exact .lst (.inl (.inl (e _ _ h2))) (dps_of e q h3)
  | .tup ds, p, _, h, ⟨a, xs, h1, h2, h3⟩ => by
    simp only [pyD, Option.map_eq_some_iff] at h
    obtain ⟨ps, q, rfl⟩ := h
    cases h1
    exact .tup (.inl (.inl (e _ _ h2))) (dps_of e q h3)
  | .ref _, _, _, h, _ => by simp [pyD] at h
  | .ty _, _, _, h, _ => by simp [pyD] at h
  | .obj _ _, _, _, h, _ => by simp [pyD] at h
  | .scr _ _ _, _, _, h, _ => by simp [pyD] at h
  | .dct _, _, _, h, _ => by simp [pyD] at h
  | .dki _, _, _, h, _ => by simp [pyD] at h
  | .opq _, _, _, h, _ => by simp [pyD] at h
theorem dps_of {F H : Hp} (e : Ex F H) : ∀ {ds : List D} {ps : List PyData} {xs : List V}, pyDs ds = some ps → Reps F ds xs → DpAll K H xs ps
  | [], _, _, h, r => by cases h; cases r; exact .nil
  | d :: ds, ps, _, h, ⟨v, r, h1, h2, h3⟩ => by
    cases h1
    simp only [pyDs] at h
    cases q : pyD d with
    | none => rw [q] at h; cases h
    | some p =>
      cases q2 : pyDs ds with
      | none => rw [q, q2] at h; cases h
      | some ps' =>
        rw [q, q2] at h
        cases h
        exact .cons (dp_of e q h2) (dps_of e q2 h3)
end
theorem rd_eqD {p q : PyData} (hp : pyD x = some p) (hq : pyD y = some q) (s1 : SeqAt.shaped p = true) (s2 : SeqAt.shaped q = true) : RD (rEqD K) x y (.bl (PyData.eqv p q)) := fun F H vx vy e rx ry Q k =>
  ⟨p, q, dp_of e hp rx, dp_of e hq ry, s1, s2, k _ F H (.refl e) rfl⟩
theorem rd_neD {p q : PyData} (hp : pyD x = some p) (hq : pyD y = some q) (s1 : SeqAt.shaped p = true) (s2 : SeqAt.shaped q = true) : RD (rNeD K) x y (.bl (!PyData.eqv p q)) := fun F H vx vy e rx ry Q k =>
  ⟨p, q, dp_of e hp rx, dp_of e hq ry, s1, s2, k _ F H (.refl e) rfl⟩
/-- the name x stands for a def that keeps sp -/
structure Cal (P : Program) (w : World) (K : PySem.W.Frag) (mg : Str → Option Value) (base : Heap) (k : Nat) (x : Str) (sp : Sp) : Prop where
  ex : ∃ (f : Addr) (fd : FuncData) (ps : List Str), FnOk P w K mg base CX0 k f fd ps sp ∧ mg x = some (.ref f) ∧ PySem.W.keepIn K (.ref f) = true ∧ Binds K fd ps []
theorem pe_c {X : Cx} {k j : Nat} {x : Str} {sp : Sp} {p pos : Pos} {e : Expr} {es : List Expr} {t : TA} (c : Cal X.prog X.w X.K X.mg X.base k x sp) (hr : Room j X.A) (hk : k ≤ j) (hg : Gl X x) (ha : PA X (e :: es) t)
    (hdb : (x == ("__debug__" : Str)) = false := by decide) (he : starEach (e :: es) X.env = (false, eval e X.env) :: starEach es X.env := by rfl) (hpl : (backTo pos (starEach es X.env)).any (·.1) = false := by rfl) :
    PE X (.Call (.Name x p) (e :: es) [] pos) (tCall sp [] E0 t) := by
  obtain ⟨f, fd, ps, F, hm, kp, b⟩ := c.ex
  exact pe_call F (hr.mono hk) hg hm kp b .nil pass0 ha hdb he hpl
end
theorem pe_gc {X : Cx} {x : Str} {v : V} {pos : Pos} (hg : Gl X x) (h : ∃ u, X.mg x = some u ∧ RelV v u) (hd : (x == ("__debug__" : Str)) = false := by decide) : PE X (.Name x pos) (tC v) := by
  obtain ⟨u, h1, h2⟩ := h
  exact pe_glob hg h1 h2 hd
theorem pe_fldK {X : Cx} {K : PySem.W.Frag} {e : Expr} {f : Str} {ta : TE} {pos : Pos} (he : PE X e ta) (hb : attributeBase e f X.env (eval e X.env) = eval e X.env) (hK : X.K = K := by rfl) : PE X (.Attribute e f pos) (tFld K ta f) := hK ▸ pe_fld he hb
/-- list.count of a text in a list of texts -/
def isS (k : Str) (v : Value) : Bool := match v with
  | .str x _ => x == k
  | _ => false
def rCntS (K : PySem.W.Frag) : V → List V → Hp → VK → Prop := fun x xs H Q => ∃ (p : Addr) (ns : List Str) (k : Str), x = .ref p ∧ xs = [.str k] ∧ SqL K H p (ns.map V.str) ∧ Q (.int (ns.count k : Nat)) H
theorem isS_count (k : Str) : ∀ {ns : List Str} {its : List Value}, Vals (ns.map V.str) its → its.countP (isS k) = ns.count k
  | [], _, h => by cases h; rfl
  | n :: ns, _, h => by
    cases h with
    | cons h1 h2 =>
      obtain ⟨t, rfl⟩ := h1
      rw [List.countP_cons, List.count_cons, isS_count k h2]
      rfl
theorem isS_eq (k : Str) : ∀ {ns : List Str} {its : List Value} {y : Value}, Vals (ns.map V.str) its → y ∈ its → ∃ x t, y = .str x t
  | [], _, _, h, hy => by cases h; cases hy
  | n :: ns, _, y, h, hy => by
    cases h with
    | cons h1 h2 =>
      rcases List.mem_cons.mp hy with e | e
      · subst e; obtain ⟨t, rfl⟩ := h1; exact ⟨n, t, rfl⟩
      · exact isS_eq k h2 e
theorem mt_countS {X : Cx} : MtR X "list.count" (rCntS X.K) := by
  intro pins s σ H x xs v us Q I rx rxs h
  obtain ⟨p, ns, k, rfl, rfl, hs, q⟩ := h
  cases rx
  obtain ⟨u, rfl, ru⟩ := rxs.one
  obtain ⟨t, rfl⟩ := ru
  obtain ⟨its, rv, ⟨⟨cls, dd, data, sl⟩, n, ho, hc, hdn, hd⟩, hlen⟩ := I.list hs
  simp only at hc hd
  subst hc hd
  refine call_meets PySem.F.slot_list_count ⟨_, ho, rfl⟩ PySem.F.entry_list_count (PySem.F.args_list_count_2 _ _)
    (SeqAt.list_countAt p its.toArray n dd sl (.str k t) (isS k)) ⟨ho, fun y hy => ?_, ?_⟩
  · obtain ⟨x, t', rfl⟩ := isS_eq k rv (by simpa using hy)
    have q1 := eqAt_V (A := X.A.in1) (s := s) (y := .str x) (x := .str k) (u := .str x t') (v := .str k t) ⟨t', rfl⟩ ⟨t, rfl⟩ rfl rfl
    exact q1
  · have ec : its.toArray.toList.countP (isS k) = ns.count k := isS_count k rv
    refine ⟨.int (ns.count k : Nat), H, I.tok _, ⟨s.toks, ?_⟩, q⟩
    show Value.int ((its.toArray.toList.countP (isS k) : Nat) : Int) s.toks = Value.int ((ns.count k : Nat) : Int) s.toks
    rw [ec]
end DL
set_option Elab.async false
set_option linter.all false
set_option maxRecDepth 100000
set_option autoImplicit false
set_option maxHeartbeats 4000000
/-! X1: an own exception over ValueError whose __init__ begins with super().__init__(e): its promise by its other statements. -/
namespace XS
open PySem PySem.Spec PyProof.Rows L2
/-- the frame of such an __init__ -/
abbrev envS (qual : Str) (scope : Scope) (L f : Addr) (cdv : Value) (cc : Addr) : Env := PySem.W.envX qual scope L f cdv [("__class__", cc)]
def cxS (CX : CXT) (P : Program) (w : World) (K : PySem.W.Frag) (mg : Str → Option Value) (base : Heap) (N : List Str) (qual : Str) (scope : Scope) (f : Addr) (cdv : Value) (cc : Addr) (A : Around) (outer : List Env) (s : Shared) (H : Hp) (E : XK) : Cx where
  prog := P
  w := w
  K := K
  mg := mg
  base := base
  A := A.deeper (envS qual scope s.heap.objs.size f cdv cc)
  N := N
  s_0 := s
  H_0 := H
  env := envS qual scope s.heap.objs.size f cdv cc
  outer := outer
  stack := envS qual scope s.heap.objs.size f cdv cc :: outer
  ex := []
  fn := fun _ => false
  calm := true
  pn := []
  xe := fun _ _ => False
/-- a look at its scope -/
structure ScS (N ps : List Str) (scope : Scope) : Prop where
  kind : scope.kind = .function
  co : scope.isCoroutine = false
  gen : scope.isGenerator = false
  nd : N.Nodup
  pre : N.take ps.length = ps
  par : ∀ x ∈ ps, scope.names.lookup x = some .local
  nocell : ∀ y ∈ scope.names, y.2 ≠ .cell
  free : ∀ x, scope.names.lookup x = some .free → x = "__class__"
  cls : scope.names.lookup ("__class__" : Str) = some .free
  sup : scope.names.lookup ("super" : Str) = some .globalImplicit
theorem zip_look : ∀ {ps : List Str} {us : List Value} {i : Nat} {y : Str} {u : Value}, ps.Nodup → ps[i]? = some y → us[i]? = some u → (ps.zip us).lookup y = some u
  | [], _, _, _, _, _, h, _ => by simp at h
  | _ :: _, [], _, _, _, _, _, h => by simp at h
  | p :: ps, v :: us, 0, y, u, _, h1, h2 => by
    simp at h1 h2
    subst h1 h2
    simp [List.lookup]
  | p :: ps, v :: us, i + 1, y, u, nd, h1, h2 => by
    simp at h1 h2
    obtain ⟨n1, n2⟩ := List.nodup_cons.mp nd
    have ne : (y == p) = false := by simpa using fun z : y = p => n1 (z ▸ List.mem_of_getElem? h1)
    show ((p, v) :: ps.zip us).lookup y = some u
    rw [List.lookup, ne]
    exact zip_look n2 h1 h2
theorem inv_startS {CX : CXT} {P : Program} {w : World} {K : PySem.W.Frag} {mg : Str → Option Value} {base : Heap} {N ps : List Str} {qual : Str} {scope : Scope} {f cc C : Addr} {cd : Value} {A : Around} {outer : List Env} {s : Shared} {H : Hp} {E : XK} {us : List Value} {vs : List V} {h1 : Heap} {tk : Nat} {oc : Value} {od : Option Addr} {osl : Array (Option Value)}
    (S : ScS N ps scope) (hd : A.handled = none) (e0 : Env0 P w K mg base A outer s H) (hl : vs.length = ps.length) (r : Vals vs us) (hcc : K.lookup cc = some ⟨oc, od, .cell (some (.ref C)), osl⟩)
    (hn : h1.Ns s.heap.objs.size (fun x => (ps.zip us).reverse.lookup x)) (hk : ∀ b o, s.heap.get? b = some o → h1.get? b = some o) :
    Inv (cxS CX P w K mg base N qual scope f cd cc A outer s H E) [] (L2.start N vs) H { s with heap := h1, toks := tk } := by
  have hpl : ps.length ≤ N.length := by have := congrArg List.length S.pre; rw [List.length_take] at this; omega
  have noA : ∀ b : Addr, b ∉ (cxS CX P w K mg base N qual scope f cd cc A outer s H E).ex := fun b z => absurd (show b ∈ ([] : List Addr) from z) (by simp)
  have bc := e0.mod.kin _ _ hcc
  have cel : ∀ {x : Str} {c : Addr}, ([("__class__", cc)] : List (Str × Addr)).lookup x = some c → x = "__class__" ∧ c = cc := fun {x c} h => by
    simp only [List.lookup] at h
    split at h
    · rename_i q
      cases h
      exact ⟨by simpa using q, rfl⟩
    · cases h
  refine ⟨⟨e0.mod, S.kind, rfl, rfl, Nat.le_refl _, fun y z c h1 h2 => (cel h1).1.trans (cel h2).1.symm, fun y hy => ?_, (fun y c q _ => nomatch q), fun _ => hd, Around.frames_deeper e0.frames, .inr ⟨rfl, rfl⟩, fun b z => absurd z (noA b), e0.bs, e0.bsz, fun b _ _ => noA b, fun b z => absurd z (noA b), e0.funs, e0.frf⟩,
    rfl, e0.bare, Un.kept hk, ⟨_, hn, fun i y v h1 h2 h3 => ?_⟩, fun y c h => ?_, e0.hok.fresh (Nat.le_refl _), fun y c h => ?_, fun p hp => absurd (show p ∈ ([] : List (Addr × Obj)) from hp) (by simp), e0.hok.kept hk, ?_⟩
  · have hy : scope.names.lookup y = some .cell ∨ scope.names.lookup y = some .free := hy
    rcases hy with hy | hy
    · exact absurd rfl (S.nocell _ (PySem.mem_of_lookup hy))
    · rw [S.free y hy]
      exact ⟨cc, by show List.lookup ("__class__" : Str) [(("__class__" : Str), cc)] = some cc; simp [List.lookup]⟩
  · have hi : i < vs.length := by
      unfold L2.start at h2
      by_cases hi : i < vs.length
      · exact hi
      · rw [List.getElem?_append_right (by simpa using hi)] at h2
        rw [List.getElem?_replicate] at h2
        split at h2 <;> cases h2
    have ha : vs[i]? = some v := by
      unfold L2.start at h2
      rw [List.getElem?_append_left (by simpa using hi), List.getElem?_map] at h2
      cases e : vs[i]? with
      | none => rw [e] at h2; cases h2
      | some a => rw [e] at h2; cases h2; rfl
    obtain ⟨u, hu, rv⟩ := r.get ha
    have hp : ps[i]? = some y := by
      rw [← S.pre, List.getElem?_take_of_lt (by omega)]; exact h1
    have ndP : ps.Nodup := by rw [← S.pre]; exact S.nd.sublist (List.take_sublist _ _)
    refine ⟨u, rv, .inl ⟨S.par y (List.mem_of_getElem? hp), ?_⟩⟩
    have nz : ((ps.zip us).map (·.1)).Nodup := by rw [List.map_fst_zip (by rw [← r.length, hl]; exact Nat.le_refl _)]; exact ndP
    show (ps.zip us).reverse.lookup y = some u
    rw [lookup_reverse_of_nodup _ nz]
    exact zip_look ndP hp hu
  · obtain ⟨_, e⟩ := cel h
    subst e
    exact ⟨_, _, hk _ _ (e0.bs _ _ bc).1, rfl⟩
  · rw [(cel h).2]
    exact (e0.bs _ _ bc).2
  · unfold L2.start
    show _ = N.length
    rw [List.length_append, List.length_map, List.length_replicate]
    omega
end XS
namespace XS
open PySem PySem.Spec PyProof.Rows L2
section
variable {prog : Program} {w : World} {A : Around} {E : Value → Shared → Prop} {h : Heap} {g : Array GenState} {d : Drawn} {t : Nat} {os : OsState}
variable {nm q : Str} {C N : Addr} {bs bm : List Value} {hdct : Bool} {sn : List Str} {sub : List Value} {ab : Bool} {col : Option Bool} {dd : Option Addr} {k0 k1 k2 k3 k5 : Option Value}
theorem call_bwV {u e t0 : Addr} {rest : List Value} {Q : Value → Shared → Prop}
    (hC : h.get? C = some (excClassObj nm q C N bs bm hdct sn sub ab col dd k0 k1 k2 k3 k5 "ValueError.__new__")) (he : h.get? e = some ({ cls := .ref C, dict := none, data := .fields #[.ref t0, .none, .none, .none, .bool false, .none] } : Obj)) (hu : h.get? u = some (PySem.W.kxs_mw "ValueError.__init__" e)) (hrest : rest.length ≤ sizeLine)
    (hq : ∀ h' t1, (∀ b o, b ≠ e → h.get? b = some o → h'.get? b = some o) → h'.get? e = some ({ cls := .ref C, dict := none, data := .fields #[.ref t1, .none, .none, .none, .bool false, .none] } : Obj) → Q .none ⟨h', g, d, t, os⟩) :
    wpAny (model prog w) A (call (.ref u) rest) Q E ⟨h, g, d, t, os⟩ := by
  refine wpAny_call (codeAny_of_tree ?_)
  show wpAny _ A.in1 (callAny (.ref u) ⟨rest, []⟩) _ _ _
  simp only [callAny]
  refine wpAny_bind (wpAny_load hu ?_)
  simp only [PySem.W.kxs_mw, show (Value.type "method-wrapper" == Value.type "method" || Value.type "method-wrapper" == Value.type "builtin_function_or_method" || Value.type "method-wrapper" == Value.type "method-wrapper") = true by decide, if_true]
  refine PySem.W.KFB.if_so (by decide) ?_
  refine wpAny_bind (PySem.ESX.check_bound F.excBase_ValueError hC he rfl ?_)
  refine wpAny_bind (wpAny_pure (wpAny_pure ?_))
  refine ⟨Code.quiet_builtin _ (by decide +kernel), codeAny_builtin F.excBase_ValueError.initEntry ?_⟩
  rw [Around.under_plainId F.excBase_ValueError.init.plain _]
  wp_walk
  refine hq _ h.objs.size (fun b o hb ho => ?_) ?_
  · rw [Heap.get?_update_other _ _ (Ne.symm hb)]
    exact Heap.get?_push_of_some _ ho
  · rw [Heap.get?_update_self _ (Heap.get?_push_of_some _ he) rfl]
    rfl
end
/-- what the written part says of the class at C whose __init__ is the def at f -/
structure SuC (P : Program) (K : PySem.W.Frag) (mg : Str → Option Value) (C f cc cda : Addr) (N ps : List Str) (nm0 qual : Str) (params : Arguments) (body : List Stmt) (scope : Scope) : Prop where
  ox : OexC K C
  lk : ∃ oc od dV kV doc pm an ct osl, K.lookup f = some ⟨oc, od, .func (PySem.W.fnX nm0 qual params body scope [("__class__", cc)] dV kV doc pm an (.ref cda) ct), osl⟩
  hcd : PySem.W.codeIn K (.ref cda) qual = true
  code : ∃ ccl cdd vs ccs file tf, K.lookup cda = some ⟨ccl, cdd, .fields vs, ccs⟩ ∧ vs[2]? = some (.str file tf) ∧ ((P.main.file : Str) == file) = true
  cel : ∃ oc od osl, K.lookup cc = some ⟨oc, od, .cell (some (.ref C)), osl⟩
  sc : ScS N ps scope
  p0 : ∃ ar : Arg, (params.posonlyargs ++ params.args).head? = some ar ∧ N[0]? = some ar.arg
  hp0 : ∃ x, N[0]? = some x ∧ scope.names.lookup x = some .local
  top : (P.main.scope.names.lookup ("super" : Str)).isSome = false
  ms : mg "super" = none
  self : PySem.W.mroIn K C (.ref C) = some true
  sup : PySem.W.ks_superIn K C C "__init__" = some (some (.builtin "ValueError.__init__"))
  stat : PySem.W.nsIn K cStatics "thirdparty.any" = some none
  sub : PySem.W.subIn K (.ref C) (.type "ValueError") = some true
/-- super().__init__(e) -/
def tSup (te : TE) : TS := fun D σ H => te σ H fun _ H1 => ∃ a C : Addr, σ[0]? = some (some (.ref a)) ∧ H a = some (exo a C none) ∧ H1 a = some (exo a C none) ∧ D.nx σ H1
theorem callWith_mw {M : Model} {A : Around} {E : Value → Shared → Prop} {s : Shared} {i : String} {u x : Addr} {pos : Pos} {env : Env} {e : Expr} {Q : Value → Shared → Prop}
    (h : wpAny M A (spliced (backTo pos (starEach [e] env))) (fun vs s₁ => PySem.W.KxsAt i u x s₁.heap ∧ wpAny M A (call (.ref u) vs) Q E s₁) E s)
    (he : starEach [e] env = (false, eval e env) :: starEach [] env := by rfl) (hplain : (backTo pos (starEach [] env)).any (·.1) = false := by rfl) :
    wpAny M A (callWith pos (.ref u) [] (backTo pos (starEach [e] env)) []) Q E s := by
  rw [he] at h ⊢
  refine PySem.W.kxs_callWith (i := i) (x := x) (by show (false || (backTo pos (starEach [] env)).any (·.1)) = false; rw [hplain]; rfl) ?_
  exact Calls.evalArgs_plain h
section
variable {CX : CXT} {P : Program} {w : World} {K : PySem.W.Frag} {mg : Str → Option Value} {base : Heap} {N ps : List Str} {nm0 qual : Str} {params : Arguments} {body : List Stmt} {scope : Scope} {f cc cda C : Addr} {A : Around} {outer : List Env} {s : Shared} {H : Hp} {E : XK}
theorem step_su (T : SuC P K mg C f cc cda N ps nm0 qual params body scope) {σ : L2.St} {s1 : Shared} {H1 : Hp} {a : Addr} (I : Inv (cxS CX P w K mg base N qual scope f (.ref cda) cc A outer s H E) [] σ H1 s1) (h0 : σ[0]? = some (some (.ref a))) (ea : H1 a = some (exo a C none))
    {p0 p1 p2 p3 p4 : Pos} {e : Expr} {rest : List Stmt} {te : TE} {Qf : Flow → Shared → Prop} {Ef : Value → Shared → Prop} (he : PE (cxS CX P w K mg base N qual scope f (.ref cda) cc A outer s H E) e te)
    (hev : starEach [e] (envS qual scope s.heap.objs.size f (.ref cda) cc) = (false, eval e (envS qual scope s.heap.objs.size f (.ref cda) cc)) :: starEach [] (envS qual scope s.heap.objs.size f (.ref cda) cc) := by rfl)
    {pl : Sem Bool} (hc : eval (.Call (.Attribute (.Call (.Name "super" p0) [] [] p1) "__init__" p2) [e] [] p3) (envS qual scope s.heap.objs.size f (.ref cda) cc) = (do
      let ov ← attributeBase (.Call (.Name "super" p0) [] [] p1) "__init__" (envS qual scope s.heap.objs.size f (.ref cda) cc) (eval (.Call (.Name "super" p0) [] [] p1) (envS qual scope s.heap.objs.size f (.ref cda) cc))
      standAt p2.atName
      let (g, first) ← holding [ov] (getMethod ov "__init__" pl)
      callWith p3 g first (backTo p3 (starEach [e] (envS qual scope s.heap.objs.size f (.ref cda) cc))) []) := by rfl)
    (hi : interactive (envS qual scope s.heap.objs.size f (.ref cda) cc) = false := by rfl) (hsw : swapsWith (.Call (.Attribute (.Call (.Name "super" p0) [] [] p1) "__init__" p2) [e] [] p3) none p4.line (envS qual scope s.heap.objs.size f (.ref cda) cc) = pure false := by rfl)
    (hq : te σ H1 fun y H2 => [y].length = 1 ∧ H2 a = some (exo a C none) ∧ ∀ pins s2, Inv (cxS CX P w K mg base N qual scope f (.ref cda) cc A outer s H E) pins σ H2 s2 → wpAny (model P w) (A.deeper (envS qual scope s.heap.objs.size f (.ref cda) cc)) (execs rest (envS qual scope s.heap.objs.size f (.ref cda) cc)) Qf Ef s2) :
    PySem.wpAt (model P w) (A.deeper (envS qual scope s.heap.objs.size f (.ref cda) cc)) (.func body (envS qual scope s.heap.objs.size f (.ref cda) cc)) (execs (.Expr (.Call (.Attribute (.Call (.Name "super" p0) [] [] p1) "__init__" p2) [e] [] p3) p4 :: rest) (envS qual scope s.heap.objs.size f (.ref cda) cc)) Qf Ef s1 := by
  obtain ⟨oc, od, dV, kV, doc, pm, an, ct, osl, lk⟩ := T.lk
  obtain ⟨ccl, cdd, vs, ccs, file, tf, hcode, hvs, hfile⟩ := T.code
  obtain ⟨occ, odc, oslc, hcel⟩ := T.cel
  obtain ⟨ar, har, hN0⟩ := T.p0
  obtain ⟨x0, hx0, hl0⟩ := T.hp0
  rw [hN0] at hx0
  cases hx0
  have X : K.In s1.heap := I.kIn
  refine PySem.ks_wpAt_execs_cons (PySem.ks_wpAt_Expr_any (PySem.ks_wpAt_MethodCall ?_ hc) hi hsw)
  refine PySem.ks_wpAt_super_base (env := envS qual scope s.heap.objs.size f (.ref cda) cc) T.sc.sup T.sc.cls (by decide) rfl (X _ _ lk) rfl har rfl (X _ _ hcode) rfl hvs hfile T.top ?_
  obtain ⟨mb, b1, b2⟩ := I.mod.blt
  refine PySem.W.ks_loadName_global T.sc.kind T.sc.sup (Calls.loadGlobal_builtin (I.mod.glob.keeps I.bk) T.ms (b1.keeps I.bk) ((b2 _ (by decide +kernel)).trans (by kernel_rfl : bootBuiltins "super" = some (.type "super"))) ⟨rfl, ?_⟩)
  refine wpAny_loadName_free T.sc.kind T.sc.cls (by simp [List.lookup]) ⟨_, X _ _ hcel, rfl⟩ ?_
  obtain ⟨m, hNs, hloc⟩ := I.loc
  obtain ⟨u0, ru, hlk⟩ := hloc 0 ar.arg (.ref a) hN0 h0 (.inl hl0)
  obtain rfl : u0 = Value.ref a := ru
  have hma : m ar.arg = some (.ref a) := by
    rcases hlk with ⟨_, z⟩ | ⟨z, _⟩
    · exact z
    · have hk : (envS qual scope s.heap.objs.size f (.ref cda) cc).kindOf ar.arg = some .local := hl0
      rcases z with z | z
      · have z' : (envS qual scope s.heap.objs.size f (.ref cda) cc).kindOf ar.arg = some .cell := z
        rw [hk] at z'; cases z'
      · have z' : (envS qual scope s.heap.objs.size f (.ref cda) cc).kindOf ar.arg = some .free := z
        rw [hk] at z'; cases z'
  refine wpAny_loadName_local T.sc.kind hl0 hNs hma ?_
  obtain ⟨nmC, qC, NC, bsC, bmC, snC, subC, abC, colC, ddC, k0, k1, k2, k3, k5, hC, hbm⟩ := T.ox.cls
  have hCg := X _ _ hC
  refine PySem.ks_wpAny_isType_cls hCg rfl ⟨rfl, ?_⟩
  obtain ⟨t1, ho⟩ := exo_at I.hok ea
  obtain ⟨hp, g, d, tk, os⟩ := s1
  have hnc : ∀ c : ClassData, (Data.fields #[.ref t1, .none, .none, .none, .bool false, .none] : Data) ≠ .cls c := fun c z => by cases z
  refine PySem.ks_wpAny_call_super hCg rfl ho rfl hnc (PySem.W.looks_mroIn X T.self) fun h1 e1 k1 => ?_
  have I1 : L2.Inv (cxS CX P w K mg base N qual scope f (.ref cda) cc A outer s H E) [] σ H1 ⟨h1, g, d, tk, os⟩ := I.kept (t' := tk) k1
  have X1 := I1.kIn
  have IA : PySem.W.InstAt h1 a ({ cls := .ref C, dict := none, data := .fields #[.ref t1, .none, .none, .none, .bool false, .none] } : Obj) C none := ⟨k1 _ _ ho, rfl, rfl, trivial⟩
  have hin : PySem.W.Looks (model P w) h1 (isInstance (.ref a) (.type "ValueError")) true := IA.type.andThen (PySem.W.looks_subIn X1 T.sub)
  have hcl : ∃ cd, PySem.W.clsIn K C = some cd := by unfold PySem.W.clsIn; rw [hC]; exact ⟨_, rfl⟩
  obtain ⟨cd, hcd⟩ := hcl
  have hm : PySem.W.alongIn K "__init__" ((cd.mro.dropWhile (· != .ref C)).drop 1) = some (some (.builtin "ValueError.__init__")) := by
    have z := T.sup
    unfold PySem.W.ks_superIn at z
    rw [hcd] at z
    exact z
  refine PySem.W.kxs_getMethod PySem.W.kxs_ValueError e1 (PySem.W.looks_opaque X1 T.stat) (l₀ := cd.mro) (fun A Q E s k q => wpAny_bind ((PySem.W.looks_clsIn X1 hcd) A _ E s k (wpAny_pure q))) rfl X1 hm hin (PySem.W.ks_ne X1 IA hcd) (by decide) ?_
  have k2 : ∀ b o, h1.get? b = some o → (h1.push (PySem.W.kxs_mw "ValueError.__init__" a)).get? b = some o := fun b o z => Heap.get?_push_of_some _ z
  have hu : (h1.push (PySem.W.kxs_mw "ValueError.__init__" a)).get? h1.objs.size = some (PySem.W.kxs_mw "ValueError.__init__" a) := Heap.get?_push_size _ rfl
  have I2 : L2.Inv (cxS CX P w K mg base N qual scope f (.ref cda) cc A outer s H E) [(h1.objs.size, PySem.W.kxs_mw "ValueError.__init__" a)] σ H1 ⟨h1.push (PySem.W.kxs_mw "ValueError.__init__" a), g, d, tk + 1, os⟩ := by
    refine (I1.kept (t' := tk + 1) k2).pins_of fun p hp => ?_
    rw [List.mem_singleton] at hp
    subst hp
    refine ⟨hu, I1.hok.fresh (Nat.le_refl _), Nat.ne_of_gt I1.lt, I1.nofs (Nat.le_refl _), fun v z => ?_⟩
    cases z
  have ha : PA (cxS CX P w K mg base N qual scope f (.ref cda) cc A outer s H E) [e] (tCons te tNil) := pa_cons he pa_nil hev
  refine callWith_mw (i := "ValueError.__init__") (x := a) (wpAny_mono (ha.run p3 _ _ σ H1 (fun vs H2 => vs.length = 1 ∧ H2 a = some (exo a C none) ∧ ∀ pins s2, L2.Inv (cxS CX P w K mg base N qual scope f (.ref cda) cc A outer s H E) pins σ H2 s2 → wpAny (model P w) (A.deeper (envS qual scope s.heap.objs.size f (.ref cda) cc)) (execs rest (envS qual scope s.heap.objs.size f (.ref cda) cc)) Qf Ef s2) I2 hq) (fun us s2 hh => ?_) fun _ _ z => z.elim) hev rfl
  obtain ⟨vs, H2, J, rv, hl1, ea2, kq⟩ := hh
  obtain ⟨hu2, _⟩ := J.pin _ (List.mem_append_right _ (List.mem_singleton.mpr rfl))
  refine ⟨hu2, ?_⟩
  obtain ⟨t2, ho2⟩ := exo_at J.hok ea2
  obtain ⟨hp2, g2, d2, tk2, os2⟩ := s2
  have hC2 := J.kIn _ _ hC
  have hl : us.length ≤ sizeLine := by rw [← Paired.length rv, hl1]; exact (by decide : 1 ≤ sizeLine)
  refine call_bwV hC2 ho2 hu2 hl fun h' t3 k hx => ?_
  have J2 := J.write (t' := tk2) (x := a) (e := a) (o := exo a C none) (by rw [ea2]; exact True.intro) (.inl rfl) k ⟨_, hx⟩ (exo_ok hx)
  have eu : upd H2 a (exo a C none) = H2 := by
    funext b
    by_cases hb : b = a
    · rw [hb, upd_same, ea2]
    · rw [upd_ne hb]
  rw [eu] at J2
  exact PySem.wpAt_of_wpAny (kq _ _ J2)
/-- THE RULE for such an __init__ -/
theorem su_ok (T : SuC P K mg C f cc cda N ps nm0 qual params body scope) {k : Nat} {sp : Sp} {oc : Value} {od : Option Addr} {dV kV doc pm ct : Value} {an : Option Addr} {osl : Array (Option Value)} (lk : K.lookup f = some ⟨oc, od, .func (PySem.W.fnX nm0 qual params body scope [("__class__", cc)] dV kV doc pm an (.ref cda) ct), osl⟩)
    (len : ∀ vs H Q E, sp vs H Q E → vs.length = ps.length)
    {p0 p1 p2 p3 p4 : Pos} {e : Expr} {rest : List Stmt} (hb : body = .Expr (.Call (.Attribute (.Call (.Name "super" p0) [] [] p1) "__init__" p2) [e] [] p3) p4 :: rest)
    (hbody : ∀ (A : Around) (outer : List Env) (s : Shared) (H : Hp) (vs : List V) (Q : VK) (E : XK), Room k (A.deeper (envS qual scope s.heap.objs.size f (.ref cda) cc)) → sp vs H Q E →
      ∃ (te : TE) (t : TS) (a : Addr), PE (cxS CX P w K mg base N qual scope f (.ref cda) cc A outer s H E) e te ∧ PSs (cxS CX P w K mg base N qual scope f (.ref cda) cc A outer s H E) rest t ∧ vs[0]? = some (.ref a) ∧ H a = some (exo a C none) ∧
        ∀ Qp : VK, (∀ y H2, H2 a = some (exo a C none) → t { nx := fun _ H' => Q .non H', rt := Q } (L2.start N vs) H2 → Qp y H2) → te (L2.start N vs) H Qp)
    {pl : ∀ (L : Addr), Sem Bool} (hc : ∀ L, eval (.Call (.Attribute (.Call (.Name "super" p0) [] [] p1) "__init__" p2) [e] [] p3) (envS qual scope L f (.ref cda) cc) = (do
      let ov ← attributeBase (.Call (.Name "super" p0) [] [] p1) "__init__" (envS qual scope L f (.ref cda) cc) (eval (.Call (.Name "super" p0) [] [] p1) (envS qual scope L f (.ref cda) cc))
      standAt p2.atName
      let (g, first) ← holding [ov] (getMethod ov "__init__" (pl L))
      callWith p3 g first (backTo p3 (starEach [e] (envS qual scope L f (.ref cda) cc))) []) := by intro L; rfl)
    (hi : ∀ L, interactive (envS qual scope L f (.ref cda) cc) = false := by intro L; rfl) (hsw : ∀ L, swapsWith (.Call (.Attribute (.Call (.Name "super" p0) [] [] p1) "__init__" p2) [e] [] p3) none p4.line (envS qual scope L f (.ref cda) cc) = pure false := by intro L; rfl)
    (hev : ∀ L, starEach [e] (envS qual scope L f (.ref cda) cc) = (false, eval e (envS qual scope L f (.ref cda) cc)) :: starEach [] (envS qual scope L f (.ref cda) cc) := by intro L; rfl) :
    FnOk P w K mg base CX (k + 1) f (PySem.W.fnX nm0 qual params body scope [("__class__", cc)] dV kV doc pm an (.ref cda) ct) ps sp := by
  refine ⟨len, fun A outer s H args us vs Q E hr e0 hbd r hsp => ?_⟩
  have hl := len _ _ _ _ hsp
  have KX : K.In s.heap := e0.mod.kin.keeps fun b o e => (e0.bs b o e).1
  have lim : s.heap.NoLimit := e0.mod.nolimit.keeps fun b o e => (e0.bs b o e).1
  obtain ⟨occ, odc, oslc, hcel⟩ := T.cel
  have hloc : ∀ y ∈ ps.zip us, scope.names.lookup y.1 = some .local := fun ⟨n, v⟩ hy => T.sc.par n (List.of_mem_zip hy).1
  refine PySem.ks_codeAny_call_defAt hr.depth (KX _ _ lk) rfl lim (PySem.W.codeRec_of KX T.hcd) rfl hbd T.sc.nocell hloc (fun h1 hns hk => ?_) T.sc.co T.sc.gen T.sc.kind
  obtain ⟨te, t, a, he, ht, hv0, ea, hq⟩ := hbody A outer s H vs Q E (hr.deeper _) hsp
  have I : L2.Inv (cxS CX P w K mg base N qual scope f (.ref cda) cc A outer s H E) [] (L2.start N vs) H { s with heap := h1, toks := s.toks + (ps.zip us).length } := inv_startS T.sc hr.hd e0 hl r hcel hns hk
  subst hb
  have h0 : (L2.start N vs)[0]? = some (some (.ref a)) := by
    unfold L2.start
    have : 0 < vs.length := (List.getElem?_eq_some_iff.mp hv0).1
    rw [List.getElem?_append_left (by simpa using this), List.getElem?_map, hv0]
    rfl
  refine step_su T I h0 ea he (hev _) (hc _) (hi _) (hsw _) (hq _ fun y H2 e2 ht2 => ⟨rfl, e2, fun pins s2 J => ?_⟩)
  refine wpAny_mono (ht.run pins s2 (L2.start N vs) H2 _ J ht2) (fun fl s' hs => ?_) fun e s' hs => hs.elim
  have fin : ∀ {σ' : L2.St} {H' : Hp} {v : V} {u : Value}, L2.Inv (cxS CX P w K mg base N qual scope f (.ref cda) cc A outer s H E) pins σ' H' s' → RelV v u → Q v H' → CE outer P w H s Q u s' :=
    fun {σ' H' v u} J rv q => ⟨v, H', J.os, J.bare, J.base, J.hok, rv, q⟩
  cases fl with
  | ret u =>
    obtain ⟨v, σ', H', J, rv, q⟩ := hs
    exact fin J rv q
  | next =>
    obtain ⟨σ', H', J, q⟩ := hs
    exact fin (v := V.non) (u := Value.none) J rfl q
  | brk =>
    obtain ⟨_, _, _, q⟩ := hs
    exact False.elim q
  | cont =>
    obtain ⟨_, _, _, q⟩ := hs
    exact False.elim q
end
end XS
set_option Elab.async false
set_option linter.all false
set_option maxRecDepth 100000
set_option autoImplicit false
set_option maxHeartbeats 4000000
/-! X2: own exceptions with an __init__ of their own, made as values, by position and by keywords. -/
namespace XS
open PySem PySem.Spec PyProof.Rows L2 PySem.HandSPX
section
variable {M : Model} {A : Around} {E : Value → Shared → Prop} {h : Heap} {g : Array GenState} {d : Drawn} {t : Nat} {os : OsState}
variable {nm q : Str} {C N : Addr} {bs bm bmB : List Value} {hdct : Bool} {sn : List Str} {sub : List Value} {ab : Bool} {col : Option Bool} {dd : Option Addr} {k0 k1 k2 k3 k5 : Option Value} {B newId initId : String}
theorem check_new_ownK (F : ExcBaseFacts B newId initId bmB) (hT : ∀ X : String, bm.contains (.type X) = bmB.contains (.type X)) {rest : List Value} {kw : List (Str × Value)} {Q : Unit → Shared → Prop}
    (hC : h.get? C = some (excClassObj nm q C N bs bm hdct sn sub ab col dd k0 k1 k2 k3 k5 newId)) (hq : Q () ⟨h, g, d, t, os⟩) : wpAny M A (checkBuiltinCall newId ⟨.ref C :: rest, kw⟩) Q E ⟨h, g, d, t, os⟩ := by
  have hcont : (Value.ref C :: bm).contains (.type B) = true := by rw [List.contains_cons, hT, F.hasB, Bool.or_true]
  have hstar := F.noStar
  simp only [checkBuiltinCall, F.newKind, F.newSplit, F.newRow]
  repeat (first | refine wpAny_loadPart_at hC ?_ | (refine wpAny_isSubtype_exc hC ?_; rw [hcont]) | refine wpAny_staticBase_exc hC ?_ | refine wpAny_madeBy_exc hC ?_ | simp only [bne_self_eq_false, Bool.false_eq_true, if_false] | wp_step)
  exact hq
end
section
variable {prog : Program} {w : World} {A : Around} {E : Value → Shared → Prop} {R : Result → Shared → Prop} {h : Heap} {g : Array GenState} {d : Drawn} {t : Nat} {os : OsState}
variable {nm q : Str} {C N : Addr} {bs bm bmB : List Value} {hdct : Bool} {sn : List Str} {sub : List Value} {ab : Bool} {col : Option Bool} {dd : Option Addr} {k0 k1 k2 k3 k5 : Option Value} {B newId initId : String}
theorem new_ownK (F : ExcBaseFacts B newId initId bmB) (hT : ∀ X : String, bm.contains (.type X) = bmB.contains (.type X)) {rest : List Value} {kw : List (Str × Value)}
    (hC : h.get? C = some (excClassObj nm q C N bs bm hdct sn sub ab col dd k0 k1 k2 k3 k5 newId))
    (hq : R (.ok (.ret (.ref (h.objs.size + 1)))) ⟨(h.push { cls := .type "tuple", data := .seq rest.toArray }).push
      { cls := .ref C, data := .fields #[.ref h.objs.size, .none, .none, .none, .bool false, .none] }, g, d, t, os⟩) (hrest : rest.length ≤ sizeLine) :
    codeAny (model prog w) A (.builtin newId ⟨.ref C :: rest, kw⟩) R ⟨h, g, d, t, os⟩ := by
  have hends := F.ends
  have hcB : (Value.ref C :: bm).contains (.type B) = true := by rw [List.contains_cons, hT, F.hasB, Bool.or_true]
  have hcA : (Value.ref C :: bm).contains (.type "AttributeError") = false := by rw [List.contains_cons, hT, F.noAttr]; rfl
  have hcN : (Value.ref C :: bm).contains (.type "NameError") = false := by rw [List.contains_cons, hT, F.noName]; rfl
  refine codeAny_builtinAt F.entry ?_
  unfold Builtin.«BaseException.__new__»
  refine PySem.wpAt_bind ?_
  show PySem.wpAt _ _ _ (stack >>= _) _ _ _
  refine PySem.wpAt_bind (PySem.wpAt_stack fun p below => PySem.wpAt_of_wpAny ?_)
  wp_walk
  refine PySem.wpAt_of_wpAny ?_
  rw [F.owner]
  repeat (first | with_reducible refine wpAny_madeHere_exc F.canon hC ?_ | with_reducible refine wpAny_loadPart_at hC ?_ | (with_reducible refine wpAny_isSubtype_exc hC ?_; first | rw [hcB] | rw [hcA] | rw [hcN]) | wp_step)
  show R _ _
  rw [Heap.size_push]
  exact hq
theorem type_call_ownK (F : ExcBaseFacts B newId initId bmB) (hT : ∀ X : String, bm.contains (.type X) = bmB.contains (.type X)) {rest : List Value} {kw : List (Str × Value)} {fI : Addr} {Q : Fin → Shared → Prop}
    (hC : h.get? C = some (excClassObj nm q C N bs bm hdct sn sub ab col dd k0 k1 k2 k3 k5 newId))
    (hi : W.Looks (model prog w) h (typeLookup (.ref C) "__init__") (some (.ref fI))) (hb : ∀ self, W.Looks (model prog w) h (bindSpecial (.ref fI) self) (.ref fI, [self])) (hrest : rest.length ≤ sizeLine) (hkw : 0 < kw.length)
    (hq : codeAny (model prog w) A (.call (.ref fI) ⟨.ref (h.objs.size + 1) :: rest, kw⟩)
      (fun r s' => match r with | .ok (.ret v) => v = .none ∧ Q (.done (.ret (.ref (h.objs.size + 1)))) s' | .ok _ => False | .error e => E e s')
      ⟨(h.push (W.kdv_tup rest)).push (excO C h.objs.size), g, d, t, os⟩) :
    wpAny (model prog w) A (Builtin.«type.__call__» ⟨.ref C :: rest, kw⟩) Q E ⟨h, g, d, t, os⟩ := by
  repeat (first | with_reducible refine wpAny_loadPart_at hC ?_ | with_reducible refine wpAny_madeBy_exc hC ?_ | wp_step)
  refine codeAny_call_builtin_code (Code.quiet_builtin _ F.quiet) (check_new_ownK F hT hC ?_)
  refine new_ownK F hT hC ?_ hrest
  show wpAny _ _ _ _ _ _
  have k : ∀ b o, h.get? b = some o → ((h.push (W.kdv_tup rest)).push (excO C h.objs.size)).get? b = some o := fun b o e => Heap.get?_push_of_some _ (Heap.get?_push_of_some _ e)
  have hC₁ := k _ _ hC
  have hget : ((h.push (W.kdv_tup rest)).push (excO C h.objs.size)).get? (h.objs.size + 1) = some (excO C h.objs.size) := by heap_get
  have hcC : (Value.ref C :: bm).contains (.ref C) = true := by simp
  have i1 := hi.keeps k
  have b1 := (hb (.ref (h.objs.size + 1))).keeps k
  unfold isInstance
  repeat (first | with_reducible refine wpAny_loadPart_at hget ?_ | (with_reducible refine wpAny_isSubtype_exc hC₁ ?_; rw [hcC]) | wp_step)
  show wpAny _ _ (typeLookup (.ref C) _) _ _ _
  refine i1.at ?_
  refine wpAny_holding (wpAny_bind (b1.at ?_))
  refine wpAny_bind (wpAny_call (codeAny_mono hq fun r s' z => ?_))
  rcases r with e | (v | _ | _ | _) <;> first | exact z | exact z.elim | skip
  obtain ⟨rfl, z⟩ := z
  first
    | exact wpAny_pure (wpAny_pure z)
    | (wp_walk; exact z)
theorem call_ownK (F : ExcBaseFacts B newId initId bmB) (hT : ∀ X : String, bm.contains (.type X) = bmB.contains (.type X)) {rest : List Value} {kw : List (Str × Value)} {fI : Addr}
    (hC : h.get? C = some (excClassObj nm q C N bs bm hdct sn sub ab col dd k0 k1 k2 k3 k5 newId))
    (hi : W.Looks (model prog w) h (typeLookup (.ref C) "__init__") (some (.ref fI))) (hb : ∀ self, W.Looks (model prog w) h (bindSpecial (.ref fI) self) (.ref fI, [self])) (hrest : rest.length ≤ sizeLine) (hkw : 0 < kw.length)
    (hq : codeAny (model prog w) (A.under (.builtin "type.__call__" ⟨.ref C :: rest, kw⟩)) (.call (.ref fI) ⟨.ref (h.objs.size + 1) :: rest, kw⟩) (W.InitBack (h.objs.size + 1) R)
      ⟨(h.push (W.kdv_tup rest)).push (excO C h.objs.size), g, d, t, os⟩) :
    codeAny (model prog w) A (.call (.ref C) ⟨rest, kw⟩) R ⟨h, g, d, t, os⟩ := by
  have f1 := tc_lookup
  have f2 := tc_bind (.ref C)
  have hTy : (⟨h, g, d, t, os⟩ : Shared).TypeIs (.ref C) "type" := ⟨_, hC, rfl⟩
  refine codeAny_of_tree ?_
  show wpAny _ _ (callAny (.ref C) _) _ _ _
  repeat (any_goals (first | assumption | with_reducible refine wpAny_loadPart_at hC ?_ | wp_step))
  refine ⟨rfl, ?_⟩
  refine codeAny_call_builtin_at (Code.quiet_builtin _ (by decide +kernel)) entry_typeCall (wpAny_check_type_call_sub hC (type_call_ownK F hT hC hi hb hrest hkw ?_))
  refine codeAny_mono hq fun r s' z => ?_
  rcases r with e | (v | _ | _ | _) <;> exact z
end
/-- C(e, ..) as a value, C's own __init__ keeping sp -/
def tExV (C : Addr) (sp : Sp) (ta : TA) : TE := fun σ H Q => ta σ H fun vs H1 => vs.length ≤ 1000 ∧ ∀ a, H1 a = none → sp (.ref a :: vs) (upd H1 a (exo a C none)) (fun v H2 => v = .non ∧ Q (.ref a) H2) (fun _ _ _ => False)
/-- C(k = e, ..) -/
def tExK (C : Addr) (n : Nat) (sp : Sp) (tk : TA) : TE := fun σ H Q => tk σ H fun vs H1 => vs.length = n ∧ ∀ a, H1 a = none → sp (.ref a :: vs) (upd H1 a (exo a C none)) (fun v H2 => v = .non ∧ Q (.ref a) H2) (fun _ _ _ => False)
/-- the class at C, by its name, and its __init__ -/
structure MakX (P : Program) (w : World) (K : PySem.W.Frag) (mg : Str → Option Value) (base : Heap) (k : Nat) (x : Str) (C : Addr) (ps : List Str) (sp : Sp) : Prop where
  ex : ∃ (f : Addr) (fd : FuncData), FnOk P w K mg base CX0 k f fd (("self" : Str) :: ps) sp ∧ mg x = some (.ref C) ∧ OexC K C ∧ PySem.W.findIn K (.ref C) "__init__" = some (some (.ref f)) ∧ PySem.W.typeIn K (.ref f) = some (.type "function") ∧
    (∀ (s : Shared) (us : List Value), us.length = ps.length + 1 → BindsTo s fd ⟨us, []⟩ ((("self" : Str) :: ps).zip us)) ∧
    (∀ (s : Shared) (u : Value) (us : List Value), us.length = ps.length → BindsTo s fd ⟨[u], ps.zip us⟩ ((("self" : Str) :: ps).zip (u :: us)))
section
variable {X : Cx} {k j : Nat} {x : Str} {C : Addr} {ps : List Str} {sp : Sp} {e : Expr} {es : List Expr} {ta tk : TA} {p pos : Pos} {kws : List Keyword}
/-- both ways of making one -/
theorem run_mkX {pins : List (Addr × Obj)} {σ : L2.St} {H1 : Hp} {s1 : Shared} {Q : VK} {vs : List V} {us : List Value} {args : Args} {f : Addr} {fd : FuncData} (T : OexC X.K C) (F : FnOk X.prog X.w X.K X.mg X.base CX0 k f fd (("self" : Str) :: ps) sp)
    (iC : PySem.W.findIn X.K (.ref C) "__init__" = some (some (.ref f))) (tI : PySem.W.typeIn X.K (.ref f) = some (.type "function")) (hr : Room (k + 1) X.A) (I1 : Inv X pins σ H1 s1) (r1 : Vals vs us) (hl : us.length ≤ sizeLine)
    (hargs : (args = ⟨us, []⟩ ∧ ∀ (s : Shared) (us : List Value), us.length = ps.length + 1 → BindsTo s fd ⟨us, []⟩ ((("self" : Str) :: ps).zip us)) ∨ (args = ⟨[], ps.zip us⟩ ∧ 0 < (ps.zip us).length ∧ ∀ (s : Shared) (u : Value) (us : List Value), us.length = ps.length → BindsTo s fd ⟨[u], ps.zip us⟩ ((("self" : Str) :: ps).zip (u :: us))))
    (q1 : ∀ a, H1 a = none → sp (.ref a :: vs) (upd H1 a (exo a C none)) (fun v H2 => v = .non ∧ Q (.ref a) H2) (fun _ _ _ => False)) :
    wpAny (model X.prog X.w) X.A (call (.ref C) args.pos args.kw) (EP X pins σ Q) X.xe s1 := by
  obtain ⟨nm, q, N, bs, bm, sn, sub, ab, col, dd, k0, k1, k2, k3, k5, hC, hbm⟩ := T.cls
  obtain ⟨hp, g, dr, tk, os⟩ := s1
  have hsz : hp.objs.size ≤ hp.objs.size + 1 := Nat.le_succ _
  have hn : H1 (hp.objs.size + 1) = none := I1.hok.fresh hsz
  have hq := q1 (hp.objs.size + 1) hn
  have l1 : vs.length = ps.length := Nat.succ.inj (F.len _ _ _ _ hq)
  have l2 : us.length = ps.length := r1.length.symm.trans l1
  have made : ∀ (rest : List Value), Inv X pins σ (upd H1 (hp.objs.size + 1) (exo (hp.objs.size + 1) C none)) ⟨(hp.push (PySem.W.kdv_tup rest)).push (PySem.HandSPX.excO C hp.objs.size), g, dr, tk, os⟩ := fun rest => by
    have kk : ∀ b o, hp.get? b = some o → ((hp.push (PySem.W.kdv_tup rest)).push (PySem.HandSPX.excO C hp.objs.size)).get? b = some o := fun b o e => Heap.get?_push_of_some _ (Heap.get?_push_of_some _ e)
    have hget : ((hp.push (PySem.W.kdv_tup rest)).push (PySem.HandSPX.excO C hp.objs.size)).get? (hp.objs.size + 1) = some (PySem.HandSPX.excO C hp.objs.size) := by heap_get
    exact I1.laid (t' := tk) (a := hp.objs.size + 1) (o := exo (hp.objs.size + 1) C none) kk hsz (exo_ok hget)
  have r2 : Vals (V.ref (hp.objs.size + 1) :: vs) (Value.ref (hp.objs.size + 1) :: us) := .cons rfl r1
  have fin : ∀ {I2s : Shared} (I2 : Inv X pins σ (upd H1 (hp.objs.size + 1) (exo (hp.objs.size + 1) C none)) I2s) (r : Result) (s' : Shared), CR CX0 X.stack X.prog X.w (upd H1 (hp.objs.size + 1) (exo (hp.objs.size + 1) C none)) I2s (fun v H2 => v = .non ∧ Q (.ref (hp.objs.size + 1)) H2) (fun _ _ _ => False) r s' →
      PySem.W.InitBack (hp.objs.size + 1) (wants (EP X pins σ Q) X.xe) r s' := fun {I2s} I2 r s' hq' => by
    cases r with
    | error er => exact hq'.elim
    | ok fl =>
      cases fl with
      | ret u =>
        obtain ⟨v, H2, J, rv, ev, q2⟩ := I2.after hq'
        subst ev
        exact ⟨rv, ⟨V.ref (hp.objs.size + 1), H2, J, rfl, q2⟩⟩
      | next => exact False.elim hq'
      | brk => exact False.elim hq'
      | cont => exact False.elim hq'
  rcases hargs with ⟨rfl, hb⟩ | ⟨rfl, hk0, hb⟩
  · have I2 := made us
    refine wpAny_call (PySem.HandSPX.call_own PySem.F.excBase_ValueError (fun Y => PySem.HandSPX.refsVE_contains Y bm hbm) (I1.kIn _ _ hC) (PySem.W.looks_findIn I1.kIn iC) (fun self => PySem.W.bind_fn I1.kIn self tI) hl
      (codeAny_mono (F.run _ X.stack _ _ ⟨Value.ref (hp.objs.size + 1) :: us, []⟩ (Value.ref (hp.objs.size + 1) :: us) _ _ (fun _ _ _ => False) (hr.make C us []) (I2.env0.make C us []) (hb _ _ (by rw [List.length_cons, l2])) r2 hq) (fin I2)))
  · have I2 := made []
    refine wpAny_call (call_ownK PySem.F.excBase_ValueError (fun Y => PySem.HandSPX.refsVE_contains Y bm hbm) (I1.kIn _ _ hC) (PySem.W.looks_findIn I1.kIn iC) (fun self => PySem.W.bind_fn I1.kIn self tI) (Nat.zero_le _) hk0
      (codeAny_mono (F.run _ X.stack _ _ ⟨[Value.ref (hp.objs.size + 1)], ps.zip us⟩ (Value.ref (hp.objs.size + 1) :: us) _ _ (fun _ _ _ => False) (hr.make C [] (ps.zip us)) (I2.env0.make C [] (ps.zip us)) (hb _ _ us l2) r2 hq) (fin I2)))
theorem pe_exV (c : MakX X.prog X.w X.K X.mg X.base k x C ps sp) (hr : Room j X.A) (hk : k + 1 ≤ j) (hg : Gl X x) (ha : PA X (e :: es) ta) (hdb : (x == ("__debug__" : Str)) = false := by decide)
    (he : starEach (e :: es) X.env = (false, eval e X.env) :: starEach es X.env := by rfl) (hpl : (backTo pos (starEach es X.env)).any (·.1) = false := by rfl) : PE X (.Call (.Name x p) (e :: es) [] pos) (tExV C sp ta) := by
  obtain ⟨f, fd, F, hm, T, iC, tI, b1, b2⟩ := c.ex
  refine ⟨fun pins s σ H Q I h => ?_⟩
  refine wpAny_Call_Name_kw (ld_glob I hg hm ?_ hdb)
  refine PySem.W.callWith_K (h₀ := X.base) I.ok.mod.kin T.kC (thn (ha.run pos pins s σ H _ I h) fun us s1 ⟨vs, H1, I1, r1, hz, q1⟩ => ⟨I1.kIn, ?_⟩) he hpl
  exact run_mkX T F iC tI (hr.mono hk) I1 r1 (by rw [← Paired.length r1, sizeLine_eq]; omega) (.inl ⟨rfl, b1⟩) q1
theorem pe_exK (c : MakX X.prog X.w X.K X.mg X.base k x C ps sp) (hr : Room j X.A) (hk : k + 1 ≤ j) (hg : Gl X x) (h0 : 0 < ps.length) (hps : ps.length ≤ sizeLine) (hkw : PK X kws tk) (hall : (backToKw pos (keywordEach kws X.env)).all (·.1.isSome) = true := by rfl) (hks : (backToKw pos (keywordEach kws X.env)).filterMap (·.1) = ps := by rfl) (hdb : (x == ("__debug__" : Str)) = false := by decide)
    (hpl : ((backTo pos (starEach [] X.env)).any (·.1) || (backToKw pos (keywordEach kws X.env)).any (·.1.isNone)) = false := by rfl) : PE X (.Call (.Name x p) [] kws pos) (tExK C ps.length sp tk) := by
  obtain ⟨f, fd, F, hm, T, iC, tI, b1, b2⟩ := c.ex
  refine ⟨fun pins s σ H Q I h => ?_⟩
  refine wpAny_Call_Name_kw (ld_glob I hg hm ?_ hdb)
  refine PySem.W.callWith_KW0 (h₀ := X.base) I.ok.mod.kin T.kC hall ?_ hpl
  refine thn (hkw.run pos pins s σ H _ I h) fun ws s2 ⟨zs, H2, I2, rz, l1, q2⟩ => ⟨I2.kIn, ?_⟩
  rw [hks]
  have l2 : ws.length = ps.length := rz.length.symm.trans l1
  exact run_mkX (args := ⟨[], ps.zip ws⟩) T F iC tI (hr.mono hk) I2 rz (by rw [l2]; exact hps) (.inr ⟨rfl, by rw [List.length_zip]; omega, b2⟩) q2
end
end XS
set_option Elab.async false
set_option linter.all false
set_option maxRecDepth 100000
set_option autoImplicit false
set_option maxHeartbeats 4000000
/-! X3: exceptions held as values: isinstance, fields, made; as data. -/
namespace XS
open PySem PySem.Spec PyProof.Rows L2 DL
/-- an exception of the class at C stands at a -/
inductive ExAt (H : Hp) (a C : Addr) : Prop where
  | n (e : H a = some (ExO (.ref C) a))
  | d {dx : Addr} {fs : List (Str × V)} (e : H a = some (exo a C (some dx))) (g : H dx = some (exd dx fs))
section
variable {P : Program} {w : World} {K : PySem.W.Frag} {H : Hp} {h : Heap} {a C : Addr}
theorem lookIn_ns1 {dx : Addr} {mA : Str → Option Value} (hn : h.Ns1 dx mA) : ∃ od, h.get? dx = some od ∧ ∀ f, PySem.W.lookIn f od = some (mA f) := by
  obtain ⟨o, es, n, e, hd, hw, hm⟩ := hn
  exact lookIn_ns ⟨o, es, n, e, hd, hw, hm⟩
theorem ExAt.inst (hok : HOk P w H h) (z : ExAt H a C) : ∃ ox od, PySem.W.InstAt h a ox C od := by
  cases z with
  | n e =>
    obtain ⟨⟨oe, vs, ho, hz, hd, _⟩, _, _⟩ := hok a _ e
    obtain ⟨oc, odd, dt, osl⟩ := oe
    obtain ⟨h1, h2⟩ := hz
    dsimp only at h1 h2 hd
    subst h1 h2 hd
    exact ⟨_, none, ho, rfl, rfl, trivial⟩
  | d e g =>
    obtain ⟨t1, ho⟩ := exo_at hok e
    obtain ⟨mA, hn, _⟩ := exd_at hok g
    obtain ⟨od, hod, _⟩ := lookIn_ns1 hn
    exact ⟨_, some od, ho, rfl, rfl, hod⟩
end
/-- isinstance(e, c), e an exception held as a value -/
def rIsX (K : PySem.W.Frag) : List V → Hp → VK → Prop := fun xs H Q => ∃ (a C : Addr) (c : V) (u : Value) (b : Bool), xs = [.ref a, c] ∧ ClsV c u ∧ ExAt H a C ∧ ExcC K C ∧ PySem.W.kitOne K (.ref C) u = some b ∧ Q (.bl b) H
theorem call_isX {X : Cx} : CallR X (.builtin "isinstance") (rIsX X.K) := by
  intro pins s σ H xs us Q I r h
  obtain ⟨a, C, c, u, b, rfl, k, z, cc, e, q⟩ := h
  obtain ⟨u1, u2, rfl, r1, r2⟩ := vals2 r
  have e2 := k.eq r2
  subst e2
  cases (show u1 = Value.ref a from r1)
  obtain ⟨ox, od, J⟩ := z.inst I.hok
  have hcl : (PySem.W.clsIn X.K C).isSome = true := by
    obtain ⟨cd, e1, _⟩ := PySem.W.any_some cc.hd
    rw [e1]; rfl
  exact PySem.W.kia_one (PySem.W.kitx_exc hcl cc.hg cc.hk cc.hs cc.ha cc.hn cc.ht cc.hm) I.kIn J e (fun z => nomatch z) fun tk => ⟨.bl b, H, I.tok tk, rfl, q⟩
/-- e.f, e an exception held as a value -/
def tXa (K : PySem.W.Frag) (f : Str) (te : TE) : TE := fun σ H Q => te σ H fun x H1 => ∃ (a C dx : Addr) (fs : List (Str × V)) (v : V), x = .ref a ∧ H1 a = some (exo a C (some dx)) ∧ H1 dx = some (exd dx fs) ∧ XfC K C ∧ PySem.W.findIn K (.ref C) f = some none ∧ fs.lookup f = some v ∧ Q v H1
theorem pe_xa {X : Cx} {e : Expr} {te : TE} {pos : Pos} {n : Str} (he : PE X e te) (hb : attributeBase e n X.env (eval e X.env) = eval e X.env := by rfl) : PE X (.Attribute e n pos) (tXa X.K n te) := by
  refine ⟨fun pins s σ H Q I h => ?_⟩
  refine attr_of hb (thn (he.run pins s σ H _ I h) fun u s1 hh => ?_)
  obtain ⟨x, H1, I1, rx, a, C, dx, fs, v, ex, ea, ed, T, hno, l, q⟩ := hh
  subst ex
  obtain rfl : u = Value.ref a := rx
  obtain ⟨t1, ho⟩ := exo_at I1.hok ea
  obtain ⟨mA, hns, hr⟩ := exd_at I1.hok ed
  obtain ⟨od, hod, hl⟩ := lookIn_ns1 hns
  obtain ⟨u, hu, ru⟩ := RelO.some_of (v := v) (o := mA n) (by rw [← l]; exact hr n)
  have J : PySem.W.InstAt s1.heap a _ C (some od) := ⟨ho, rfl, rfl, hod⟩
  exact HandSPX.exc_get I1.kIn J T.ga T.gg T.exC (PySem.W.findObj_own T.hdC hno rfl (by rw [hl, hu])) (handed_of ru) ⟨v, H1, I1.tok _, ru, q⟩
/-! ### as data -/
/-- an exception without fields -/
def exN (C : Addr) : D := .opq fun F v => ∃ a, v = .ref a ∧ F a = some (ExO (.ref C) a)
/-- an exception with fields -/
def exD (C : Addr) (fs : List (Str × V)) : D := .opq fun F v => ∃ a dx, v = .ref a ∧ F a = some (exo a C (some dx)) ∧ F dx = some (exd dx fs)
/-- data that is an exception of the class at C -/
def IsX (C : Addr) (d : D) : Prop := d = exN C ∨ ∃ fs, d = exD C fs
theorem IsX.at {C : Addr} {d : D} {F H : Hp} {v : V} (h : IsX C d) (e : Ex F H) (r : Rep F d v) : ∃ a, v = .ref a ∧ ExAt H a C := by
  rcases h with rfl | ⟨fs, rfl⟩
  · obtain ⟨F0, e0, a, rfl, h1⟩ := r
    exact ⟨a, rfl, .n (e _ _ (e0 _ _ h1))⟩
  · obtain ⟨F0, e0, a, dx, rfl, h1, h2⟩ := r
    exact ⟨a, rfl, .d (e _ _ (e0 _ _ h1)) (e _ _ (e0 _ _ h2))⟩
section
variable {K : PySem.W.Frag} {Γ : List En} {te : TE} {ta : TA} {d x z : D} {C : Addr} {ds args : List D} {fs : List (Str × V)}
theorem rc_isX {b : Bool} {c : D} {cv : V} {u : Value} (h : IsX C x) (hc : ∀ F v, Rep F c v → v = cv) (k : ClsV cv u) (cc : ExcC K C) (hb : PySem.W.kitOne K (.ref C) u = some b) : RC (rIsX K) [x, c] (.bl b) := fun F H vs e r Q q => by
  obtain ⟨v, _, rfl, rv, w, _, rfl, rw', rfl⟩ := r
  obtain ⟨a, rfl, hx⟩ := h.at e rv
  have e1 := hc _ _ rw'
  subst e1
  exact ⟨a, C, w, u, b, rfl, k, hx, cc, hb, q _ F H (.refl e) rfl⟩
/-- e.f -/
theorem ep_xa {f : Str} {v : V} (h : EvP te Γ (exD C fs)) (T : XfC K C) (hno : PySem.W.findIn K (.ref C) f = some none) (hl : fs.lookup f = some v) (hd : ∀ F, Rep F d v) : EvP (tXa K f te) Γ d := fun c F H σ G Q k => h c F H σ G _ fun u F1 H1 S1 r => by
  obtain ⟨F0, e0, a, dx, rfl, h1, h2⟩ := r
  exact ⟨a, C, dx, fs, v, rfl, S1.fh _ _ (e0 _ _ h1), S1.fh _ _ (e0 _ _ h2), T, hno, hl, k v F1 H1 S1 (hd _)⟩
/-- C(e), no __init__ of its own -/
theorem ep_x1 (h : EvP te Γ d) : EvP (fun σ H Q => te σ H fun _ H1 => ∀ a, H1 a = none → Q (.ref a) (upd H1 a (ExO (.ref C) a))) Γ (exN C) := fun c F H σ G Q k => h c F H σ G _ fun v F1 H1 S1 r a ha =>
  k (.ref a) _ _ (S1.trans (Stp.new S1.fh _ ha)) ⟨_, Ex.refl _, a, rfl, upd_same⟩
/-- the promise of an __init__: the exception that is made has the fields fs -/
def spX (C : Addr) (I : List D → List (Str × V) → Prop) : Sp := fun vs H Q _ => ∃ (F H0 : Hp) (s : Addr) (ws : List V) (args : List D) (fs : List (Str × V)), vs = .ref s :: ws ∧ Ex F H0 ∧ H = upd H0 s (exo s C none) ∧ H0 s = none ∧ Reps F args ws ∧ I args fs ∧
  ∀ F' H', Stp F H0 F' H' → Rep F' (exD C fs) (.ref s) → Q .non H'
variable {I : List D → List (Str × V) → Prop}
theorem ep_xV (ha : EaP ta Γ args) (hI : I args fs) (hl : args.length ≤ 1000) : EvP (tExV C (spX C I) ta) Γ (exD C fs) := fun c F H σ G Q k => ha c F H σ G _ fun vs F1 H1 S1 r1 => ⟨by rw [r1.length]; exact hl, fun a hn =>
  ⟨F1, H1, a, vs, args, fs, rfl, S1.fh, rfl, hn, r1, hI, fun F' H' S r => ⟨rfl, k _ F' H' (S1.trans S) r⟩⟩⟩
theorem ep_xK {n : Nat} (ha : EaP ta Γ args) (hI : I args fs) (hn : args.length = n) : EvP (tExK C n (spX C I) ta) Γ (exD C fs) := fun c F H σ G Q k => ha c F H σ G _ fun vs F1 H1 S1 r1 => ⟨by rw [r1.length]; exact hn, fun a hn =>
  ⟨F1, H1, a, vs, args, fs, rfl, S1.fh, rfl, hn, r1, hI, fun F' H' S r => ⟨rfl, k _ F' H' (S1.trans S) r⟩⟩⟩
/-- the exception as it stands at the end of such an __init__ -/
theorem stp_made {F H0 : Hp} {s dx : Addr} (e : Ex F H0) (h0 : H0 s = none) (hd : H0 dx = none) (ne : dx ≠ s) :
    Stp F H0 (upd (upd F dx (exd dx fs)) s (exo s C (some dx))) (upd (upd H0 dx (exd dx fs)) s (exo s C (some dx))) ∧ Rep (upd (upd F dx (exd dx fs)) s (exo s C (some dx))) (exD C fs) (.ref s) := by
  have S1 := Stp.new e (exd dx fs) hd
  have n1 : upd H0 dx (exd dx fs) s = none := by rw [upd_ne (fun z => ne z.symm)]; exact h0
  have S2 := Stp.new S1.fh (exo s C (some dx)) n1
  exact ⟨S1.trans S2, _, Ex.refl _, s, dx, rfl, upd_same, by rw [upd_ne ne, upd_same]⟩
end
end XS
set_option Elab.async false
set_option linter.all false
set_option maxRecDepth 100000
set_option autoImplicit false
set_option maxHeartbeats 4000000
/-! P9: a list lent as the last argument (a slot's, or a new one); comprehensions whose tests and elements change slots' lists. -/
namespace DL
open PySem PySem.Spec PyProof.Rows L2
section
variable {K : PySem.W.Frag} {Γ Γ' : List En} {te ta tb tl : TE} {tt : TT} {x y z : D} {ds es : List D} {R : D → List En → Prop} {R' : D → List En → Prop} {C : Cn} {g : TG} {wi : TI}
theorem argOk_app : ∀ {es : List D} {ds : List D}, argOk (es.map En.sh ++ [.lent ds])
  | [], _ => trivial
  | _ :: es, _ => argOk_app (es := es)
theorem sp_last {vs : List V} {xs : List V} {a : Addr} {F1 H1 : Hp} {Q : VK} (x1 : Ex F1 H1) (r1 : Reps F1 es vs) (f1 : F1 a = none) (e1 : H1 a = some (.lst xs)) (rx : Reps F1 ds xs) (hc : C (es.map .sh ++ [.lent ds]) R') (hl : ∀ e Γ', R' e Γ' → ∃ ds', Γ'[es.length]? = some (.lent ds'))
    (k : ∀ v e Γ' ds' ys F' H', R' e Γ' → Γ'[es.length]? = some (.lent ds') → Stp F1 H1 F' (upd H' a (.lst xs)) → F' a = none → H' a = some (.lst ys) → Reps F' ds' ys → Rep F' e v → Q v H') : spE C (vs ++ [.ref a]) H1 Q E0 := by
  have hlen := r1.length
  have at_ : ∀ {j : Nat} {e : En}, (es.map En.sh ++ [.lent ds])[j]? = some e → (j = es.length ∧ e = .lent ds) ∨ (j < es.length ∧ (es.map En.sh)[j]? = some e) := fun {j e} he => by
    by_cases q : j < es.length
    · rw [List.getElem?_append_left (by rw [List.length_map]; exact q)] at he; exact .inr ⟨q, he⟩
    · rw [List.getElem?_append_right (by rw [List.length_map]; omega), List.length_map] at he
      have h0 : j - es.length = 0 := by
        have := (List.getElem?_eq_some_iff.mp he).1
        simp at this; omega
      rw [h0] at he
      exact .inl ⟨by omega, (Option.some.inj he).symm⟩
  have Gc : Good ⟨F1, H1, fun j => if j = es.length then some a else none⟩ F1 H1 ((vs ++ [V.ref a]).map some) (es.map .sh ++ [.lent ds]) := by
    refine ⟨Ex.refl _, x1, fun _ _ e _ => e, fun b ⟨j, e⟩ => ?_, fun _ e => .inl e, by simp [hlen], fun j e he => ?_, fun p q b e e' k1 k2 m1 m2 k3 k4 => ?_⟩
    · dsimp only at e
      by_cases z : j = es.length
      · rw [if_pos z] at e; cases e; exact ⟨_, e1⟩
      · rw [if_neg z] at e; cases e
    · rcases at_ he with ⟨rfl, rfl⟩ | ⟨hj, he⟩
      · refine ⟨some (.ref a), ?_, a, xs, rfl, f1, e1, rx, if_pos rfl⟩
        rw [List.map_append, List.getElem?_append_right (by rw [List.length_map, hlen]; exact Nat.le_refl _), List.length_map, hlen, Nat.sub_self]
        rfl
      · obtain ⟨d, v, rfl, q1, q2⟩ := reps_slots r1 j e he
        exact ⟨some v, by rw [List.map_append, List.getElem?_append_left (by rw [List.length_map, hlen]; exact hj)]; exact q1, v, rfl, q2⟩
    · have f : ∀ {j : Nat} {e : En}, (es.map En.sh ++ [.lent ds])[j]? = some e → e.mut = true → j = es.length := fun {j e} he m => by
        rcases at_ he with ⟨h, _⟩ | ⟨_, he⟩
        · exact h
        · obtain ⟨d, v, rfl, _, _⟩ := reps_slots r1 j e he
          cases m
      rw [f k1 m1, f k2 m2]
  refine ⟨_, F1, _, R', Gc, argOk_app, hc, fun v e Γ' F' H' hr G' x' r => ?_⟩
  obtain ⟨ds', h1⟩ := hl e Γ' hr
  obtain ⟨b, ys, q1, q2, q3, q4, q5⟩ := G'.lent h1
  have eb : b = a := by
    rw [List.map_append, List.getElem?_append_right (by rw [List.length_map, hlen]; exact Nat.le_refl _), List.length_map, hlen, Nat.sub_self] at q1
    simpa using q1.symm
  subst eb
  refine k v e Γ' ds' ys F' H' hr h1 ⟨x', fun p o q => ?_, fun p o q => ?_, G'.nw⟩ q2 q3 q4 r
  · by_cases z : p = b
    · subst z; rw [e1] at q; cases q; exact upd_same
    · rw [upd_ne z]
      exact G'.hh p o q fun ⟨j, e⟩ => by
        dsimp only at e
        by_cases w : j = es.length
        · rw [if_pos w] at e; cases e; exact z rfl
        · rw [if_neg w] at e; cases e
  · have np : p ≠ b := fun z => by subst z; rw [q2] at q; cases q
    rw [upd_ne np]; exact G'.fh p o q
theorem upd_back {H' : Hp} {b : Addr} {o u : HO} (h : H' b = some u) : upd (upd H' b o) b u = H' := by
  rw [upd_upd]
  funext p
  by_cases z : p = b
  · subst z; rw [upd_same, h]
  · rw [upd_ne z]
/-- f(x, y, l), l the list of slot i -/
theorem ew_callL {i : Nat} (hm : Mt Γ i ds) (ha : EvP ta Γ x) (hb : EvP tb Γ y) (hc : C [.sh x, .sh y, .lent ds] R') (hR : ∀ e Γ', R' e Γ' → ∃ ds', Γ'[2]? = some (.lent ds') ∧ R e (pt Γ i ds')) : EvW (tCall (spE C) [] E0 (tCons ta (tCons tb (tCons (tVar i) tNil)))) Γ R := fun c F H σ G Q k =>
  ha c F H σ G _ fun v F1 H1 S1 r1 => hb c F1 H1 σ (G.step S1) _ fun u F2 H2 S2 r2 => by
    have S12 := S1.trans S2
    have G2 := G.step S12
    obtain ⟨a, xs, e0, h1, h2, h3, h4, h5, h6⟩ := G2.mt hm
    refine ⟨_, h1, ?_⟩
    show spE C ([v, u, .ref a] ++ []) H2 Q E0
    refine sp_last (es := [x, y]) (vs := [v, u]) S2.fh ⟨v, _, rfl, r1.mono S2.f, u, _, rfl, r2, rfl⟩ h4 h2 h3 hc (fun e Γ' hr => (hR e Γ' hr).imp fun _ q => q.1) fun w e Γ' ds' ys F' H' hr hl S3 q2 q3 q4 r => ?_
    obtain ⟨ds2, hl2, hr2⟩ := hR e Γ' hr
    have ed : ds2 = ds' := by
      have hl' : Γ'[2]? = some (.lent ds') := hl
      rw [hl2] at hl'; cases hl'; rfl
    subst ed
    have G3 := (G2.step S3).pt hm h1 q4
    rw [upd_back q3] at G3
    refine k w e _ F' H' hr2 G3 (S12.f.trans S3.f) (fun p o e n => ?_) r
    have np : p ≠ a := fun z => by
      subst z
      rcases hm with hm | hm
      · exact n i _ hm rfl h1
      · exact n i _ hm rfl h1
    obtain ⟨t1, t2, t3⟩ := Fr.stp (S12.trans S3) p o e n
    rw [upd_ne np] at t1
    refine ⟨t1, t2, fun j e' he m q => ?_⟩
    unfold pt at he
    by_cases z : i = j
    · subst z; rw [h1] at q; cases q; exact np rfl
    · rw [List.getElem?_set_ne z] at he; exact n j e' he m q
/-- f(x, y, [..]): a new list, which the call may change -/
theorem ep_callF (ha : EvP ta Γ x) (hb : EvP tb Γ y) (hf : EvF tl Γ ds) (hc : C [.sh x, .sh y, .lent ds] R') (hR : ∀ e Γ', R' e Γ' → e = z ∧ ∃ ds', Γ'[2]? = some (.lent ds')) : EvP (tCall (spE C) [] E0 (tCons ta (tCons tb (tCons tl tNil)))) Γ z := fun c F H σ G Q k =>
  ha c F H σ G _ fun v F1 H1 S1 r1 => hb c F1 H1 σ (G.step S1) _ fun u F2 H2 S2 r2 => hf c F2 H2 σ ((G.step S1).step S2) _ fun a xs F3 H3 S3 n3 f3 e3 rx => by
    have S12 := S1.trans S2
    have S13 := S12.trans S3
    show spE C ([v, u, .ref a] ++ []) H3 Q E0
    refine sp_last (es := [x, y]) (vs := [v, u]) S3.fh ⟨v, _, rfl, (r1.mono S2.f).mono S3.f, u, _, rfl, r2.mono S3.f, rfl⟩ f3 e3 rx hc (fun e Γ' hr => (hR e Γ' hr).2) fun w e Γ' ds' ys F' H' hr hl S4 q2 q3 q4 r => ?_
    have ez := (hR e Γ' hr).1
    subst ez
    have S14 := S13.trans S4
    have hn : H a = none := by
      cases q : H a with
      | none => rfl
      | some o => rw [S12.h _ _ q] at n3; cases n3
    refine k w F' H' ⟨S14.f, fun p o q => ?_, fun p o q => ?_, S14.nw⟩ r
    · have np : p ≠ a := fun z => by subst z; rw [hn] at q; cases q
      have := S14.h p o q
      rwa [upd_ne np] at this
    · have np : p ≠ a := fun z => by subst z; rw [q2] at q; cases q
      have := S14.fh p o q
      rwa [upd_ne np] at this
/-! ### comprehensions with effects -/
def EtF (tt : TT) (Γ : List En) (R : Bool → List En → Prop) : Prop := ∀ c F H σ, Good c F H σ Γ → ∀ Q : Bool → Hp → Prop, (∀ b Γ' F' H', R b Γ' → Good c F' H' σ Γ' → Ex F F' → Fr σ Γ Γ' F H F' H' → Q b H') → tt σ H Q
theorem etf_test {Rb : Bool → List En → Prop} (h : EvW te Γ R) (hr : ∀ e Γ', R e Γ' → ∃ b, e = .bl b ∧ Rb b Γ') : EtF (tTest te) Γ Rb := fun c F H σ G Q k => h c F H σ G _ fun v e Γ' F' H' he G' x fr r => by
  obtain ⟨b, rfl, hb⟩ := hr e Γ' he
  exact ⟨b, r, k b Γ' F' H' hb G' x fr⟩
theorem etf_yes {Rb : Bool → List En → Prop} (h : Rb true Γ) : EtF tYes Γ Rb := fun c F H σ G Q k => k true Γ F H h G (Ex.refl _) (Fr.stp (.refl G.fh))
/-- a new list, slots' lists changed meanwhile -/
def EvFW (te : TE) (Γ : List En) (R : List D → List En → Prop) : Prop := ∀ c F H σ, Good c F H σ Γ → ∀ Q : VK, (∀ a xs ds Γ' F' H', R ds Γ' → Good c F' H' σ Γ' → Ex F F' → NoSlot σ Γ' a → c.H0 a = none → F' a = none → H' a = some (.lst xs) → Reps F' ds xs → Q (.ref a) H') → te σ H Q
theorem sw_asgFW {i : Nat} {Rl : List D → List En → Prop} {P : Po} (h : EvFW te Γ Rl) (hn : ∀ ds Γ', Rl ds Γ' → P.nx (Γ'.set i (.own ds))) : SW (tAsg te (gName i)) Γ P := fun c F H σ G D a b e f => h c F H σ G _ fun p xs ds Γ' F' H' hr G' x n h0 nf eq r =>
  a _ F' H' _ (hn ds Γ' hr) (G'.setOwn n nf eq r h0) x
theorem wipG_len (Γ : List En) : ∀ vs : List Nat, (wipG Γ vs).length = Γ.length
  | [] => rfl
  | v :: vs => by unfold wipG; rw [List.length_set]; exact wipG_len Γ vs
theorem wipG_at (Γ : List En) : ∀ (vs : List Nat) (j : Nat), (wipG Γ vs)[j]? = if j ∈ vs then Γ[j]?.map (fun _ => En.un) else Γ[j]?
  | [], j => by simp [wipG]
  | v :: vs, j => by
    unfold wipG
    by_cases z : v = j
    · subst z
      rw [List.getElem?_set, wipG_at Γ vs v]
      rw [if_pos rfl, wipG_len]
      simp only [List.mem_cons, true_or, if_true]
      by_cases q : v < Γ.length
      · rw [if_pos q, List.getElem?_eq_getElem q]; rfl
      · rw [if_neg q, List.getElem?_eq_none (by omega)]; rfl
    · rw [List.getElem?_set_ne z, wipG_at Γ vs j]
      have e : (j ∈ v :: vs) ↔ j ∈ vs := by simp [Ne.symm z]
      simp [e]
theorem wipG_mut {vs : List Nat} {j : Nat} {e : En} (h : (wipG Γ vs)[j]? = some e) (m : e.mut = true) : j ∉ vs ∧ Γ[j]? = some e := by
  rw [wipG_at] at h
  by_cases z : j ∈ vs
  · rw [if_pos z] at h
    cases q : Γ[j]? with
    | none => rw [q] at h; cases h
    | some u => rw [q] at h; cases h; cases m
  · rw [if_neg z] at h; exact ⟨z, h⟩
/-- the slots vs are forgotten, whatever they hold then -/
theorem Good.unw {c : Ct} {F H : Hp} {σ τ : L2.St} {vs : List Nat} (G : Good c F H σ Γ) (h : ∀ j, j ∉ vs → σ[j]? = τ[j]?) (hl : σ.length = τ.length) : Good c F H τ (wipG Γ vs) where
  ff := G.ff
  fh := G.fh
  hh := G.hh
  li := G.li
  nw := G.nw
  len := by rw [wipG_len, ← hl]; exact G.len
  en := fun i e he => by
    have he0 := he
    rw [wipG_at] at he
    by_cases z : i ∈ vs
    · rw [if_pos z] at he
      cases q : Γ[i]? with
      | none => rw [q] at he; cases he
      | some u =>
        rw [q] at he
        cases he
        have hi : i < τ.length := by rw [← hl, G.len]; exact (List.getElem?_eq_some_iff.mp q).1
        exact ⟨τ[i], List.getElem?_eq_getElem hi, trivial⟩
    · rw [if_neg z] at he
      obtain ⟨o, h1, h2⟩ := G.en i e he
      exact ⟨o, by rw [← h i z]; exact h1, h2⟩
  dj := fun i j a e e' h1 h2 m1 m2 h3 h4 => by
    obtain ⟨z1, k1⟩ := wipG_mut h1 m1
    obtain ⟨z2, k2⟩ := wipG_mut h2 m2
    rw [← h i z1] at h3
    rw [← h j z2] at h4
    exact G.dj i j a e e' k1 k2 m1 m2 h3 h4
theorem noSlot_unw {σ τ : L2.St} {vs : List Nat} {a : Addr} (n : NoSlot σ Γ a) (h : ∀ j, j ∉ vs → σ[j]? = τ[j]?) : NoSlot τ (wipG Γ vs) a := fun j e he m q => by
  obtain ⟨z, k⟩ := wipG_mut he m
  exact n j e k m (by rw [h j z]; exact q)
/-- a loose list that no slot holds is written -/
theorem Good.wrL {c : Ct} {F H : Hp} {σ : L2.St} {a : Addr} {o : HO} (G : Good c F H σ Γ) (n : NoSlot σ Γ a) (f : F a = none) (h0 : c.H0 a = none) : Good c F (upd H a o) σ Γ where
  ff := G.ff
  fh := fun b u q => by
    have nb : b ≠ a := fun z => by subst z; rw [f] at q; cases q
    rw [upd_ne nb]; exact G.fh _ _ q
  hh := fun b u q l => by
    have nb : b ≠ a := fun z => by subst z; rw [h0] at q; cases q
    rw [upd_ne nb]; exact G.hh _ _ q l
  li := fun b l => by
    by_cases z : b = a
    · subst z; exact ⟨_, upd_same⟩
    · rw [upd_ne z]; exact G.li b l
  nw := G.nw
  len := G.len
  en := fun i en he => by
    obtain ⟨v, h1, h2⟩ := G.en i en he
    refine ⟨v, h1, ?_⟩
    cases en with
    | un => trivial
    | sh d => exact h2
    | own ds =>
      obtain ⟨b, xs, e1, e2, e3, e4⟩ := h2
      have nb : b ≠ a := fun z => by subst z; exact n i _ he rfl (by rw [h1, e1])
      exact ⟨b, xs, e1, e2, by rw [upd_ne nb]; exact e3, e4⟩
    | lent ds =>
      obtain ⟨b, xs, e1, e2, e3, e4⟩ := h2
      have nb : b ≠ a := fun z => by subst z; exact n i _ he rfl (by rw [h1, e1])
      exact ⟨b, xs, e1, e2, by rw [upd_ne nb]; exact e3, e4⟩
  dj := G.dj
/-- only the slots vs get other entries, none of them a list of its own -/
def SetV (vs : List Nat) (Γ Γ' : List En) : Prop := ∀ (j : Nat) (e : En), Γ'[j]? = some e → e.mut = true → j ∉ vs ∧ Γ[j]? = some e
theorem mut_set {i j : Nat} {d : D} {e : En} (h : (Γ.set i (.sh d))[j]? = some e) (m : e.mut = true) : j ≠ i ∧ Γ[j]? = some e := by
  by_cases z : i = j
  · subst z
    rw [List.getElem?_set] at h
    rw [if_pos rfl] at h
    split at h
    · cases h; cases m
    · cases h
  · rw [List.getElem?_set_ne z] at h; exact ⟨fun w => z w.symm, h⟩
theorem sv1 {i : Nat} {d : D} : SetV [i] Γ (Γ.set i (.sh d)) := fun j e h m => by
  obtain ⟨h1, h2⟩ := mut_set h m
  exact ⟨by simpa using h1, h2⟩
theorem sv2 {i l : Nat} {d d' : D} : SetV [i, l] Γ ((Γ.set i (.sh d)).set l (.sh d')) := fun j e h m => by
  obtain ⟨h1, h2⟩ := mut_set h m
  obtain ⟨h3, h4⟩ := mut_set h2 m
  exact ⟨by simp only [List.mem_cons, List.not_mem_nil, or_false, not_or]; exact ⟨h3, h1⟩, h4⟩
theorem efw_lc {α : Type} {vs : List Nat} (xs : List α) (f : α → D) (I : Nat → List D → List En → Prop) (h : WiP wi Γ (xs.map f)) (hl : ∀ i acc Γi, I i acc Γi → acc.length < sizeLine) (h0 : I 0 [] (wipG Γ vs))
    (hs : ∀ i x acc Γi, xs[i]? = some x → I i acc Γi → ∃ Γ', GtV g (f x) vs Γi Γ' ∧ SetV vs Γi Γ' ∧ EtF tt Γ' fun b Γ2 => if b = true then EvW te Γ2 fun e Γ3 => I (i + 1) (acc ++ [e]) (wipG Γ3 vs) else I (i + 1) acc (wipG Γ2 vs)) :
    EvFW (tLc wi g tt te vs) Γ fun ds Γ' => ∃ Γn, I xs.length ds Γn ∧ Γ' = wipG Γn vs := fun c F H σ G Q k => h c F H σ G _ fun J F1 H1 Gd Y S w hG hY => by
  intro Dl nD
  have nF1 : F1 Dl = none := by
    cases q : F1 Dl with
    | none => rfl
    | some u => rw [S.fh _ _ q] at nD; cases nD
  rw [List.length_map] at w
  have G1 := (G.step S).wip vs
  have d0 : c.H0 Dl = none := G1.fresh nD
  have back : ∀ {σ2 : L2.St}, (∀ j, j ∉ vs → σ2[j]? = (wipe σ vs)[j]?) → ∀ j, j ∉ vs → σ2[j]? = σ[j]? := fun {σ2} q j hj => by rw [q j hj, wipe_at, if_neg hj]
  have S0 : Stp F1 H1 F1 (upd H1 Dl (.lst [])) := .loose S.fh _ nD
  refine lc_it w (fun i H2 => ∃ F2 acc ds Γi, I i ds Γi ∧ Good c F2 H2 (wipe σ vs) Γi ∧ Ex F1 F2 ∧ Fr (wipe σ vs) (wipG Γ vs) Γi F1 H1 F2 H2 ∧ F2 Dl = none ∧ H2 Dl = some (.lst acc) ∧ NoSlot (wipe σ vs) Γi Dl ∧ Reps F2 ds acc)
    ⟨F1, [], [], _, h0, G1.step S0, Ex.refl _, Fr.stp S0, nF1, upd_same, G1.noSlot nD, rfl⟩ (fun i H2 _ ⟨F2, _, _, _, _, G2, x2, _⟩ => hG _ (x2.trans G2.fh)) ?_ ?_
  · rintro i v H2 H3 hi ⟨F2, acc, ds, Γi, hI, G2, x2, fr2, f2, e2, n2, r2⟩ y
    obtain ⟨F3, d, hd, S3, r3⟩ := hY i H2 v H3 F2 (by rw [List.length_map]; exact hi) x2 G2.fh y
    have hx : xs[i]? = some xs[i] := List.getElem?_eq_getElem hi
    have ed : d = f xs[i] := by
      rw [List.getElem?_map, hx] at hd
      exact (Option.some.inj hd).symm
    subst ed
    obtain ⟨Γ', hg, sv, ht⟩ := hs i _ ds Γi hx hI
    have fr3 := fr2.trans (Fr.stp (Γ := Γi) (σ := wipe σ vs) S3)
    obtain ⟨e3, f3', n3⟩ := Fr.stp (Γ := Γi) (σ := wipe σ vs) S3 Dl _ e2 n2
    have f3 := f3' f2
    refine hg c F3 H3 _ v (G2.step S3) r3 _ fun σ2 G3 q1 q2 => ⟨?_, ?_⟩
    · refine wipe_eq (back q1) ?_
      rw [q2, wipe_length]
    have toS : ∀ {a : Addr}, NoSlot (wipe σ vs) Γi a → NoSlot σ2 Γ' a := fun {a} n j e he m q => by
      obtain ⟨z1, z2⟩ := sv j e he m
      exact n j e z2 m (by rw [← q1 j z1]; exact q)
    refine ht c F3 H3 σ2 G3 _ fun b Γ2 F4 H4 hb G4 x4 fr4 => ?_
    obtain ⟨e4, f4', n4⟩ := fr4 Dl _ e3 (toS n3)
    have f4 := f4' f3
    cases b with
    | false =>
      rw [if_neg Bool.false_ne_true] at hb ⊢
      refine ⟨F4, acc, ds, _, hb, G4.unw q1 (q2.trans rfl), (x2.trans S3.f).trans x4, fun a o q n => ?_, f4, e4, noSlot_unw n4 q1, (r2.mono S3.f).mono x4⟩
      obtain ⟨a1, a2, a3⟩ := fr3 a o q n
      obtain ⟨b1, b2, b3⟩ := fr4 a o a1 (toS a3)
      exact ⟨b1, fun z => b2 (a2 z), noSlot_unw b3 q1⟩
    | true =>
      rw [if_pos rfl] at hb ⊢
      refine hb c F4 H4 σ2 G4 _ fun u e Γ3 F5 H5 hI5 G5 x5 fr5 r5 => ?_
      obtain ⟨e5, f5', n5⟩ := fr5 Dl _ e4 n4
      have f5 := f5' f4
      have rr := ((((r2.mono S3.f).mono x4).mono x5).append (.one r5))
      refine ⟨acc, e5, ?_, F5, acc ++ [u], ds ++ [e], _, hI5, (G5.wrL n5 f5 d0).unw q1 (q2.trans rfl), ((x2.trans S3.f).trans x4).trans x5, fun a o q n => ?_, f5, upd_same, noSlot_unw n5 q1, rr⟩
      · rw [r2.length]; exact hl i ds Γi hI
      · obtain ⟨a1, a2, a3⟩ := fr3 a o q n
        obtain ⟨b1, b2, b3⟩ := fr4 a o a1 (toS a3)
        obtain ⟨c1, c2, c3⟩ := fr5 a o b1 b3
        have na : a ≠ Dl := fun z => by subst z; rw [nD] at q; cases q
        exact ⟨by rw [upd_ne na]; exact c1, fun z => c2 (b2 (a2 z)), noSlot_unw c3 q1⟩
  · rintro H2 ⟨F2, acc, ds, Γn, hI, G2, x2, fr2, f2, e2, n2, r2⟩
    have q1 : ∀ j, j ∉ vs → (wipe σ vs)[j]? = σ[j]? := fun j hj => by rw [wipe_at, if_neg hj]
    exact k Dl acc ds _ F2 H2 ⟨Γn, hI, rfl⟩ (G2.unw q1 (wipe_length _ _)) (S.f.trans x2) (noSlot_unw n2 q1) d0 f2 e2 r2
end
end DL
set_option Elab.async false
set_option linter.all false
set_option maxRecDepth 100000
set_option autoImplicit false
set_option maxHeartbeats 4000000
/-! E1: == and != of objects whose class has its own ==. -/
namespace DL
open PySem PySem.Spec PyProof.Rows L2
/-- o == y -/
def rEqO (K : PySem.W.Frag) (C : Addr) (sp : Sp) (E : XK) (neg : Bool) : R2 := fun x y H Q => ∃ a dx fs t, x = .ref a ∧ H a = some (.ins C dx fs) ∧ TyX K H y t ∧ PySem.W.notFirst K C t = true ∧ sp [.ref a, y] H (fun v H' => ∃ b, v = .bl b ∧ Q (.bl (if neg then !b else b)) H') E
section
variable {X : Cx} {CX : CXT} {C f : Addr} {fd : FuncData} {ps : List Str} {sp : Sp} {k : Nat} {E : XK}
theorem op_eqO (F : FnOk X.prog X.w X.K X.mg X.base CX k f fd ps sp) (hs : PySem.W.findIn X.K (.ref C) "__eq__" = some (some (.ref f))) (hf : PySem.W.isFn X.K (.ref f) = true) (hb : Binds X.K fd ps []) (hr : Room (k + 1) X.A) (hx : Passes CX X E) :
    OpR X (compareOp .Eq) (rEqO X.K C sp E false) := by
  intro pins s σ H x y v u Q I rx ry h
  obtain ⟨a, dx, fs, t, rfl, ha, ty, nf, h⟩ := h
  cases rx
  obtain ⟨mA, O, _⟩ := ins_get I.hok ha
  obtain ⟨od, J, _⟩ := O.look
  obtain ⟨m, hF⟩ := I.fr
  obtain ⟨P, Z, p, _⟩ := kit_of I ry ty
  refine PySem.W.cmp_ofEq (PySem.W.cmp_K (op := .Eq) hr.units0 hF I.ok.mod.kin J (Z.ty _ _ I.kIn p) nf hs hf ?_)
  have hl := F.len _ _ _ _ h
  have bd := hb s [.ref a, u] I.kIn (by simpa using hl)
  rw [List.append_nil] at bd
  refine wpAny_call (codeAny_mono (F.run X.A X.stack s H ⟨[.ref a, u], []⟩ [.ref a, u] [.ref a, y] _ E (hr.mono (Nat.le_succ _)) I.env0 bd (.cons rfl (.cons ry .nil)) h) ?_)
  rintro (e | fl) s' hq
  · exact hx pins σ H s e s' I hq
  · match fl, hq with
    | .ret w, hq =>
      obtain ⟨z, H', I', rz, b, ez, q⟩ := I.after hq
      subst ez
      cases (show w = Value.bool b from rz)
      exact ⟨.bl b, H', I', rfl, q⟩
    | .next, hq => exact False.elim hq
    | .brk, hq => exact False.elim hq
    | .cont, hq => exact False.elim hq
end
end DL
namespace PySem.NE
open PySem PySem.W PyProof.Rows
section
variable {prog : Program} {w : World} {A : Around} {E : Value → Shared → Prop} {s : Shared} {K : Frag} {x C f : Addr} {ox : Obj} {od : Option Obj} {b tb : Value}
theorem ne_own {Q : Value → Shared → Prop} (hu : A.units + 1 < cLine) (X : K.In s.heap) (J : InstAt s.heap x ox C od) (hb : Looks (model prog w) s.heap (typeOf b) tb) (nf : notFirst K C tb = true) (hn : findIn K (.ref C) "__ne__" = some (some (.builtin "object.__ne__")))
    (hm : mroIn K C (.type "object") = some true) (he : findIn K (.ref C) "__eq__" = some (some (.ref f))) (hf : isFn K (.ref f) = true)
    (h : wpAny (model prog w) A.in1 (call (.ref f) [.ref x, b]) (fun v s' => ∃ z, v = .bool z ∧ Q (.bool (!z)) s') E s) : wpAny (model prog w) A (richCompare .NotEq (.ref x) b) Q E s := by
  have body : wpAny (model prog w) A.in1 (Builtin.«object.__ne__» ⟨[.ref x, b], []⟩) (fun fin s' => ∃ z, fin = .done (.ret (.bool (!z))) ∧ Q (.bool (!z)) s') E s := by
    unfold Builtin.«object.__ne__»
    refine wpAny_bind (m := slotArgs _ _ _) (wpAny_pure ?_)
    refine wpAny_bind (wpAny_cRoomFor hu ?_)
    refine wpAny_bind (m := callSpecialIfBound? (.ref x) (Str.ofString "__eq__") [b]) (ifBound_K X J he hf (wpAny_mono h (fun v s' hv => ?_) fun _ _ e => e))
    obtain ⟨z, rfl, q⟩ := hv
    dsimp only
    refine wpAny_bind (wpAny_truthy_bool ?_)
    exact wpAny_pure ⟨z, rfl, q⟩
  have sub : Looks (model prog w) s.heap (isInstance (.ref x) (.type "object")) true := J.type.andThen (looks_mroIn X hm)
  have one : wpAny (model prog w) A (tryCompare (.ref x) (cmpInfo .NotEq).2.1 b) (fun r s' => ∃ v, r = some v ∧ Q v s') E s := by
    unfold tryCompare
    refine wpAny_bind ?_
    simp only [callSpecialIfBound?, bindSpecialIfBound?]
    refine wpAny_holding (wpAny_bind (wpAny_bind (wpAny_bind (J.type.here ((looks_findIn X hn).here ?_)))))
    simp only [F.cmp_object.ne.bind]
    have fin : ∀ R : Option Value → Shared → Prop, (∀ z s', Q (.bool (!z)) s' → R (some (.bool (!z))) s') → wpAny (model prog w) A (call (.builtin "object.__ne__") ([.ref x] ++ [b]) >>= fun v => pure (some v)) R E s := fun R hR => by
      refine wpAny_bind (wpAny_call (codeAny_call_builtin F.cmp_object.ne.plain F.cmpEntry_ne (@check_slot (model prog w) _ _ s "object.__ne__" "object" "__ne__" (.ref x) [b] [] _ F.cmpKind_ne F.cmpSplit_ne sub (F.cmpArgs_ne _ _) (wpAny_mono body (fun fin s' hv => ?_) fun _ _ e => e))))
      obtain ⟨z, rfl, q⟩ := hv
      exact wpAny_pure (hR z s' q)
    refine wpAny_bind (wpAny_askSetting (wpAny_ite ?_))
    split
    · exact wpAny_bind (wpAny_pure (wpAny_pure (by exact fin _ fun z s' q => wpAny_pure ⟨_, rfl, q⟩)))
    · exact wpAny_tryCatch (wpAny_bind (wpAny_pure (wpAny_pure (by exact fin _ fun z s' q => wpAny_pure ⟨_, rfl, q⟩))))
  unfold richCompare
  simp only [oneThing_ref]
  refine wpAny_holding (wpAny_bind (wpAny_cRoomFor (Nat.lt_of_succ_lt hu) ?_))
  refine wpAny_bind (J.type.here (wpAny_bind (hb.here ?_)))
  have rest : wpAny (model prog w) A (tryCompare (.ref x) (cmpInfo .NotEq).2.1 b) (fun r s' => ∃ v, r = some v ∧ Q v s') E s := one
  split
  · rename_i q
    have e : subIn K tb (.ref C) = some false := by
      rcases Bool.or_eq_true_iff.mp nf with e | e
      · rw [beq_iff_eq.mp e] at q; simp at q
      · exact beq_iff_eq.mp e
    refine wpAny_bind ((looks_subIn X e).here ?_)
    simp only [Bool.false_eq_true, if_false]
    refine wpAny_bind (wpAny_mono rest (fun r s' z => ?_) fun _ _ e => e)
    obtain ⟨v, rfl, hq⟩ := z
    exact wpAny_pure hq
  · refine wpAny_bind (wpAny_pure ?_)
    simp only [Bool.false_eq_true, if_false]
    refine wpAny_bind (wpAny_mono rest (fun r s' z => ?_) fun _ _ e => e)
    obtain ⟨v, rfl, hq⟩ := z
    exact wpAny_pure hq
end
end PySem.NE
namespace DL
open PySem PySem.Spec PyProof.Rows L2
section
variable {X : Cx} {CX : CXT} {C f : Addr} {fd : FuncData} {ps : List Str} {sp : Sp} {k : Nat} {E : XK}
theorem op_neO (F : FnOk X.prog X.w X.K X.mg X.base CX k f fd ps sp) (hs : PySem.W.findIn X.K (.ref C) "__eq__" = some (some (.ref f))) (hn : PySem.W.findIn X.K (.ref C) "__ne__" = some (some (.builtin "object.__ne__"))) (hm : PySem.W.mroIn X.K C (.type "object") = some true)
    (hf : PySem.W.isFn X.K (.ref f) = true) (hb : Binds X.K fd ps []) (hr : Room (k + 1) X.A) (hx : Passes CX X E) : OpR X (compareOp .NotEq) (rEqO X.K C sp E true) := by
  intro pins s σ H x y v u Q I rx ry h
  obtain ⟨a, dx, fs, t, rfl, ha, ty, nf, h⟩ := h
  cases rx
  obtain ⟨mA, O, _⟩ := ins_get I.hok ha
  obtain ⟨od, J, _⟩ := O.look
  obtain ⟨P, Z, p, _⟩ := kit_of I ry ty
  refine PySem.W.cmp_ofNotEq (PySem.NE.ne_own (by have := hr.units; omega) I.kIn J (Z.ty _ _ I.kIn p) nf hn hm hs hf ?_)
  have hl := F.len _ _ _ _ h
  have bd := hb s [.ref a, u] I.kIn (by simpa using hl)
  rw [List.append_nil] at bd
  refine wpAny_call (codeAny_mono (F.run X.A.in1 X.stack s H ⟨[.ref a, u], []⟩ [.ref a, u] [.ref a, y] _ E hr.in1 I.env0.in1 bd (.cons rfl (.cons ry .nil)) h) ?_)
  rintro (e | fl) s' hq
  · exact hx pins σ H s e s' I hq
  · match fl, hq with
    | .ret w, hq =>
      obtain ⟨z, H', I', rz, b, ez, q⟩ := I.after hq
      subst ez
      cases (show w = Value.bool b from rz)
      exact ⟨b, rfl, .bl (!b), H', I', rfl, q⟩
    | .next, hq => exact False.elim hq
    | .brk, hq => exact False.elim hq
    | .cont, hq => exact False.elim hq
end
end DL
namespace DL
open PySem PySem.Spec PyProof.Rows L2
/-- the class at C has a property x, whose function stands at g -/
structure Prp (K : PySem.W.Frag) (C : Addr) (x : Str) (g : Addr) : Prop where
  ex : ∃ (p : Addr) (r : List Value), PySem.W.findIn K (.ref C) x = some (some (.ref p)) ∧ PySem.W.specialIn K (.ref p) "__get__" = some (some (.builtin "property.__get__")) ∧ PySem.W.takesIn K (.ref p) = some true ∧ PySem.W.recIn K p "property" = some (.ref g :: r)
def tPrp (C : Addr) (sp : Sp) (te : TE) : TE := fun σ H Q => te σ H fun x H1 => ∃ a dx fs, x = .ref a ∧ H1 a = some (.ins C dx fs) ∧ sp [.ref a] H1 Q E0
section
variable {X : Cx} {C f : Addr} {fd : FuncData} {ps : List Str} {sp : Sp} {k : Nat} {e : Expr} {te : TE} {x : Str} {pos : Pos}
theorem pe_prp (F : FnOk X.prog X.w X.K X.mg X.base CX0 k f fd ps sp) (c : Cls X.K C) (T : Prp X.K C x f) (hb : Binds X.K fd ps []) (hr : Room (k + 1) X.A) (he : PE X e te) (ab : attributeBase e x X.env (eval e X.env) = eval e X.env := by rfl) : PE X (.Attribute e x pos) (tPrp C sp te) := by
  constructor
  intro pins s σ H Q I h
  refine attr_of ab (thn (he.run pins s σ H _ I h) ?_)
  rintro u s1 ⟨y, H1, I1, ry, a, dx, fs, rfl, ha, q⟩
  cases ry
  obtain ⟨mA, O, _⟩ := ins_get I1.hok ha
  obtain ⟨od, J, _⟩ := O.look
  obtain ⟨m, hF⟩ := I1.fr
  obtain ⟨p, r, h1, h2, h3, h4⟩ := T.ex
  have I2 : Inv X pins σ H1 { s1 with toks := s1.toks + 1 } := I1.tok _
  have hl := F.len _ _ _ _ q
  have bd := hb { s1 with toks := s1.toks + 1 } [.ref a] I2.kIn (by simpa using hl)
  rw [List.append_nil] at bd
  refine PySem.W.get_prop hF I1.ok.mod.kin J (c.get x) c.hd h1 h2 h3 h4 (codeAny_mono (F.run X.A.in1 X.stack _ H1 ⟨[.ref a], []⟩ [.ref a] [.ref a] _ E0 hr.in1 I2.env0.in1 bd (.cons rfl .nil) q) ?_)
  rintro (e | fl) s' hq
  · exact (show False from hq).elim
  · match fl, hq with
    | .ret w, hq =>
      obtain ⟨z, H', I', rz, qq⟩ := I2.after hq
      exact PySem.W.handed_on (handed_of rz) ⟨z, H', I', rz, qq⟩
    | .next, hq => exact False.elim hq
    | .brk, hq => exact False.elim hq
    | .cont, hq => exact False.elim hq
end
end DL
set_option Elab.async false
set_option linter.all false
set_option maxRecDepth 100000
set_option autoImplicit false
set_option maxHeartbeats 4000000
/-! E2g (E2 without what makes objects): data rules for properties, own ==, isinstance, written dicts, repeated lists, and, making by names. -/
namespace DL
open PySem PySem.Spec PyProof.Rows L2
/-- facts of an own class for isinstance -/
structure OT (K : PySem.W.Frag) (C : Addr) : Prop where
  cl : Cls K C
  ha : PySem.W.findIn K (.ref C) "__class__" = some (some (.builtin "object.__class__"))
  hn : PySem.W.specialIn K (.builtin "object.__class__") "__get__" = some (some (.builtin "getset_descriptor.__get__"))
  ht : PySem.W.takesIn K (.builtin "object.__class__") = some true
  hm : PySem.W.mroIn K C (.type "object") = some true
/-- the type of data -/
def tyD : D → Option Value
  | .non => some (.type "NoneType")
  | .bl _ => some (.type "bool")
  | .int _ => some (.type "int")
  | .str _ => some (.type "str")
  | .lst _ => some (.type "list")
  | .tup _ => some (.type "tuple")
  | .dct _ => some (.type "dict")
  | .obj C _ => some (.ref C)
  | _ => none
theorem tyX_of {K : PySem.W.Frag} {F H : Hp} {d : D} {v : V} {t : Value} (e : Ex F H) (h : tyD d = some t) (ho : ∀ C fs, d = .obj C fs → OT K C) (r : Rep F d v) : TyX K H v t := by
  cases d with
  | non => cases h; cases (show v = .non from r); exact .base .non
  | bl b => cases h; cases (show v = .bl b from r); exact .base (.bl b)
  | int i => cases h; cases (show v = .int i from r); exact .base (.int i)
  | str x => cases h; cases (show v = .str x from r); exact .base (.str x)
  | ref a => cases h
  | ty n => cases h
  | lst ds => cases h; obtain ⟨a, xs, rfl, h1, _⟩ := r; exact .base (.lst (e _ _ h1))
  | tup ds => cases h; obtain ⟨a, xs, rfl, h1, _⟩ := r; exact .base (.tup (e _ _ h1))
  | obj C fs =>
    cases h
    obtain ⟨a, dx, xs, rfl, h1, _⟩ := r
    have O := ho C fs rfl
    exact .base (.ins (e _ _ h1) O.cl O.ha O.hn O.ht O.hm)
  | scr a ns p => cases h
  | dct kvs => cases h; obtain ⟨a, xs, rfl, h1, _⟩ := r; exact .base (.dK (e _ _ h1))
  | dki p => cases h
  | opq p => cases h
section
variable {K : PySem.W.Frag} {Γ : List En} {te ta tb : TE} {x y z d : D} {R : D → List En → Prop} {C : Addr} {fs : List (Str × D)} {Cc : Cn}
theorem ep_prp (h : EvP te Γ (.obj C fs)) (hC : Cc [.sh (.obj C fs)] R) (hR : ∀ e Γ', R e Γ' → e = z) : EvP (tPrp C (spE Cc) te) Γ z := fun c F H σ G Q k => h c F H σ G _ fun v F1 H1 S1 r => by
  have hg := good_args (es := [.obj C fs]) S1.fh ⟨v, [], rfl, r, rfl⟩
  obtain ⟨a, dx, xs, rfl, h1, h2⟩ := r
  refine ⟨a, dx, xs, rfl, S1.fh _ _ h1, _, F1, _, R, hg, argOk_sh [.obj C fs], hC, fun w d Γ' F' H' hr G' x r' => ?_⟩
  have e1 := hR d Γ' hr
  subst e1
  exact k w F' H' (S1.trans ⟨x, fun a o q => G'.hh a o q (fun ⟨_, z⟩ => by cases z), G'.fh, G'.nw⟩) r'
/-- o == y, o != y -/
theorem rd_eqO {neg b : Bool} {t : Value} (ht : tyD y = some t) (ho : ∀ C fs, y = .obj C fs → OT K C) (nf : PySem.W.notFirst K C t = true) (hC : Cc [.sh (.obj C fs), .sh y] R) (hR : ∀ e Γ', R e Γ' → e = .bl b) : RD (rEqO K C (spE Cc) E0 neg) (.obj C fs) y (.bl (if neg then !b else b)) := fun F H vx vy e rx ry Q k => by
  have hg := good_args (es := [.obj C fs, y]) e ⟨vx, [vy], rfl, rx, vy, [], rfl, ry, rfl⟩
  have ty := tyX_of e ht ho ry
  obtain ⟨a, dx, xs, rfl, h1, h2⟩ := rx
  refine ⟨a, dx, xs, t, rfl, e _ _ h1, ty, nf, _, F, _, R, hg, argOk_sh [.obj C fs, y], hC, fun w d Γ' F' H' hr G' x r' => ?_⟩
  have e1 := hR d Γ' hr
  subst e1
  exact ⟨b, r', k _ F' H' ⟨x, fun a o q => G'.hh a o q (fun ⟨_, z⟩ => by cases z), G'.fh, G'.nw⟩ rfl⟩
/-- isinstance(x, C) -/
theorem rc_isi {b : Bool} {t : Value} (ht : tyD x = some t) (ho : ∀ C fs, x = .obj C fs → OT K C) (hb : PySem.W.kitOne K t (.ref C) = some b) : RC (rIsi K) [x, .ref C] (.bl b) := fun F H vs e r Q k => by
  obtain ⟨v, _, rfl, rv, w, _, rfl, rw', rfl⟩ := r
  have e1 : w = .ref C := rw'
  subst e1
  exact ⟨v, .ref C, t, .ref C, b, rfl, .own C, tyX_of e ht ho rv, hb, k _ F H (.refl e) rfl⟩
theorem ep_and {a b : Bool} (ha : EvP ta Γ (.bl a)) (hb : a = true → EvP tb Γ (.bl b)) : EvP (tAndV ta tb) Γ (.bl (a && b)) := fun c F H σ G Q k => ha c F H σ G _ fun v F1 H1 S1 r => by
  have e1 : v = .bl a := r
  subst e1
  refine ⟨a, rfl, ?_⟩
  cases a with
  | true => rw [if_pos rfl]; exact hb rfl c F1 H1 σ (G.step S1) _ fun w F2 H2 S2 r2 => k w F2 H2 (S1.trans S2) r2
  | false => rw [if_neg Bool.false_ne_true]; exact k _ F1 H1 S1 rfl
theorem Reps.times {F : Hp} {ds : List D} {xs : List V} (h : Reps F ds xs) : ∀ n : Nat, Reps F (List.replicate n ds).flatten (List.replicate n xs).flatten
  | 0 => rfl
  | n + 1 => by
    rw [List.replicate_succ, List.replicate_succ, List.flatten_cons, List.flatten_cons]
    exact h.append (Reps.times h n)
/-- xs * n -/
theorem rdf_rep {ds : List D} {n : Nat} (hz : ds.length * n ≤ sizeLine) (hn : (n : Int) < 2 ^ 63) : RDF rRep (.lst ds) (.int n) (List.replicate n ds).flatten := fun F H vx vy e rx ry Q k => by
  obtain ⟨a, xs, rfl, h1, h2⟩ := rx
  have e2 : vy = .int n := ry
  subst e2
  refine ⟨a, n, xs, rfl, rfl, e _ _ h1, by omega, hn, by rw [h2.length, Int.toNat_natCast]; exact hz, fun p hp => ?_⟩
  rw [Int.toNat_natCast]
  refine k p _ F _ (.loose e _ hp) hp ?_ upd_same (h2.times n)
  cases q : F p with
  | none => rfl
  | some o => rw [e _ _ q] at hp; cases hp
/-- pairs of a written dict, the keys texts -/
def EkP (trs : List (TE × TE)) (Γ : List En) (kvs : List (Str × D)) : Prop := ∀ (c : Ct) (F H : Hp) (σ : L2.St), Good c F H σ Γ → ∀ Q : List (V × V) → Hp → Prop, (∀ xs F' H', Stp F H F' H' → RepF F' kvs xs → Q (xs.map fun p => (V.str p.1, p.2)) H') → tPairs trs σ H Q
theorem ek_nil : EkP [] Γ [] := fun c F H σ G Q k => k [] F H (.refl G.fh) rfl
theorem ek_cons {tk tv : TE} {trs : List (TE × TE)} {q : Str} {kvs : List (Str × D)} (hk : EvP tk Γ (.str q)) (hv : EvP tv Γ d) (hr : EkP trs Γ kvs) : EkP ((tk, tv) :: trs) Γ ((q, d) :: kvs) := fun c F H σ G Q k =>
  hk c F H σ G _ fun v F1 H1 S1 r1 => hv c F1 H1 σ (G.step S1) _ fun u F2 H2 S2 r2 => hr c F2 H2 σ ((G.step S1).step S2) _ fun xs F3 H3 S3 r3 => by
    have e1 : v = .str q := r1
    subst e1
    exact k ((q, u) :: xs) F3 H3 ((S1.trans S2).trans S3) ⟨u, xs, rfl, r2.mono S3.f, r3⟩
theorem putK_new {κ : Type} [DecidableEq κ] {kvs : List (κ × V)} {q : κ} {v : V} (h : ∀ p ∈ kvs, p.1 ≠ q) : putK kvs q v = kvs ++ [(q, v)] := by
  unfold putK
  rw [if_neg]
  rw [Bool.not_eq_true, List.any_eq_false]
  intro p hp
  simpa using h p hp
theorem merge_new : ∀ (more kvs : List (Key × V)), (kvs.map (·.1) ++ more.map (·.1)).Nodup → mergeK kvs more = kvs ++ more
  | [], kvs, _ => by simp [mergeK]
  | (q, v) :: r, kvs, h => by
    have h1 : ∀ p ∈ kvs, p.1 ≠ q := fun p hp z => by
      rw [List.map_cons, List.nodup_append] at h
      exact h.2.2 p.1 (List.mem_map_of_mem hp) q List.mem_cons_self z
    show mergeK (putK kvs q v) r = _
    rw [putK_new h1, merge_new r (kvs ++ [(q, v)]) (by simpa using h)]
    simp
theorem RepF.keys {F : Hp} : ∀ {kvs : List (Str × D)} {xs : List (Str × V)}, RepF F kvs xs → xs.map (·.1) = kvs.map (·.1)
  | [], _, h => by cases h; rfl
  | (q, d) :: kvs, _, ⟨v, r, h1, _, h3⟩ => by cases h1; simp [RepF.keys h3]
theorem ep_disp {trs : List (TE × TE)} {kvs : List (Str × D)} (h : EkP trs Γ kvs) (nd : (kvs.map (·.1)).Nodup) (hl : kvs.length ≤ 15) : EvP (tDisp trs) Γ (.dct kvs) := fun c F H σ G Q k p hp => by
  have S0 : Stp F H F (upd H p (.dK [])) := .loose G.fh _ hp
  have Fp : F p = none := by
    cases e : F p with
    | none => rfl
    | some o => rw [G.fh _ _ e] at hp; cases hp
  refine h c F _ σ (G.step S0) _ fun xs F2 H2 S2 r => ?_
  have hk := RepF.keys r
  have F2p : F2 p = none := by
    cases e : F2 p with
    | none => rfl
    | some o =>
      rcases S2.nw p (by rw [e]; exact Option.some_ne_none _) with z | z
      · exact absurd Fp z
      · rw [upd_same] at z; cases z
  refine ⟨S2.h _ _ upd_same, xs.map kvV, ?_, ?_, ?_⟩
  · rw [List.map_map]; rfl
  · rw [List.length_map]
    have := congrArg List.length hk
    rw [List.length_map, List.length_map] at this
    omega
  · have em : mergeK [] (xs.map kvV) = xs.map kvV := by
      have n1 : ((xs.map kvV).map (·.1)) = (kvs.map (·.1)).map Sum.inr := by rw [← hk, List.map_map, List.map_map]; rfl
      have := merge_new (xs.map kvV) [] (by
        rw [List.map_nil, List.nil_append, n1]
        exact List.Pairwise.map _ (fun a b z w => z (Sum.inr.inj w)) nd)
      rw [List.nil_append] at this
      exact this
    rw [em]
    refine k (.ref p) (upd F2 p (.dK (xs.map kvV))) _ ⟨fun a o e => ?_, fun a o e => ?_, fun a o e => ?_, fun a e => ?_⟩ ⟨p, xs, rfl, upd_same, r.mono (Ex.new F2p)⟩
    · exact Ex.new F2p _ _ (S2.f _ _ e)
    · have n : a ≠ p := fun z => by rw [z, hp] at e; cases e
      rw [upd_ne n]; exact S2.h _ _ (by rw [upd_ne n]; exact e)
    · by_cases z : a = p
      · subst z; rw [upd_same] at e ⊢; exact e
      · rw [upd_ne z] at e ⊢; exact S2.fh _ _ e
    · by_cases z : a = p
      · subst z; exact .inr hp
      · rw [upd_ne z] at e
        rcases S2.nw a e with q | q
        · exact .inl q
        · rw [upd_ne z] at q; exact .inr q
theorem valV_str {xs : List (Str × V)} {q : Str} {v : V} (h : xs.lookup q = some v) : valV (xs.map kvV) (.inr q) = some v := by
  unfold valV
  induction xs with
  | nil => cases h
  | cons p r ih =>
    obtain ⟨a, u⟩ := p
    rw [List.lookup_cons] at h
    rw [List.map_cons, List.find?_cons]
    by_cases z : a = q
    · subst z
      rw [beq_self_eq_true] at h
      cases h
      simp [kvV]
    · have z1 : (q == a) = false := by simpa using fun w => z w.symm
      rw [z1] at h
      have z2 : decide ((kvV (a, u)).1 = (.inr q : Key)) = false := by
        refine decide_eq_false fun w => z ?_
        exact Sum.inr.inj w
      rw [z2]
      exact ih h
theorem ep_dget {td ty : TE} {kvs : List (Str × D)} {q : Str} (h : EvP td Γ (.dct kvs)) (hy : EvP ty Γ (.str q)) (hl : kvs.lookup q = some d) : EvP (tDGet td ty) Γ d := fun c F H σ G Q k =>
  h c F H σ G _ fun v F1 H1 S1 r1 => hy c F1 H1 σ (G.step S1) _ fun u F2 H2 S2 r2 => by
    have e2 : u = .str q := r2
    subst e2
    obtain ⟨a, xs, rfl, h1, h2⟩ := r1
    obtain ⟨w, w1, w2⟩ := h2.lookup hl
    exact ⟨a, w, rfl, .inl ⟨xs.map kvV, .inr q, .inl (S2.fh _ _ (S2.f _ _ h1)), rfl, (valV_str w1).symm⟩, k w F2 H2 (S1.trans S2) (w2.mono S2.f)⟩
/-- C(k = v) -/
abbrev gM : List Value → List Value → List Value := fun us ws => us ++ ws
abbrev gMV : List V → List V → List V := fun vs zs => vs ++ zs
end
end DL
set_option Elab.async false
set_option linter.all false
set_option maxRecDepth 100000
set_option autoImplicit false
set_option maxHeartbeats 4000000
/-! X4: data rules: slices of the script, comprehensions over range(e) and pairs of values with effects, isinstance by types, indices into lists or tuples, all. -/
namespace DL
open PySem PySem.Spec PyProof.Rows L2
section
variable {K : PySem.W.Frag} {Γ Γ' : List En} {te ta tb tc te0 : TE} {tt : TT} {t u w : TS} {d x y z : D} {ds es : List D} {R R1 R2 : D → List En → Prop} {P : Po} {g : TG} {vs : List Nat} {Rl : List D → List En → Prop}
theorem cutV_take (xs : List V) (n : Nat) : cutV xs none (some (n : Int)) = xs.take n := by
  unfold cutV
  rw [HT.sIx_none, HT.sIx_nat, List.drop_zero, Nat.sub_zero]
  rw [← List.take_eq_take_min]
/-- script[:n] -/
theorem ef_scrTo {i : Nat} {a : Addr} {ns : List Int} {p : Prop} {n : Nat} (h : Γ[i]? = some (.sh (.scr a ns p))) (hp : p → KLs K a (ns.map V.int)) : EvF (tSl (rSlL K) (tVar i) tNoPart (tPart (tC (.int (n : Int))))) Γ ((ns.take n).map D.int) := fun c F H σ G Q k => by
  obtain ⟨v, e, r⟩ := G.sh h
  obtain ⟨rfl, hs⟩ := scr_sq G.fh r hp
  refine ⟨_, e, (n : Int), rfl, a, _, rfl, hs, fun q hq => ?_⟩
  rw [cutV_take, ← List.map_take]
  refine k q _ F _ (.loose G.fh _ hq) hq ?_ upd_same (Reps.ints _)
  cases z : F q with
  | none => rfl
  | some o => rw [G.fh _ _ z] at hq; cases hq
/-- [.. for .. in range(e)], e with effects -/
theorem efw_rng (h : EvW te0 Γ R1) (hs : ∀ d Γ', R1 d Γ' → ∃ n : Int, d = .int n ∧ EvFW (tLc (iRng1 (tCons (tC (.int n)) tNil)) g tt te vs) Γ' Rl) : EvFW (tLc (iRng1 (tCons te0 tNil)) g tt te vs) Γ Rl := fun c F H σ G Q k => h c F H σ G _ fun v d Γ' F1 H1 hr G1 x1 fr r => by
  obtain ⟨n, rfl, hf⟩ := hs d Γ' hr
  have e1 : v = .int n := r
  subst e1
  exact hf c F1 H1 σ G1 Q fun a xs ds Γ2 F' H' hr' G' x' n h0 nf e r => k a xs ds Γ2 F' H' hr' G' (x1.trans x') n h0 nf e r
/-- x = 'sep'.join([..]), the list with effects -/
theorem sw_joinFW {i : Nat} {a : Str} (h : EvFW te Γ Rl) (hn : ∀ ds Γ', Rl ds Γ' → ∃ ys : List Str, ds = ys.map D.str ∧ (ys.map (·.length)).sum + ys.length * a.length ≤ 16777216 ∧ P.nx (Γ'.set i (.sh (.str (Txt.join a ys))))) : SW (tAsg (tM1 (rJoin K) (tC (.str a)) te) (gName i)) Γ P := fun c F H σ G D ea eb ee ef =>
  ⟨⟨a, rfl⟩, h c F H σ G _ fun p xs ds Γ' F' H' hr G' x n h0 nf eq r => by
    obtain ⟨ys, rfl, hz, hx⟩ := hn ds Γ' hr
    have ex := r.strs_eq
    subst ex
    exact ⟨a, p, ys, rfl, rfl, .inl (.inl (.inl eq)), hz, ea _ F' H' _ hx (G'.setSh rfl) x⟩⟩
/-- both operands with effects -/
theorem ew_opWW {r : L2.R2} (ha : EvW ta Γ R1) (hb : ∀ x Γ', R1 x Γ' → EvW tb Γ' fun y Γ'' => ∃ z, RD r x y z ∧ R z Γ'') : EvW (tOp r ta tb) Γ R := fun c F H σ G Q k =>
  ha c F H σ G _ fun v x Γ1 F1 H1 hx G1 x1 f1 r1 => hb x Γ1 hx c F1 H1 σ G1 _ fun u y Γ2 F2 H2 ⟨z, hz, hR⟩ G2 x2 f2 r2 =>
    hz F2 H2 v u G2.fh (r1.mono x2) r2 Q fun w F3 H3 S3 r3 => k w z Γ2 F3 H3 hR (G2.step S3) (x1.trans (x2.trans S3.f)) ((f1.trans f2).trans (Fr.stp S3)) r3
/-- [a, b, c], a with effects -/
theorem ew_lst3 (ha : EvW ta Γ R1) (hb : ∀ x Γ', R1 x Γ' → EvP tb Γ' y ∧ EvP tc Γ' z ∧ R (.lst [x, y, z]) Γ') : EvW (tLst (tCons ta (tCons tb (tCons tc tNil)))) Γ R := fun c F H σ G Q k =>
  ha c F H σ G _ fun v x Γ1 F1 H1 hx G1 x1 f1 r1 => by
    obtain ⟨h2, h3, hR⟩ := hb x Γ1 hx
    exact h2 c F1 H1 σ G1 _ fun v2 F2 H2 S2 r2 => h3 c F2 H2 σ (G1.step S2) _ fun v3 F3 H3 S3 r3 => ⟨(by show 3 ≤ sizeLine; decide), fun p hp => by
      have S4 := Stp.new S3.fh (.lst [v, v2, v3]) hp
      have S := (S2.trans S3).trans S4
      exact k (.ref p) _ Γ1 _ _ hR (G1.step S) (x1.trans S.f) (f1.trans (Fr.stp S)) ⟨p, _, rfl, upd_same, v, _, rfl, r1.mono S.f, v2, _, rfl, (r2.mono S3.f).mono S4.f, v3, _, rfl, r3.mono S4.f, rfl⟩⟩
/-- a, b = e, f, both with effects -/
theorem sw_parWW {i j : Nat} (ha : EvW ta Γ R1) (hb : ∀ x Γ', R1 x Γ' → EvW tb Γ' fun y Γ'' => P.nx ((Γ''.set i (.sh x)).set j (.sh y))) : SW (tPar i j (tCons ta (tCons tb tNil))) Γ P := fun c F H σ G D ea eb ee ef =>
  ha c F H σ G _ fun v x Γ1 F1 H1 hx G1 x1 f1 r1 => hb x Γ1 hx c F1 H1 σ G1 _ fun u y Γ2 F2 H2 hn G2 x2 f2 r2 =>
    ⟨v, u, rfl, ea _ F2 H2 _ hn ((G2.setSh (r1.mono x2)).setSh r2) (x1.trans x2)⟩
/-! isinstance by built-in types -/
def noObj : D → Bool
  | .obj _ _ => false
  | _ => true
theorem tyX_n {F H : Hp} {d : D} {v : V} {t : Value} (e : Ex F H) (h : tyD d = some t) (ho : noObj d = true) (r : Rep F d v) : TyX K H v t := tyX_of e h (fun C fs z => by subst z; cases ho) r
theorem rc_isB {b : Bool} {n m : String} (ht : tyD x = some (.type m)) (ho : noObj x = true) (hb : kitB m n = some b) : RC (rIsi K) [x, .ty n] (.bl b) := fun F H vs e r Q k => by
  obtain ⟨v, _, rfl, rv, w, _, rfl, rw', rfl⟩ := r
  have e1 : w = .ty n := rw'
  subst e1
  exact ⟨v, .ty n, .type m, .type n, b, rfl, .ty n, tyX_n e ht ho rv, kit_ty hb, k _ F H (.refl e) rfl⟩
theorem rc_isT {b b1 b2 : Bool} {n n' m : String} (ht : tyD x = some (.type m)) (ho : noObj x = true) (h1 : kitB m n = some b1) (h2 : kitB m n' = some b2) (hb : (b1 || b2) = b) : RC (rIsiT K) [x, .tup [.ty n, .ty n']] (.bl b) := fun F H vs e r Q k => by
  obtain ⟨v, _, rfl, rv, w, _, rfl, rw', rfl⟩ := r
  obtain ⟨a, xs, rfl, ha, u1, _, rfl, ru1, u2, _, rfl, ru2, rfl⟩ := rw'
  have e1 : u1 = .ty n := ru1
  have e2 : u2 = .ty n' := ru2
  subst e1 e2 hb
  refine ⟨v, a, _, .type m, [.type n, .type n'], _, rfl, e _ _ ha, .cons (.ty n) (.cons (.ty n') .nil), tyX_n e ht ho rv, ?_, k _ F H (.refl e) rfl⟩
  refine kitAny_cons (kit_ty h1) (fun z => ?_) (fun z => by rw [z]; rfl)
  refine kitAny_cons (kit_ty h2) (fun z2 => ?_) (fun z2 => by rw [z2, Bool.or_true])
  rw [z, z2]; exact kitAny_nil
/-- xs[i], xs a list or a tuple -/
def rIxLT (K : PySem.W.Frag) : L2.R2 := fun x y H Q => rIxL K x y H Q ∨ rIxT K x y H Q
theorem ix_seq {X : Cx} : IxR X (rIxLT X.K) := fun value slice pins s σ H x y v u Q I rx ry h e => by
  rcases h with h | h
  · exact ix_list value slice pins s σ H x y v u Q I rx ry h e
  · exact ix_tup value slice pins s σ H x y v u Q I rx ry h e
theorem rd_ixLl {i : Int} (h : atI ds i = some d) : RD (rIxLT K) (.lst ds) (.int i) d := fun F H vx vy e rx ry Q k => .inl (rd_ixL h F H vx vy e rx ry Q k)
theorem rd_ixLt {i : Int} (h : atI ds i = some d) : RD (rIxLT K) (.tup ds) (.int i) d := fun F H vx vy e rx ry Q k => .inr (rd_ixT h F H vx vy e rx ry Q k)
theorem Reps.bls_eq {F : Hp} : ∀ {ns : List Bool} {xs : List V}, Reps F (ns.map D.bl) xs → xs = ns.map V.bl
  | [], _, h => h
  | n :: ns, _, ⟨v, r, h1, h2, h3⟩ => by
    cases h1
    have h2' : v = .bl n := h2
    rw [h2', Reps.bls_eq h3]
    rfl
theorem rc_all {bs : List Bool} : RC (rAll K) [.lst (bs.map D.bl)] (.bl (bs.all id)) := fun F H vs e r Q k => by
  obtain ⟨v, _, rfl, ⟨a, xs, rfl, ha, r1⟩, rfl⟩ := r
  have ex := r1.bls_eq
  subst ex
  exact ⟨a, bs, rfl, .inl (.inl (e _ _ ha)), k _ F H (.refl e) rfl⟩
theorem rd_neB {i j : Bool} : RD rNe (.bl i) (.bl j) (.bl (!decide (i = j))) := rd_ne rfl rfl rfl (by cases i <;> cases j <;> rfl)
theorem rd_eqB {i j : Bool} : RD rEq (.bl i) (.bl j) (.bl (decide (i = j))) := rd_eq rfl rfl rfl (by cases i <;> cases j <;> rfl)
end
end DL
namespace XS
open PySem PySem.Spec PyProof.Rows L2 DL
/-- an own exception without __init__, by its name -/
structure MakN (K : PySem.W.Frag) (mg : Str → Option Value) (x : Str) (C : Addr) : Prop where
  q : PySem.W.excIn K C He.veBase "ValueError.__new__" = true
  g : mg x = some (.ref C)
  k : PySem.W.keepIn K (.ref C) = true
theorem pe_exN {X : Cx} {C : Addr} {x : Str} {e : Expr} {ta : TE} {p pos : Pos} (c : MakN X.K X.mg x C) (hg : Gl X x) (he : PE X e ta) (hs : starEach [e] X.env = (false, eval e X.env) :: starEach [] X.env := by rfl) (hdb : (x == ("__debug__" : Str)) = false := by decide) :
    PE X (.Call (.Name x p) [e] [] pos) (fun σ H Q => ta σ H fun _ H1 => ∀ a, H1 a = none → Q (.ref a) (upd H1 a (ExO (.ref C) a))) := pe_exc1 PySem.F.excBase_ValueError c.q c.g c.k hg he hs hdb
theorem pe_xaK {X : Cx} {K : PySem.W.Frag} {e : Expr} {te : TE} {pos : Pos} {n : Str} (he : PE X e te) (hb : attributeBase e n X.env (eval e X.env) = eval e X.env := by rfl) (hK : X.K = K := by rfl) : PE X (.Attribute e n pos) (tXa K n te) := hK ▸ pe_xa he hb
end XS
set_option Elab.async false
set_option linter.all false
set_option maxRecDepth 100000
set_option autoImplicit false
set_option maxHeartbeats 4000000
/-! X5: the facts of own exceptions, as answers of the kernel. -/
namespace XS
open PySem PySem.Spec PyProof.Rows L2 DL
section
variable {K : PySem.W.Frag} {C D f : Addr}
/-- what OexC asks of the class object -/
def oexB (K : PySem.W.Frag) (C : Addr) : Bool := (match K.lookup C with
  | some ⟨.type "type", _, .cls cd, sl⟩ => (match cd.mro, sl.toList with
    | .ref C' :: bm, [_, _, _, _, some (.builtin n), _] => C' == C && n == "ValueError.__new__" && !cd.hasDel && cd.hasDict && PySem.HandSPX.refsVE bm
    | _, _ => false)
  | _ => false) && (decide (PySem.W.findIn K (.ref C) "__setattr__" = some (some (.builtin "object.__setattr__"))) && (decide (PySem.W.subIn K (.ref C) (.type "BaseException") = some true) && (decide (PySem.W.typeIn K (.ref C) = some (.type "type")) && PySem.W.keepIn K (.ref C))))
theorem oex_of (q : oexB K C = true) : OexC K C := by
  obtain ⟨q, q1⟩ := Bool.and_eq_true_iff.mp q
  obtain ⟨q1, q2⟩ := Bool.and_eq_true_iff.mp q1
  obtain ⟨q2, q3⟩ := Bool.and_eq_true_iff.mp q2
  obtain ⟨q3, q4⟩ := Bool.and_eq_true_iff.mp q3
  refine ⟨?_, of_decide_eq_true q1, of_decide_eq_true q2, of_decide_eq_true q3, q4⟩
  split at q
  · rename_i dd cd sl ho
    split at q
    · rename_i C' bm k0 k1 k2 k3 n k5 hm hs
      simp only [Bool.and_eq_true, beq_iff_eq, Bool.not_eq_true'] at q
      obtain ⟨⟨⟨⟨rfl, rfl⟩, hdel⟩, hhd⟩, ht⟩ := q
      obtain ⟨nm, bs, mro, ns, qn, hd, sn, sub, ab, col, del⟩ := cd
      dsimp only at hm hdel hhd
      subst hm hdel hhd
      have hsl : sl = #[k0, k1, k2, k3, some (.builtin "ValueError.__new__"), k5] := by
        obtain ⟨l⟩ := sl
        simp only at hs
        rw [hs]
      subst hsl
      exact ⟨nm, qn, ns, bs, bm, sn, sub, ab, col, dd, k0, k1, k2, k3, k5, ho, ht⟩
    · cases q
  · cases q
/-- what isinstance and the fields ask of the class -/
def excB (K : PySem.W.Frag) (D : Addr) : Bool := decide (PySem.W.findIn K (.ref D) "__getattribute__" = some (some (.builtin "BaseException.__getattribute__"))) && (decide (PySem.W.findIn K (.ref D) "__getattr__" = some none) && (decide (PySem.W.subIn K (.ref D) (.type "BaseException") = some true) && (PySem.W.hasDictIn K D &&
  (decide (PySem.W.findIn K (.ref D) "__class__" = some (some (.builtin "object.__class__"))) && (decide (PySem.W.specialIn K (.builtin "object.__class__") "__get__" = some (some (.builtin "getset_descriptor.__get__"))) && (decide (PySem.W.takesIn K (.builtin "object.__class__") = some true) && decide (PySem.W.mroIn K D (.type "object") = some true)))))))
theorem exc_of (q : excB K D = true) : ExcC K D ∧ XfC K D := by
  obtain ⟨q1, q⟩ := Bool.and_eq_true_iff.mp q
  obtain ⟨q2, q⟩ := Bool.and_eq_true_iff.mp q
  obtain ⟨q3, q⟩ := Bool.and_eq_true_iff.mp q
  obtain ⟨q4, q⟩ := Bool.and_eq_true_iff.mp q
  obtain ⟨q5, q⟩ := Bool.and_eq_true_iff.mp q
  obtain ⟨q6, q⟩ := Bool.and_eq_true_iff.mp q
  obtain ⟨q7, q8⟩ := Bool.and_eq_true_iff.mp q
  exact ⟨⟨of_decide_eq_true q1, of_decide_eq_true q2, of_decide_eq_true q3, q4, of_decide_eq_true q5, of_decide_eq_true q6, of_decide_eq_true q7, of_decide_eq_true q8⟩, ⟨of_decide_eq_true q1, of_decide_eq_true q2, of_decide_eq_true q3, q4⟩⟩
/-- the cell of __class__ that the def at f closes over -/
def ccA (K : PySem.W.Frag) (f : Addr) : Addr := match K.lookup f with
  | some ⟨_, _, .func d, _⟩ => (match d.closure with
    | [(_, c)] => c
    | _ => 0)
  | _ => 0
/-- the def at an address -/
def fnA (K : PySem.W.Frag) (a : Addr) : He.FnW := (K.lookup a).bind fun o => match o.data with
  | .func d => some (d.name, d.qualname, d.params, d.body, d.scope, d.globals, d.closure, d.builtins)
  | _ => none
def isNon : Value → Bool
  | .none => true
  | _ => false
/-- what SuC asks of the heap, file the text's own name -/
def suB (file : Str) (K : PySem.W.Frag) (C f : Addr) (q : Str) : Bool := (match K.lookup f with
  | some ⟨_, _, .func d, _⟩ => (match d.code with
    | .ref cda => PySem.W.codeIn K (.ref cda) q && (match K.lookup cda with
      | some ⟨_, _, .fields vs, _⟩ => (match (vs[2]? : Option Value) with
        | some (.str fl _) => file == fl
        | _ => false)
      | _ => false)
    | _ => false) && isNon d.defaults
  | _ => false) && ((match K.lookup (ccA K f) with
    | some ⟨_, _, .cell (some (.ref C')), _⟩ => C' == C
    | _ => false) && (decide (PySem.W.mroIn K C (.ref C) = some true) && (decide (PySem.W.ks_superIn K C C "__init__" = some (some (.builtin "ValueError.__init__"))) && (decide (PySem.W.nsIn K cStatics "thirdparty.any" = some none) && (decide (PySem.W.subIn K (.ref C) (.type "ValueError") = some true) &&
    (decide (PySem.W.findIn K (.ref C) "__init__" = some (some (.ref f))) && decide (PySem.W.typeIn K (.ref f) = some (.type "function"))))))))
theorem su_of {P : Program} {mg : Str → Option Value} {N ps : List Str} {nm0 qual : Str} {params : Arguments} {body : List Stmt} {scope : Scope} (ox : OexC K C) (e : fnA K f = some (nm0, qual, params, FuncBody.stmts body, scope, mainGlobals, [(("__class__" : Str), ccA K f)], builtinsNs)) (q : suB P.main.file K C f qual = true)
    (sc : ScS N ps scope) (p0 : ∃ ar : Arg, (params.posonlyargs ++ params.args).head? = some ar ∧ N[0]? = some ar.arg) (hp0 : ∃ x, N[0]? = some x ∧ scope.names.lookup x = some .local) (top : (P.main.scope.names.lookup ("super" : Str)).isSome = false) (ms : mg "super" = none) :
    ∃ (cda : Addr) (oc : Value) (od : Option Addr) (kV doc pm ct : Value) (an : Option Addr) (osl : Array (Option Value)), SuC P K mg C f (ccA K f) cda N ps nm0 qual params body scope ∧ PySem.W.findIn K (.ref C) "__init__" = some (some (.ref f)) ∧ PySem.W.typeIn K (.ref f) = some (.type "function") ∧
      K.lookup f = some ⟨oc, od, .func (PySem.W.fnX nm0 qual params body scope [("__class__", ccA K f)] .none kV doc pm an (.ref cda) ct), osl⟩ := by
  obtain ⟨q, q1⟩ := Bool.and_eq_true_iff.mp q
  obtain ⟨q1, q2⟩ := Bool.and_eq_true_iff.mp q1
  obtain ⟨q2, q3⟩ := Bool.and_eq_true_iff.mp q2
  obtain ⟨q3, q4⟩ := Bool.and_eq_true_iff.mp q3
  obtain ⟨q4, q5⟩ := Bool.and_eq_true_iff.mp q4
  obtain ⟨q5, q6⟩ := Bool.and_eq_true_iff.mp q5
  obtain ⟨q6, q7⟩ := Bool.and_eq_true_iff.mp q6
  have cel : ∃ oc od osl, K.lookup (ccA K f) = some ⟨oc, od, .cell (some (.ref C)), osl⟩ := by
    split at q1
    · rename_i oc od C' osl ho
      exact ⟨oc, od, osl, by rw [ho]; rw [beq_iff_eq.mp q1]⟩
    · cases q1
  unfold fnA at e
  cases lk : K.lookup f with
  | none => rw [lk] at e; cases e
  | some o =>
    obtain ⟨oc, od, dt, osl⟩ := o
    rw [lk] at e q
    cases dt with
    | func d =>
      obtain ⟨m1, m2, m3, m4, m5, m6, m7, m8, m9, m10, m11, m12, m13, m14, m15⟩ := d
      have e' : (m1, m2, m3, m4, m5, m6, m7, m15) = (nm0, qual, params, FuncBody.stmts body, scope, mainGlobals, [(("__class__" : Str), ccA K f)], builtinsNs) := Option.some.inj e
      simp only [Prod.mk.injEq] at e'
      obtain ⟨rfl, rfl, rfl, rfl, rfl, rfl, rfl, rfl⟩ := e'
      obtain ⟨qa, qb⟩ := Bool.and_eq_true_iff.mp q
      cases m8 with
      | none =>
        cases m13 with
        | ref cda =>
          obtain ⟨qc, qd⟩ := Bool.and_eq_true_iff.mp (show (PySem.W.codeIn K (.ref cda) m2 && (match K.lookup cda with
            | some ⟨_, _, .fields vs, _⟩ => (match (vs[2]? : Option Value) with
              | some (.str fl _) => P.main.file == fl
              | _ => false)
            | _ => false)) = true from qa)
          have code : ∃ ccl cdd vs ccs file tf, K.lookup cda = some ⟨ccl, cdd, .fields vs, ccs⟩ ∧ vs[2]? = some (.str file tf) ∧ ((P.main.file : Str) == file) = true := by
            split at qd
            · rename_i ccl cdd vs ccs ho
              split at qd
              · rename_i fl tf hv
                exact ⟨_, _, _, _, _, _, ho, hv, qd⟩
              · cases qd
            · cases qd
          exact ⟨cda, oc, od, m9, m10, m11, m14, m12, osl, ⟨ox, ⟨oc, od, .none, m9, m10, m11, m12, m14, osl, lk⟩, qc, code, cel, sc, p0, hp0, top, ms, of_decide_eq_true q2, of_decide_eq_true q3, of_decide_eq_true q4, of_decide_eq_true q5⟩, of_decide_eq_true q6, of_decide_eq_true q7, rfl⟩
        | _ => cases qa
      | _ => cases qb
    | _ => cases q
end
end XS
set_option Elab.async false
set_option linter.all false
set_option maxRecDepth 100000
set_option autoImplicit false
set_option maxHeartbeats 4000000
/-! G1: defs that are called where no repr is under way (guards empty): their promise, their calls, repr of data. -/
namespace DL
open PySem PySem.Spec PyProof.Rows L2
abbrev NoG (A : Around) : Prop := A.guards = some []
structure FnG (P : Program) (w : World) (K : PySem.W.Frag) (mg : Str → Option Value) (base : Heap) (k : Nat) (f : Addr) (fd : FuncData) (ps : List Str) (sp : Sp) : Prop where
  ar : ∀ vs H Q E, sp vs H Q E → vs.length = ps.length
  go : ∀ (A : Around) (out : List Env) (s : Shared) (H : Hp) (ag : Args) (us : List Value) (vs : List V) (Q : VK) (E : XK), Room k A → NoG A →
    Env0 P w K mg base A out s H → BindsTo s fd ag (ps.zip us) → Vals vs us → sp vs H Q E → codeAny (model P w) A (.call (.ref f) ag) (CR CX0 out P w H s Q E) s
theorem FnOk.g {P : Program} {w : World} {K : PySem.W.Frag} {mg : Str → Option Value} {base : Heap} {k : Nat} {f : Addr} {fd : FuncData} {ps : List Str} {sp : Sp} (F : FnOk P w K mg base CX0 k f fd ps sp) : FnG P w K mg base k f fd ps sp :=
  ⟨F.len, fun A o s H ag us vs Q E hr _ e b v h => F.run A o s H ag us vs Q E hr e b v h⟩
section
variable {P : Program} {w : World} {K : PySem.W.Frag} {mg : Str → Option Value} {base : Heap} {x qual : Str} {params : Arguments} {body : List Stmt} {scope : Scope} {f : Addr} {fd : FuncData} {N ps : List Str} {k : Nat} {sp : Sp}
theorem fn_g (F : FunD K x qual params body scope [] [] f fd) (S : FnScope N ps scope) (len : ∀ vs H Q E, sp vs H Q E → vs.length = ps.length)
    (hb : ∀ (cdv : Value) (A : Around) (out : List Env) (s : Shared) (H : Hp) (vs : List V) (Q : VK) (E : XK), Room k (A.deeper (envOfC qual scope s.heap.objs.size f cdv)) → NoG A → sp vs H Q E →
      ∃ t, PSs (cxOf CX0 P w K mg base N qual scope f cdv A out s H E) body t ∧ t { nx := fun _ Hz => Q .non Hz, rt := Q } (L2.start N vs) H) : FnG P w K mg base (k + 1) f fd ps sp := by
  obtain ⟨oc, od, dV, kV, doc, pm, an, cdv, ct, osl, rfl, lk, hcd, _, _⟩ := F.ex
  refine ⟨len, fun A out s H ag us vs Q E hr hg e0 hbi rv hsp => ?_⟩
  have keep : ∀ b o, base.get? b = some o → s.heap.get? b = some o := fun b o e => (e0.bs b o e).1
  have KX := e0.mod.kin.keeps keep
  have lim := e0.mod.nolimit.keeps keep
  have nl := len vs H Q E hsp
  have kinds : ∀ y ∈ ps.zip us, scope.names.lookup y.1 = some .local ∨ (scope.names.lookup y.1 = some .cell ∧ ((cellsFrom (s.heap.objs.size + 1) scope.names []).lookup y.1).isSome = true) := by
    rintro ⟨a, v⟩ hy
    exact (S.par a (List.of_mem_zip hy).1).imp id fun q => ⟨q, PySem.W.cellsFrom_some _ _ _ (.inl q)⟩
  refine codeAny_call_function hr.depth (KX _ _ lk) rfl S.co S.gen rfl (PySem.W.codeRec_of KX hcd) (hbi _ _ _ _ (wpAny_newFunctionEnv_cells S.kind kinds ?_))
  intro env he s1 xx
  subst he
  obtain ⟨t, ht, hq⟩ := hb cdv A out s H vs Q E (hr.deeper _) hg hsp
  have I : Inv (cxOf CX0 P w K mg base N qual scope f cdv A out s H E) [] (L2.start N vs) H s1 := inv_start S hr.hd e0 nl rv xx
  refine ⟨lim.keeps xx.toInCall.keep, codeAny_func (wpAny_mono (ht.run [] s1 (L2.start N vs) H _ I hq) ?_ fun _ _ z => z)⟩
  intro fl sz hz
  cases fl with
  | ret u => obtain ⟨v, τ, Hz, J, r, q⟩ := hz; exact ⟨v, Hz, J.os, J.bare, J.base, J.hok, r, q⟩
  | next => obtain ⟨τ, Hz, J, q⟩ := hz; exact ⟨.non, Hz, J.os, J.bare, J.base, J.hok, rfl, q⟩
  | brk => obtain ⟨_, _, _, q⟩ := hz; exact q.elim
  | cont => obtain ⟨_, _, _, q⟩ := hz; exact q.elim
end
end DL
set_option Elab.async false
set_option linter.all false
set_option maxRecDepth 100000
set_option autoImplicit false
set_option maxHeartbeats 4000000
/-! G2: calls of such defs; repr of a list of data; keyword calls; max of a list. -/
namespace DL
open PySem PySem.Spec PyProof.Rows L2
abbrev rReprL (K : PySem.W.Frag) : List V → Hp → VK → Prop := fun xs H Q => ∃ (a : Addr) (d : PyData), xs = [.ref a] ∧ Dp K H (.ref a) d ∧ d.showable = true ∧ d.hasDict = false ∧ d.shown.length ≤ sizeLine ∧ d.depth ≤ 60 ∧ Q (.str d.shown) H
theorem call_reprG {X : Cx} {j : Nat} (hg : NoG X.A) (hr : Room j X.A) : CallR X (.builtin "repr") (rReprL X.K) := by
  intro pins s σ H xs us Q I r h
  obtain ⟨a, d, rfl, hd, hs, hn, hl, hp, q⟩ := h
  obtain ⟨u, rfl, rx⟩ := vals1 r
  cases rx
  obtain ⟨as, rd⟩ := Dp.reads I d _ _ hd rfl
  refine repr_of_reads' rd hs (fun z => by rw [hn] at z; cases z) hg ?_ (fun b o e => e) (fun h' u tk hk => ⟨.str d.shown, H, I.kept hk, ⟨u, rfl⟩, q⟩) hl
  have := hr.un
  omega
/-- repr of data of the data layer -/
theorem rc_repr {K : PySem.W.Frag} {ds : List D} {d : PyData} (h : pyD (.lst ds) = some d) (hs : d.showable = true) (hn : d.hasDict = false) (hl : d.shown.length ≤ sizeLine) (hp : d.depth ≤ 60) : RC (rReprL K) [.lst ds] (.str d.shown) := fun F H vs e r Q k => by
  obtain ⟨v, _, rfl, rv, rfl⟩ := r
  have q := dp_of (K := K) e h rv
  obtain ⟨a, xs, rfl, h1, h2⟩ := rv
  exact ⟨a, d, rfl, q, hs, hn, hl, hp, k _ F H (.refl e) rfl⟩
section
variable {X : Cx} {j k : Nat} {f : Addr} {fd : FuncData} {ps : List Str} {sp : Sp}
theorem run_g {pins : List (Addr × Obj)} {σ : L2.St} {H : Hp} {s : Shared} {Q : VK} {us : List Value} {vs : List V} (F : FnG X.prog X.w X.K X.mg X.base k f fd ps sp) (hr : Room k X.A) (hg : NoG X.A) (hb : Binds X.K fd ps []) (I : Inv X pins σ H s) (r : Vals vs us) (h : sp vs H Q E0) :
    wpAny (model X.prog X.w) X.A (call (.ref f) us) (EP X pins σ Q) X.xe s := by
  have nl : us.length = ps.length := by rw [← r.length]; exact F.ar vs H Q E0 h
  have b := hb s us I.kIn (by rw [List.append_nil]; exact nl)
  rw [List.append_nil] at b
  refine wpAny_call (codeAny_mono (F.go X.A X.stack s H ⟨us, []⟩ us vs Q E0 hr hg I.env0 b r h) ?_)
  intro res sz hq
  cases res with
  | error e => exact (pass0 (X := X)) pins σ H s e sz I hq
  | ok fl =>
    cases fl with
    | ret u => exact I.after hq
    | next => exact hq.elim
    | brk => exact hq.elim
    | cont => exact hq.elim
/-- the name x stands for a def that keeps sp where no repr is under way -/
structure CalG (P : Program) (w : World) (K : PySem.W.Frag) (mg : Str → Option Value) (base : Heap) (k : Nat) (x : Str) (sp : Sp) : Prop where
  ex : ∃ (f : Addr) (fd : FuncData) (ps : List Str), FnG P w K mg base k f fd ps sp ∧ mg x = some (.ref f) ∧ PySem.W.keepIn K (.ref f) = true ∧ Binds K fd ps []
theorem pe_cg {x : Str} {p pos : Pos} {e : Expr} {es : List Expr} {t : TA} (c : CalG X.prog X.w X.K X.mg X.base k x sp) (hr : Room j X.A) (hg : NoG X.A) (hk : k ≤ j) (hgl : Gl X x) (ha : PA X (e :: es) t) (hdb : (x == ("__debug__" : Str)) = false := by decide)
    (he : starEach (e :: es) X.env = (false, eval e X.env) :: starEach es X.env := by rfl) (hpl : (backTo pos (starEach es X.env)).any (·.1) = false := by rfl) : PE X (.Call (.Name x p) (e :: es) [] pos) (tCall sp [] E0 t) := by
  obtain ⟨f, fd, ps, F, hm, kp, b⟩ := c.ex
  constructor
  intro pins s σ H Q I h
  refine wpAny_Call_Name_kw (ld_glob I hgl hm ?_ hdb)
  refine PySem.W.callWith_K (h₀ := X.base) I.ok.mod.kin kp ?_ he hpl
  refine thn (ha.run pos pins s σ H _ I h) ?_
  rintro us s1 ⟨vs, H1, I1, r, q⟩
  rw [List.append_nil] at q
  exact ⟨I1.kIn, run_g F (hr.mono hk) hg b I1 r q⟩
end
end DL
set_option Elab.async false
set_option linter.all false
set_option maxRecDepth 100000
set_option autoImplicit false
set_option maxHeartbeats 4000000
/-! G3: a def in the data layer, called where no repr is under way; max of a list. -/
namespace DL
open PySem PySem.Spec PyProof.Rows L2
section
variable {P : Program} {w : World} {K : PySem.W.Frag} {mg : Str → Option Value} {base : Heap} {x qual : Str} {params : Arguments} {body : List Stmt} {scope : Scope} {f : Addr} {fd : FuncData} {N ps : List Str} {k : Nat} {C : Cn}
theorem fn_okG (F : FunD K x qual params body scope [] [] f fd) (S : FnScope N ps scope) (hlen : ∀ Γ R, C Γ R → Γ.length = ps.length)
    (hb : ∀ (cdv : Value) (A : Around) (outer : List Env) (s : Shared) (H : Hp) (E : XK), Room k (A.deeper (envOfC qual scope s.heap.objs.size f cdv)) → NoG A →
      ∃ t, PSs (cxOf CX0 P w K mg base N qual scope f cdv A outer s H E).nox body t ∧
        ∀ Γ R, C Γ R → argOk Γ → SW t (Γ ++ List.replicate (N.length - ps.length) .un) ⟨fun Γ' => R .non (outG Γ Γ') ∧ lentOk Γ Γ', fun d Γ' => R d (outG Γ Γ') ∧ lentOk Γ Γ', fun _ => False, fun _ => False⟩) :
    FnG P w K mg base (k + 1) f fd ps (spE C) := by
  have ln : ∀ vs H Q E, spE C vs H Q E → vs.length = ps.length := fun vs H Q E ⟨c, F, Γ, R, G, a, hC, q⟩ => by
    have e := G.len
    rw [List.length_map] at e
    rw [e, hlen _ _ hC]
  refine fn_g F S ln fun cdv A outer s H vs Q E hr hg h => ?_
  obtain ⟨t, h1, h2⟩ := hb cdv A outer s H E hr hg
  refine ⟨t, PSs.nox h1, ?_⟩
  have lv := ln vs H Q E h
  obtain ⟨c, F0, Γ, R, G, a, hC, q⟩ := h
  show t _ (vs.map some ++ List.replicate (N.length - vs.length) none) H
  rw [lv]
  refine h2 Γ R hC a c F0 H _ (G.start _) _ (fun Γ' F' H' σ' p G' x => ?_) (fun v d Γ' F' H' σ' p G' x r => ?_) (fun _ _ _ _ z => z.elim) (fun _ _ _ _ z => z.elim)
  · exact q .non .non _ F' H' p.1 (G.back G' x a p.2) x rfl
  · exact q v d _ F' H' p.1 (G.back G' x a p.2) x r
end
/-- max of a list of ints -/
theorem rc_max {K : PySem.W.Frag} {ns : List Int} {m : Int} (hm : m ∈ ns) (hb : ∀ y ∈ ns, y ≤ m) : RC (rMax K) [.lst (ns.map D.int)] (.int m) := fun F H vs e r Q k => by
  obtain ⟨v, _, rfl, ⟨a, xs, rfl, h1, h2⟩, rfl⟩ := r
  have ex := h2.ints_eq
  subst ex
  refine ⟨a, ns, rfl, .inl (.inl (e _ _ h1)), List.length_pos_of_mem hm, fun x q1 q2 => ?_⟩
  have ex : x = m := Int.le_antisymm (hb x q1) (q2 m hm)
  subst ex
  exact k _ F H (.refl e) rfl
end DL
set_option Elab.async false
set_option linter.all false
set_option maxRecDepth 100000
set_option autoImplicit false
set_option maxHeartbeats 4000000
/-! G4: a call by names alone, the names in the reverse order of the parameters. -/
namespace DL
open PySem PySem.Spec PyProof.Rows L2
abbrev gR : List Value → List Value → List Value := fun _ ws => ws.reverse
abbrev gRV : List V → List V → List V := fun _ zs => zs.reverse
/-- all of the def's parameters by their names, the last one first -/
def KRev (K : PySem.W.Frag) (fd : FuncData) (ps ks : List Str) : Prop := ∀ (s : Shared) (ws : List Value), K.In s.heap → ws.length = ps.length → BindsTo s fd ⟨[], ks.zip ws⟩ (ps.zip ws.reverse)
structure CalK (P : Program) (w : World) (K : PySem.W.Frag) (mg : Str → Option Value) (base : Heap) (k : Nat) (x : Str) (ks : List Str) (sp : Sp) : Prop where
  ex : ∃ (f : Addr) (fd : FuncData) (ps : List Str), FnOk P w K mg base CX0 k f fd ps sp ∧ mg x = some (.ref f) ∧ PySem.W.keepIn K (.ref f) = true ∧ KRev K fd ps ks
section
variable {X : Cx} {j k : Nat} {x : Str} {ks : List Str} {sp : Sp}
theorem pe_ck0 {p pos : Pos} {kws : List Keyword} {tk : TA} (c : CalK X.prog X.w X.K X.mg X.base k x ks sp) (hr : Room j X.A) (hk : k ≤ j) (hgl : Gl X x) (hkw : PK X kws tk) (hdb : (x == ("__debug__" : Str)) = false := by decide)
    (hall : (backToKw pos (keywordEach kws X.env)).all (·.1.isSome) = true := by rfl) (hks : (backToKw pos (keywordEach kws X.env)).filterMap (·.1) = ks := by rfl)
    (hpl : ((backTo pos (starEach [] X.env)).any (·.1) || (backToKw pos (keywordEach kws X.env)).any (·.1.isNone)) = false := by rfl) : PE X (.Call (.Name x p) [] kws pos) (tCallK sp gRV E0 tNil tk) := by
  obtain ⟨f, fd, ps, F, hm, kp, b⟩ := c.ex
  constructor
  intro pins s σ H Q I h
  refine wpAny_Call_Name_kw (ld_glob I hgl hm ?_ hdb)
  refine PySem.W.callWith_KW0 (h₀ := X.base) I.ok.mod.kin kp hall ?_ hpl
  refine thn (hkw.run pos pins s σ H _ I h) ?_
  rintro ws s2 ⟨zs, H2, I2, rz, q2⟩
  rw [hks]
  have r3 := rz.reverse
  have l3 : zs.reverse.length = ps.length := F.len _ _ _ _ q2
  refine ⟨I2.kIn, wpAny_call (codeAny_mono (F.run X.A X.stack s2 H2 ⟨[], ks.zip ws⟩ ws.reverse zs.reverse Q E0 (hr.mono hk) I2.env0 (b s2 ws I2.kIn (by rw [← l3, List.length_reverse, rz.length])) r3 q2) ?_)⟩
  rintro (e | fl) s' hq
  · exact pass0 (X := X) pins σ H2 s2 e s' I2 hq
  · match fl, hq with
    | .ret u, hq => exact I2.after hq
    | .next, hq => exact hq.elim
    | .brk, hq => exact hq.elim
    | .cont, hq => exact hq.elim
end
section
variable {Γ : List En} {es : List D} {z : D} {R : D → List En → Prop}
theorem ep_callR {C : Cn} {tk : TA} (ha : EaP tk Γ es) (hc : C (es.reverse.map .sh) R) (hR : ∀ e Γ', R e Γ' → e = z) : EvP (tCallK (spE C) gRV E0 tNil tk) Γ z := fun c F H σ G Q k => ha c F H σ G _ fun vs F1 H1 S1 r1 => by
  refine ⟨_, F1, _, R, good_args S1.fh r1.reverse, argOk_sh _, hc, fun v d Γ' F' H' hr G' x r => ?_⟩
  have e := hR d Γ' hr
  subst e
  exact k v F' H' (S1.trans ⟨x, fun a o q => G'.hh a o q (fun ⟨_, z⟩ => by cases z), G'.fh, G'.nw⟩) r
end
end DL
set_option Elab.async false
set_option linter.all false
set_option maxRecDepth 100000
set_option autoImplicit false
set_option maxHeartbeats 4000000
/-! G5: a def that gives back a list of its own making (loose, so the caller may change it). -/
namespace DL
open PySem PySem.Spec PyProof.Rows L2
/-- te is a new loose list, of which Rl holds -/
def EvFR (te : TE) (Γ : List En) (Rl : List D → Prop) : Prop := ∀ c F H σ, Good c F H σ Γ → ∀ Q : VK, (∀ a xs ds F' H', Rl ds → Stp F H F' H' → H a = none → F' a = none → H' a = some (.lst xs) → Reps F' ds xs → Q (.ref a) H') → te σ H Q
theorem EvF.r {te : TE} {Γ : List En} {ds : List D} {Rl : List D → Prop} (h : EvF te Γ ds) (r : Rl ds) : EvFR te Γ Rl := fun c F H σ G Q k => h c F H σ G Q fun a xs F' H' S n f e q => k a xs ds F' H' r S n f e q
abbrev CnF := List D → (List D → Prop) → Prop
def spF (C : CnF) : Sp := fun vs H Q _ => ∃ (F : Hp) (es : List D) (Rl : List D → Prop), Ex F H ∧ Reps F es vs ∧ C es Rl ∧ ∀ a xs ds F' H', Rl ds → Stp F H F' H' → H a = none → F' a = none → H' a = some (.lst xs) → Reps F' ds xs → Q (.ref a) H'
theorem ef_callF {C : CnF} {ta : TA} {Γ : List En} {es : List D} {Rl : List D → Prop} {E : XK} (ha : EaP ta Γ es) (hc : C es Rl) : EvFR (tCall (spF C) [] E ta) Γ Rl := fun c F H σ G Q k => ha c F H σ G _ fun vs F1 H1 S1 r1 => by
  show spF C (vs ++ []) H1 Q E
  rw [List.append_nil]
  refine ⟨F1, es, Rl, S1.fh, r1, hc, fun a xs ds F' H' r S n f e q => k a xs ds F' H' r (S1.trans S) ?_ f e q⟩
  cases z : H a with
  | none => rfl
  | some o => rw [S1.h _ _ z] at n; cases n
theorem q_asgFR {te : TE} {Γ : List En} {Rl : List D → Prop} {i : Nat} {u : TS} {P : Po} (h : EvFR te Γ Rl) (k : ∀ ds, Rl ds → SW u (Γ.set i (.own ds)) P) : SW (tSeq (tAsg te (gName i)) u) Γ P := by
  refine sw_seq (fun Γ' => ∃ ds, Rl ds ∧ Γ' = Γ.set i (.own ds)) ?_ (fun Γ' ⟨ds, r, e⟩ => e ▸ k ds r)
  intro c F H σ G D a b e f
  exact h c F H σ G _ fun p xs ds F' H' r S n nf eq q => a _ F' H' _ ⟨ds, r, rfl⟩ ((G.step S).setOwn (G.noSlot n) nf eq q (G.fresh n)) S.f
section
variable {P : Program} {w : World} {K : PySem.W.Frag} {mg : Str → Option Value} {base : Heap} {x qual : Str} {params : Arguments} {body : List Stmt} {scope : Scope} {f : Addr} {fd : FuncData} {N ps : List Str} {k : Nat} {C : CnF}
/-- a def whose last statement returns such a list -/
theorem fn_okF (F : FunD K x qual params body scope [] [] f fd) (S : FnScope N ps scope) (hlen : ∀ es Rl, C es Rl → es.length = ps.length)
    (hb : ∀ (cdv : Value) (A : Around) (out : List Env) (s : Shared) (H : Hp) (E : XK), Room k (A.deeper (envOfC qual scope s.heap.objs.size f cdv)) →
      ∃ t te, PSs (cxOf CX0 P w K mg base N qual scope f cdv A out s H E).nox body (tSeq t (tRet te)) ∧
        ∀ es Rl, C es Rl → ∃ M : List En → Prop, SW t (es.map En.sh ++ List.replicate (N.length - ps.length) .un) ⟨M, fun _ _ => False, fun _ => False, fun _ => False⟩ ∧ ∀ Γ', M Γ' → EvFR te Γ' Rl) :
    FnOk P w K mg base CX0 (k + 1) f fd ps (spF C) := by
  have ln : ∀ vs H Q E, spF C vs H Q E → vs.length = ps.length := fun vs H Q E ⟨F, es, Rl, x0, rs, hC, q⟩ => by rw [rs.length]; exact hlen _ _ hC
  refine F.ok S ln fun cdv A out s H vs Q E hr h => ?_
  obtain ⟨t, te, h1, h2⟩ := hb cdv A out s H E hr
  refine ⟨_, PSs.nox h1, ?_⟩
  have lv := ln vs H Q E h
  obtain ⟨F0, es, Rl, x0, rs, hC, q⟩ := h
  obtain ⟨M, h3, h4⟩ := h2 es Rl hC
  have G := (good_args x0 rs).start (N.length - ps.length)
  show tSeq t (tRet te) _ (vs.map some ++ List.replicate (N.length - vs.length) none) H
  rw [lv]
  refine h3 _ F0 H _ G _ (fun Γ' F' H' σ' m G' xx => ?_) (fun _ _ _ _ _ _ z => z.elim) (fun _ _ _ _ z => z.elim) (fun _ _ _ _ z => z.elim)
  have S1 : Stp F0 H F' H' := ⟨xx, fun a o e => G'.hh a o e fun ⟨_, z⟩ => (nomatch z), G'.fh, G'.nw⟩
  refine h4 Γ' m _ F' H' σ' G' _ fun a xs ds F2 H2 r S2 n f e rr => q a xs ds F2 H2 r (S1.trans S2) ?_ f e rr
  cases z : H a with
  | none => rfl
  | some o => rw [S1.h _ _ z] at n; cases n
end
end DL
set_option Elab.async false
set_option linter.all false
set_option maxRecDepth 100000
set_option autoImplicit false
set_option maxHeartbeats 4000000
/-! H0: the law's def called behind the top, where no repr is under way; the law's walk by it. -/
namespace DL
open PySem PySem.Spec PyProof.Rows L2
section
variable {P : Program} {w : World} {K : PySem.W.Frag} {mg mb : Str → Option Value} {k : Nat} {fl sc : Addr} {fd : FuncData} {px : Str} {pr : Sp} {st : Shared} {vals : List Value} {nums : List Int}
/-- the answer of a law that holds -/
abbrev TrueOf (st : Shared) : Result → Shared → Prop := fun r u => r = .ok (.ret (.bool true)) ∧ OldK st.heap u.heap ∧ u.os = st.os ∧ AllBare u.gens
/-- nothing but the script at sc is tracked, and that only where it is no object of K -/
structure Alone (K : PySem.W.Frag) (T : Hp) (sc : Addr) : Prop where
  only : Only T
  just : ∀ b, T b ≠ none → b = sc ∧ K.lookup sc = none
theorem Alone.off {T : Hp} (Z : Alone K T sc) {b : Addr} (h : b ≠ sc ∨ K.lookup sc ≠ none) : T b = none := by
  cases q : T b with
  | none => rfl
  | some u =>
    obtain ⟨z1, z2⟩ := Z.just b (by rw [q]; exact Option.some_ne_none _)
    rcases h with h | h
    · exact absurd z1 h
    · exact absurd z2 h
theorem lawT {T : Hp} (Z : Alone K T sc) (hK : K.In st.heap) (hG : st.heap.Ns mainGlobals mg) (hB : st.heap.Ns builtinsNs mb) (hBB : ∀ y : Str, y ≠ "__name__" → mb y = bootBuiltins y) (hN : st.heap.NoLimit) (hZ : st.gens = #[])
    (hS : st.heap.get? sc = some { cls := .type "list", data := .seq vals.toArray }) (room : Room k callerA) (fn : ∀ b : Heap, K.In b → b.Ns mainGlobals mg → FnG P w K mg b k fl fd [px] pr) (bd : ∀ (s : Shared) (u : Value), BindsTo s fd ⟨[u], []⟩ [(px, u)])
    (tok : HOk P w T st.heap) (hp : pr [.ref sc] T (fun v _ => v = .bl true) fun _ _ _ => False) : codeAny (model P w) callerA (.call (.ref fl) ⟨[.ref sc], []⟩) (TrueOf st) st := by
  have off : ∀ {b : Addr} {o : Obj} {es : Array DictEntry} {n : Nat}, st.heap.get? b = some o → o.data = .dict es n → T b = none := fun {b o es n} e d => Z.off (.inl fun z => by
    rw [z, hS] at e
    cases e
    exact nomatch (show Data.seq vals.toArray _ = Data.dict es n from d))
  have ns : ∀ {b : Addr} {m : Str → Option Value}, st.heap.Ns b m → (hidT st.heap T).Ns b m := fun ⟨o, es, n, e, d, q⟩ => ⟨o, es, n, hidT_get e (off e d), d, q⟩
  have kb : K.In (hidT st.heap T) := fun b o e => hidT_get (hK b o e) (Z.off (by
    by_cases z : b = sc
    · right; rw [← z, e]; exact Option.some_ne_none _
    · exact .inl z))
  obtain ⟨mc, l1, l2⟩ := hN
  have e0 : Env0 P w K mg (hidT st.heap T) callerA [] st T :=
    ⟨rfl, ⟨kb, ns hG, ⟨mb, ns hB, hBB⟩, mc, ns l1, l2⟩, fun b o e => of_hidT e, Nat.le_of_eq (hidT_size _ _), trivial, fun b z => (List.not_mem_nil z).elim, tok, .of_eq hZ⟩
  refine codeAny_mono ((fn _ kb (ns hG)).go callerA [] st T ⟨[.ref sc], []⟩ [.ref sc] [.ref sc] _ _ room rfl e0 (bd st (.ref sc)) (.cons rfl .nil) hp) fun r u h => ?_
  match r, h with
  | .error e, h => exact (show False from h).elim
  | .ok .next, h => exact (show False from h).elim
  | .ok .brk, h => exact (show False from h).elim
  | .ok .cont, h => exact (show False from h).elim
  | .ok (.ret x), ⟨v, T', o1, o2, un, tok', rv, q⟩ =>
    have q' : v = .bl true := q
    subst q'
    obtain rfl : x = Value.bool true := rv
    refine ⟨rfl, OldK.of_keep fun b o e => ?_, o1, o2⟩
    rcases Z.only b with z | ⟨ob, xs, z⟩
    · exact un.keep b o e z (fun y => (List.not_mem_nil y).elim) (fun y => (List.not_mem_nil y).elim)
    · have a1 := (tok b _ z).1
      have a2 := (tok' b _ (un.frzs b ob _ z)).1
      rw [e] at a1
      cases a1
      exact a2
theorem lawG (hK : K.In st.heap) (hG : st.heap.Ns mainGlobals mg) (hB : st.heap.Ns builtinsNs mb) (hBB : ∀ y : Str, y ≠ "__name__" → mb y = bootBuiltins y) (hN : st.heap.NoLimit) (hZ : st.gens = #[])
    (hS : st.heap.get? sc = some { cls := .type "list", data := .seq vals.toArray }) (hI : IntsAre vals nums) (hL : nums.length ≤ sizeLine) (room : Room k callerA) (fn : ∀ b : Heap, K.In b → b.Ns mainGlobals mg → FnG P w K mg b k fl fd [px] pr)
    (bd : ∀ (s : Shared) (u : Value), BindsTo s fd ⟨[u], []⟩ [(px, u)]) (hp : ∀ T : Hp, Only T → SqL K T sc (nums.map V.int) → pr [.ref sc] T (fun v _ => v = .bl true) fun _ _ _ => False) :
    codeAny (model P w) callerA (.call (.ref fl) ⟨[.ref sc], []⟩) (TrueOf st) st := by
  have rel := vals_ints hI
  cases kq : K.lookup sc with
  | some o =>
    have e := hK sc o kq
    rw [hS] at e
    cases e
    refine lawT (T := fun _ => none) ⟨fun _ => .inl rfl, fun b z => (z rfl).elim⟩ hK hG hB hBB hN hZ hS room fn bd (fun b u z => nomatch (show (none : Option HO) = some u from z)) (hp _ (fun _ => .inl rfl) (.inr ⟨_, vals.toArray, _, kq, rfl, rfl, rfl, ?_, by simpa using rel⟩))
    rw [List.size_toArray, hI.length]
    exact hL
  | none =>
    have at_ : ∀ {b : Addr} {u : HO}, (if b = sc then some (HO.frz { cls := .type "list", data := .seq vals.toArray } (.lst (nums.map V.int))) else none) = some u → b = sc ∧ u = .frz { cls := .type "list", data := .seq vals.toArray } (.lst (nums.map V.int)) := fun {b u} z => by
      by_cases y : b = sc
      · rw [if_pos y] at z
        exact ⟨y, (Option.some.inj z).symm⟩
      · rw [if_neg y] at z
        cases z
    have on : Only fun b => if b = sc then some (HO.frz { cls := .type "list", data := .seq vals.toArray } (.lst (nums.map V.int))) else none := fun b => by
      by_cases y : b = sc
      · exact .inr ⟨_, _, if_pos y⟩
      · exact .inl (if_neg y)
    refine lawT ⟨on, fun b z => ?_⟩ hK hG hB hBB hN hZ hS room fn bd (fun b u z => ?_) (hp _ on (.inl (.inr ⟨_, if_pos rfl⟩)))
    · obtain ⟨u, e⟩ := Option.ne_none_iff_exists'.mp z
      exact ⟨(at_ e).1, kq⟩
    · obtain ⟨rfl, rfl⟩ := at_ z
      exact ⟨hS, by rw [List.length_map]; exact hL, vals, _, rel, hS⟩
end
section
variable {l : PySem.W.OpenLaw} {n k : Nat} {q : Program} {loose : List Str} {XP : (Str → Option Value) → Heap → Prop} {YP : World → Heap → Prop} {d : DefRec} {KP : Params → PySem.W.Frag} {pr : PySem.W.Frag → Sp} {px : Str}
/-- the goal behind the head, by the promise of the law's def -/
theorem walkG (h1 : l.most = some n) (h2 : n ≤ sizeLine) (h3 : d.params.defaults = []) (room : Room k callerA) (hY : ∀ (w : World) (h : Heap), YP w h → (KP w.params).In h)
    (hF : ∀ (w : World) (mg : Str → Option Value) (f : Addr) (h : Heap), (KP w.params).In h → h.Ns mainGlobals mg → mg d.name = some (.ref f) → ∃ fd : FuncData, (∀ (s : Shared) (u : Value), BindsTo s fd ⟨[u], []⟩ [(px, u)]) ∧
      ∀ b : Heap, (KP w.params).In b → b.Ns mainGlobals mg → FnG l.prog w (KP w.params) mg b k f fd [px] (pr (KP w.params)))
    (hp : ∀ (K : PySem.W.Frag) (H : Hp) (a : Addr) (ns : List Int), Only H → SqL K H a (ns.map V.int) → pr K [.ref a] H (fun v _ => v = .bl true) fun _ _ _ => False) :
    PySem.W.WalkO q loose XP YP l.row.toRowW d [] (fun f vs => PySem.call f vs) := by
  refine Att.attach_call h1 h3 fun w s0 st mg mb f o pm cd doc a vs ns G Y ho hd hcd hmg hobj hints hlen hg => ?_
  have hK := hY w _ Y
  obtain ⟨fd, bd, fn⟩ := hF w mg f _ hK G.T.g hmg
  exact lawG hK G.T.g G.T.b G.T.builtins G.T.nolimit hg hobj hints (Nat.le_trans hlen h2) room fn bd fun T z1 z2 => hp _ T a ns z1 z2
end
end DL
set_option Elab.async false
set_option linter.all false
set_option maxRecDepth 100000
set_option maxHeartbeats 4000000
/-! A1: the bag: k78's (and the whole-session laws') drawing defs. -/
namespace Lx
open PySem PySem.Spec PyProof.Rows L2 DL XS
local macro_rules | `(tactic| walk_at "sd") => `(tactic| first
  | assumption
  | exact .inl ⟨by decide, by decide⟩ | exact ⟨by decide, by decide, by decide⟩ | exact ⟨by decide, by decide⟩
  | (show (0 : Int) < _; first | decide | omega) | exact ⟨by omega, by omega⟩ | exact .inl ⟨by omega, by omega⟩ | exact .inr ⟨by omega, by omega⟩ | exact .inr ⟨by decide, by decide⟩ | omega)
local macro_rules | `(tactic| walk_at "ep") => `(tactic| first
  | exact ep_int | exact ep_str | exact ep_bl | exact ep_non | exact ep_ref | exact ep_ty
  | exact ep_var rfl
  | (refine' ep_ixM (.inr rfl) ?ka ?kr; (case ka => walk_at "ep"); (case kr => exact rfl))
  | (refine' ep_ixM (.inl rfl) ?ka ?kr; (case ka => walk_at "ep"); (case kr => exact rfl))
  | (refine' ep_op ?ka ?kb rd_I0i; (case ka => walk_at "ep"); (case kb => walk_at "ep"))
  | (refine' ep_op ?ka ?kb rd_I0b; (case ka => walk_at "ep"); (case kb => walk_at "ep"))
  | (refine' ep_op ?ka ?kb (rd_Ii ?sd); (case ka => walk_at "ep"); (case kb => walk_at "ep"); (case sd => walk_at "sd"))
  | (refine' ep_op ?ka ?kb rd_eqI; (case ka => walk_at "ep"); (case kb => walk_at "ep"))
  | (refine' ep_op ?ka ?kb rd_eqS; (case ka => walk_at "ep"); (case kb => walk_at "ep"))
  | (refine' ep_op ?ka ?kb rd_neI; (case ka => walk_at "ep"); (case kb => walk_at "ep"))
  | (refine' ep_op ?ka ?kb rd_neS; (case ka => walk_at "ep"); (case kb => walk_at "ep")))
local macro_rules | `(tactic| walk_at "et") => `(tactic| first
  | (refine' et_test ?ka; (case ka => walk_at "ep"))
  | (refine' et_not ?ka; (case ka => walk_at "et"))
  | (refine' et_and ?ka fun _ => ?kb; (case ka => walk_at "et"); (case kb => walk_at "et"))
  | (refine' et_or ?ka fun _ => ?kb; (case ka => walk_at "et"); (case kb => walk_at "et")))
def top (i : Nat) : Stmt := PySem.Challenge.pw_levelcolumns_k78_errors_made.main.body.getD i (.Pass ⟨0, 0, 0, 0⟩)
abbrev s__law_bag : Stmt := top 23
abbrev s__law_stirred : Stmt := top 24
abbrev s__law_draw : Stmt := top 25
theorem sc__law_bag : FnScope ["script", "stir", "cell"] ["script"] (defScope s__law_bag) := ⟨rfl, rfl, rfl, by decide +kernel, rfl, by decide +kernel, by decide +kernel⟩
theorem sc__law_stirred : FnScope ["bag", "many", "found", "k"] ["bag", "many"] (defScope s__law_stirred) := ⟨rfl, rfl, rfl, by decide +kernel, rfl, by decide +kernel, by decide +kernel⟩
theorem sc__law_draw : FnScope ["bag", "many", "found"] ["bag", "many"] (defScope s__law_draw) := ⟨rfl, rfl, rfl, by decide +kernel, rfl, by decide +kernel, by decide +kernel⟩
abbrev FnP (K : PySem.W.Frag) (x : Str) (st : Stmt) (f : Addr) (fd : FuncData) : Prop := FunD K x x (defArgs st) (defBody st) (defScope st) [] [] f fd
/-- the built-in names that the text leaves alone -/
structure Tx (mg : Str → Option Value) : Prop where
  z_len : mg "len" = none
  z_abs : mg "abs" = none
  z_range : mg "range" = none
  z_tuple : mg "tuple" = none
  z_list : mg "list" = none
  z_int : mg "int" = none
  z_bool : mg "bool" = none
  z_str : mg "str" = none
  z_all : mg "all" = none
  z_isinstance : mg "isinstance" = none
  z_ValueError : mg "ValueError" = none
/-- a bag: cells, place, what is held, the stir, how often -/
def bagD (cs : List Int) (p : Nat) (h s n : Int) : List D := [.lst (cs.map D.int), .int (p : Int), .int h, .int s, .int n]
def Bg (ds : List D) : Prop := ∃ (cs : List Int) (p : Nat) (h s n : Int), ds = bagD cs p h s n ∧ 0 ≤ s ∧ s < 2147483647
def C_bag (K : PySem.W.Frag) : CnF := fun es Rl => ∃ (a : Addr) (ns : List Int) (p : Prop), es = [.scr a ns p] ∧ (p → KLs K a (ns.map V.int)) ∧ Rl = Bg
theorem pss_assoc {X : Cx} {b : List Stmt} {t u v : TS} (h : PSs X b (tSeq t (tSeq u v))) : PSs X b (tSeq (tSeq t u) v) := h
/-- a number below m, the bag changed -/
def C_draw : Cn := fun Γ R => ∃ (ds : List D) (m : Int), Γ = [.lent ds, .sh (.int m)] ∧ Bg ds ∧ 1 ≤ m ∧ m ≤ 1000000 ∧ R = fun d Γ' => ∃ (r : Int) (ds' : List D), d = .int r ∧ 0 ≤ r ∧ r < m ∧ Γ' = [.lent ds', .sh (.int m)] ∧ Bg ds'
section
variable {P : Program} {w : World} {K : PySem.W.Frag} {mg : Str → Option Value} {base : Heap} {f : Addr} {fd : FuncData}
theorem ew_draw {Γ : List En} {i : Nat} {ds : List D} {m : Int} {ta : TA} {R : D → List En → Prop} (hm : Mt Γ i ds) (ha : EaP ta Γ [.int m]) (hb : Bg ds) (h1 : 1 ≤ m) (h2 : m ≤ 1000000)
    (hR : ∀ (r : Int) (ds' : List D), 0 ≤ r → r < m → Bg ds' → R (.int r) (pt Γ i ds')) : EvW (tCall (spE C_draw) [] E0 (tCons (tVar i) ta)) Γ R :=
  ew_call1 hm ha ⟨ds, m, rfl, hb, h1, h2, rfl⟩ fun e Γ' ⟨r, ds', e1, h3, h4, e2, h5⟩ => by
    subst e1 e2
    exact ⟨_, rfl, hR r ds' h3 h4 h5⟩
theorem cpow3w {x : Int} (h0 : 0 ≤ x) (h1 : x < 2147483647) : CPowW x 3 := by
  refine ⟨by decide, ?_⟩
  have h := PyProof.Rows.intBits_le (a := x) (k := 31) (by omega)
  omega
theorem ok_bag (T : Tx mg) (F : FnP K "_law_bag" s__law_bag f fd) : FnOk P w K mg base CX0 1 f fd ["script"] (spF (C_bag K)) := by
  refine fn_okF F sc__law_bag (fun es R ⟨a, ns, p, h, _⟩ => by subst h; rfl) fun cdv A outer s H E hr => ⟨_, _, pss_assoc (pss_cons (ps_set (i := 1) sc__law_bag.nd rfl (by first | exact Or.inl rfl | exact Or.inr rfl) pe_int)
      (pss_cons (ps_for PassesOwn.never rfl (pi_list (pe_slice sl_list (pv 0) po_none (po_some pe_int))) (pg_name (i := 2) sc__law_bag.nd rfl (by first | exact Or.inl rfl | exact Or.inr rfl)) (pss_one (ps_set (i := 1) sc__law_bag.nd rfl (by first | exact Or.inl rfl | exact Or.inr rfl) (pe_op op_mod (pe_op op_add (pe_op op_add (pe_op op_mul (pv 1) pe_int) (pe_op op_mod (pv 2) pe_int)) pe_int) pe_int))))
      (pss_one (ps_ret (pe_lst (pa_cons (pe_lc (own := [("cell", 2)]) (g := (gName 2)) (tt := tYes) rfl sc__law_bag.nd (pi_list (pe_slice sl_list (pv 0) po_none (po_some pe_int))) (blkOk_by (own := [("cell", 2)]) (N := ["script", "stir", "cell"]) (sc := defScope s__law_bag) (by decide +kernel)) (fun _ _ _ _ _ => (pg_name (i := 2) sc__law_bag.nd rfl (Or.inl rfl))) (fun _ _ _ _ _ => pts_nil) (fun _ _ _ _ _ => (pe_op op_mod (pe_callB call_abs rfl T.z_abs (by decide +kernel) (pa_cons (pv 2) pa_nil)) (pe_op op_powW (pe_op op_pow pe_int pe_int) pe_int)))) (pa_cons pe_int (pa_cons pe_int (pa_cons (pv 1) (pa_cons pe_int pa_nil)))))))))), ?_⟩
  rintro es Rl ⟨a, ns, p, rfl, hp, rfl⟩
  have hE : ∀ {Γ : List En}, Γ[0]? = some (.sh (.scr a ns p)) → EvF (tSl (rSlL K) (tVar 0) tNoPart (tPart (tC (.int 63)))) Γ ((ns.take 63).map D.int) := fun {Γ} h => ef_scrTo (n := 63) h hp
  refine ⟨fun Γ' => ∃ (s : Int) (e : En), Γ' = [.sh (.scr a ns p), .sh (.int s), e] ∧ 0 ≤ s ∧ s < 2147483647, ?_, ?_⟩
  · show SW _ [.sh (.scr a ns p), .un, .un] _
    refine q_asg (d := .int 131) ep_int ?_
    show SW _ [.sh (.scr a ns p), .sh (.int 131), .un] _
    refine sw_for (fun i Γ' => ∃ (s : Int) (e : En), Γ' = [.sh (.scr a ns p), .sh (.int s), e] ∧ 0 ≤ s ∧ s < 2147483647) (wi_list (hE rfl).p) ⟨131, .un, rfl, by decide, by decide⟩ ?_ fun Γ' h => h
    rintro i d Γi hdi ⟨s, e, rfl, h0, h1⟩
    rw [List.getElem?_map] at hdi
    obtain ⟨x, hx, rfl⟩ := Option.map_eq_some_iff.mp hdi
    refine ⟨_, gt_name, ?_⟩
    show SW _ [.sh (.scr a ns p), .sh (.int s), .sh (.int x)] _
    refine sw_asg (d := .int ((s * 48271 + x % 2147483629 + 1) % 2147483647)) (by walk_at "ep") ?_
    exact ⟨_, _, rfl, Int.emod_nonneg _ (by decide), Int.emod_lt_of_pos _ (by decide)⟩
  · rintro _ ⟨s, e, rfl, h0, h1⟩
    have hpw : CPowW ((10 : Int) ^ (60 : Int).toNat) 10 := ⟨by decide, by decide +kernel⟩
    refine EvF.r (ds := bagD ((ns.take 63).map fun x => (if x < 0 then -x else x) % ((10 : Int) ^ (60 : Int).toNat) ^ (10 : Int).toNat) 0 0 s 0) ?_ ⟨_, _, _, _, _, rfl, h0, h1⟩
    refine ef_lst (ea_cons (EvF.p ?_) (ea_cons ep_int (ea_cons ep_int (ea_cons (ep_var rfl) (ea_cons ep_int ea_nil))))) (by show 5 ≤ sizeLine; decide)
    rw [List.map_map]
    refine ef_map (ns.take 63) D.int _ (wi_list (hE rfl).p) (by rw [List.length_take]; exact Nat.lt_of_le_of_lt (Nat.min_le_left _ _) (by rw [sizeLine_eq]; decide)) fun x _ => ⟨_, gv_name (by decide), ?_⟩
    refine ep_op (ep_cb (ea_cons (ep_var (d := .int x) rfl) ea_nil) rc_int1) (ep_op (x := .int ((10 : Int) ^ (60 : Int).toNat)) (y := .int 10) (ep_op (x := .int 10) (y := .int 60) ep_int ep_int (rd_Ii ⟨by decide, by decide, by decide⟩)) ep_int (rd_Ii hpw)) (rd_Ii ?_)
    decide +kernel
theorem ok_stirred (T : Tx mg) (F : FnP K "_law_stirred" s__law_stirred f fd) : FnOk P w K mg base CX0 1 f fd ["bag", "many"] (spE C_draw) := by
  refine fn_ok F sc__law_stirred (fun Γ R ⟨ds, m, h, _⟩ => by subst h; rfl) fun cdv A outer s H E hr => ⟨_, (pss_cons (ps_set (i := 2) sc__law_stirred.nd rfl (by first | exact Or.inl rfl | exact Or.inr rfl) pe_int)
      (pss_cons (ps_for PassesOwn.never rfl (pi_range1 rfl T.z_range (pa_cons (pe_op op_add pe_int (pe_op op_fdiv (pe_bits (pv 1)) pe_int)) pa_nil)) (pg_name (i := 3) sc__law_stirred.nd rfl (by first | exact Or.inl rfl | exact Or.inr rfl)) (pss_cons (ps_asg (pe_op op_add (pe_ix ix_list (pv 0) pe_int (fun _ _ => rfl)) pe_int) (pg_sub (pv 0) pe_int set_list))
      (pss_cons (ps_asg (pe_op op_mod (pe_op op_add (pe_op op_add (pe_op op_add (pe_op op_powW (pe_ix ix_list (pv 0) pe_int (fun _ _ => rfl)) pe_int) (pe_op op_mul pe_int (pe_ix ix_list (pv 0) pe_int (fun _ _ => rfl)))) (pe_op op_mul pe_int (pe_ix ix_list (pv 0) pe_int (fun _ _ => rfl)))) pe_int) pe_int) (pg_sub (pv 0) pe_int set_list))
      (pss_one (ps_set (i := 2) sc__law_stirred.nd rfl (by first | exact Or.inl rfl | exact Or.inr rfl) (pe_op op_add (pe_op op_mul (pv 2) pe_int) (pe_op op_fdiv (pe_ix ix_list (pv 0) pe_int (fun _ _ => rfl)) pe_int)))))))
      (pss_one (ps_ret (pe_op op_mod (pv 2) (pv 1)))))), ?_⟩
  rintro Γ R ⟨ds, m, rfl, hb, hm1, hm2, rfl⟩ _
  show SW _ [.lent ds, .sh (.int m), .un, .un] _
  refine q_asg (d := .int 0) ep_int ?_
  show SW _ [.lent ds, .sh (.int m), .sh (.int 0), .un] _
  have hbits : Builtin.Int.intBits m ≤ 20 := PyProof.Rows.intBits_le (by omega)
  refine sw_seq (fun Γ' => ∃ (ds : List D) (x : Int) (e : En), Γ' = [.lent ds, .sh (.int m), .sh (.int x), e] ∧ Bg ds)
    (sw_for (fun i Γ' => ∃ (ds : List D) (x : Int) (e : En), Γ' = [.lent ds, .sh (.int m), .sh (.int x), e] ∧ Bg ds) (wi_rng1 (n := 1 + ((Builtin.Int.intBits m : Nat) : Int) / 27) (ea_cons ?_ ea_nil) (by omega) (by omega)) ⟨ds, 0, .un, rfl, hb⟩ ?_ fun Γ' h => h) ?_
  · refine ep_op ep_int (ep_op (x := .int (Builtin.Int.intBits m : Nat)) (fun c F H σ G Q k => ep_var (d := .int m) rfl c F H σ G _ fun v F1 H1 S r => ?_) ep_int (rd_Ii ⟨by decide, by decide⟩)) rd_I0i
    exact ⟨m, r, k _ F1 H1 S rfl⟩
  · rintro i d Γi hdi ⟨ds, x, e, rfl, cs, p, h, s, n, rfl, hs0, hs1⟩
    have hd : ∃ j : Int, d = .int j := by
      have hi : i < (rgD 0 (1 + ((Builtin.Int.intBits m : Nat) : Int) / 27).toNat).length := (List.getElem?_eq_some_iff.mp hdi).1
      rw [rgD_len] at hi
      rw [rgD_get hi] at hdi
      exact ⟨_, (Option.some.inj hdi).symm⟩
    obtain ⟨j, rfl⟩ := hd
    refine ⟨_, gt_name, ?_⟩
    show SW _ [.lent (bagD cs p h s n), .sh (.int m), .sh (.int x), .sh (.int j)] _
    refine q_setM (d := .int (n + 1)) (j := 4) (n := 4) (by walk_at "ep") (.inr rfl) ep_int rfl ?_
    show SW _ [.lent (bagD cs p h s (n + 1)), .sh (.int m), .sh (.int x), .sh (.int j)] _
    have hpw := cpow3w hs0 hs1
    refine q_setM (d := .int ((s ^ (3 : Int).toNat + 69621 * s + 1031 * (n + 1) + 1) % 2147483647)) (j := 3) (n := 3) (by walk_at "ep") (.inr rfl) ep_int rfl ?_
    show SW _ [.lent (bagD cs p h ((s ^ (3 : Int).toNat + 69621 * s + 1031 * (n + 1) + 1) % 2147483647) (n + 1)), .sh (.int m), .sh (.int x), .sh (.int j)] _
    have g0 : 0 ≤ (s ^ (3 : Int).toNat + 69621 * s + 1031 * (n + 1) + 1) % 2147483647 := Int.emod_nonneg _ (by decide)
    have g1 : (s ^ (3 : Int).toNat + 69621 * s + 1031 * (n + 1) + 1) % 2147483647 < 2147483647 := Int.emod_lt_of_pos _ (by decide)
    generalize (s ^ (3 : Int).toNat + 69621 * s + 1031 * (n + 1) + 1) % 2147483647 = s2 at g0 g1
    refine sw_asg (d := .int (x * 134217728 + s2 / 16)) (by walk_at "ep") ?_
    exact ⟨_, _, _, rfl, _, _, _, _, _, rfl, g0, g1⟩
  · rintro _ ⟨ds, x, e, rfl, hb⟩
    refine sw_ret (d := .int (x % m)) (by walk_at "ep") ⟨⟨_, ds, rfl, Int.emod_nonneg _ (by omega), Int.emod_lt_of_pos _ (by omega), rfl, hb⟩, trivial⟩
theorem ok_draw (T : Tx mg) (c__law_stirred : Cal P w K mg base 1 "_law_stirred" (spE C_draw)) (F : FnP K "_law_draw" s__law_draw f fd) : FnOk P w K mg base CX0 2 f fd ["bag", "many"] (spE C_draw) := by
  refine fn_ok F sc__law_draw (fun Γ R ⟨ds, m, h, _⟩ => by subst h; rfl) fun cdv A outer s H E hr => ⟨_, (pss_cons (ps_if (PW.pt (pw_and (pt_cmpR op_eq (pe_ix ix_list (pv 0) pe_int (fun _ _ => rfl)) pe_int (nomark _)) (pw_and1 (pt_cmpR op_lt (pe_ix ix_list (pv 0) pe_int (fun _ _ => rfl)) (pe_callB call_len_seq rfl T.z_len (by decide +kernel) (pa_cons (pe_ix ix_list (pv 0) pe_int (fun _ _ => rfl)) pa_nil)) (nomark _))))) (pss_cons (ps_asg (pe_ix ix_list (pe_ix ix_list (pv 0) pe_int (fun _ _ => rfl)) (pe_ix ix_list (pv 0) pe_int (fun _ _ => rfl)) (fun _ _ => rfl)) (pg_sub (pv 0) pe_int set_list))
      (pss_one (ps_asg (pe_op op_add (pe_ix ix_list (pv 0) pe_int (fun _ _ => rfl)) pe_int) (pg_sub (pv 0) pe_int set_list)))) (pss_one (ps_if (pt_cmpR op_eq (pe_ix ix_list (pv 0) pe_int (fun _ _ => rfl)) pe_int (nomark _)) (pss_one (ps_ret (pe_c c__law_stirred hr (by first | decide | omega) rfl (pa_cons (pv 0) (pa_cons (pv 1) pa_nil))))) pss_nil)))
      (pss_cons (ps_set (i := 2) sc__law_draw.nd rfl (by first | exact Or.inl rfl | exact Or.inr rfl) (pe_op op_mod (pe_ix ix_list (pv 0) pe_int (fun _ _ => rfl)) (pv 1)))
      (pss_cons (ps_asg (pe_op op_fdiv (pe_ix ix_list (pv 0) pe_int (fun _ _ => rfl)) (pv 1)) (pg_sub (pv 0) pe_int set_list))
      (pss_one (ps_ret (pv 2)))))), ?_⟩
  rintro Γ R ⟨_, m, rfl, ⟨cs, p, h, s, n, rfl, hs0, hs1⟩, hm1, hm2, rfl⟩ _
  show SW _ [.lent (bagD cs p h s n), .sh (.int m), .un] _
  have hlen : EvP (tCB (rLenS K) (tCons (tOp (rIxL K) (tVar 0) (tC (.int 0))) tNil)) [.lent (bagD cs p h s n), .sh (.int m), .un] (.int cs.length) := (ep_cb (ea_cons (ep_ixM (.inr rfl) (n := 0) (d := .lst (cs.map D.int)) ep_int rfl) ea_nil) rc_len).cast (by rw [List.length_map])
  refine sw_seq (fun Γ' => ∃ (p : Nat) (h : Int), Γ' = [.lent (bagD cs p h s n), .sh (.int m), .un])
    (sw_if (b := decide (h = 0) && decide ((p : Int) < (cs.length : Nat))) (et_and (et_test (ep_op (ep_ixM (.inr rfl) (n := 2) (d := .int h) ep_int rfl) ep_int rd_eqI)) fun _ => et_test (ep_op (ep_ixM (.inr rfl) (n := 1) (d := .int (p : Int)) ep_int rfl) hlen rd_I0b)) (fun hb => ?_) fun hb => ?_) ?_
  · have hp : p < cs.length := by
      have := (Bool.and_eq_true_iff.mp hb).2
      have := of_decide_eq_true this
      omega
    refine q_setM (d := .int cs[p]) (j := 2) (n := 2) ?_ (.inr rfl) ep_int rfl ?_
    · refine ep_op (ep_ixM (.inr rfl) (n := 0) (d := .lst (cs.map D.int)) ep_int rfl) (ep_ixM (.inr rfl) (n := 1) (d := .int (p : Int)) ep_int rfl) (rd_ixL (atI_nat ?_))
      rw [List.getElem?_map, List.getElem?_eq_getElem hp]; rfl
    · show SW _ [.lent (bagD cs p cs[p] s n), .sh (.int m), .un] _
      refine sw_setM (d := .int ((p : Int) + 1)) (j := 1) (n := 1) (by walk_at "ep") (.inr rfl) ep_int rfl ?_
      exact ⟨p + 1, cs[p], rfl⟩
  · refine sw_if (b := decide (h = 0)) (et_test (ep_op (ep_ixM (.inr rfl) (n := 2) (d := .int h) ep_int rfl) ep_int rd_eqI)) (fun _ => ?_) fun _ => sw_next ⟨p, h, rfl⟩
    refine sw_retW ?_
    refine ew_draw (ds := bagD cs p h s n) (m := m) (.inr rfl) (ea_cons (ep_var rfl) ea_nil) ⟨cs, p, h, s, n, rfl, hs0, hs1⟩ hm1 hm2 fun r ds' h0 h1 hb => ?_
    exact ⟨⟨r, ds', rfl, h0, h1, rfl, hb⟩, trivial⟩
  · rintro _ ⟨p, h, rfl⟩
    refine q_asg (d := .int (h % m)) (by walk_at "ep") ?_
    show SW _ [.lent (bagD cs p h s n), .sh (.int m), .sh (.int (h % m))] _
    refine q_setM (d := .int (h / m)) (j := 2) (n := 2) (by walk_at "ep") (.inr rfl) ep_int rfl ?_
    show SW _ [.lent (bagD cs p (h / m) s n), .sh (.int m), .sh (.int (h % m))] _
    exact sw_ret (ep_var rfl) ⟨⟨_, _, rfl, Int.emod_nonneg _ (by omega), Int.emod_lt_of_pos _ (by omega), rfl, _, _, _, _, _, rfl, hs0, hs1⟩, trivial⟩
end
end Lx
set_option Elab.async false
set_option linter.all false
set_option maxRecDepth 100000
set_option maxHeartbeats 4000000
/-! A2: _law_alike, _law_of. -/
namespace Lx
open PySem PySem.Spec PyProof.Rows L2 DL XS
abbrev s__law_alike : Stmt := top 26
abbrev s__law_of : Stmt := top 27
theorem sc__law_alike : FnScope ["found", "due", "k"] ["found", "due"] (defScope s__law_alike) := ⟨rfl, rfl, rfl, by decide +kernel, rfl, by decide +kernel, by decide +kernel⟩
theorem sc__law_of : FnScope ["made", "found"] ["made"] (defScope s__law_of) := ⟨rfl, rfl, rfl, by decide +kernel, rfl, by decide +kernel, by decide +kernel⟩
/-- ints, lists and tuples of them, at most n deep -/
inductive Al : Nat → D → Prop where
  | int {n : Nat} {i : Int} : Al n (.int i)
  | lst {n : Nat} {ds : List D} (l : ds.length ≤ 1000) (h : ∀ d ∈ ds, Al n d) : Al (n + 1) (.lst ds)
  | tup {n : Nat} {ds : List D} (l : ds.length ≤ 1000) (h : ∀ d ∈ ds, Al n d) : Al (n + 1) (.tup ds)
def C_alike (N : Nat) : Cn := fun Γ R => ∃ (x : D) (n : Nat), Γ = [.sh x, .sh x] ∧ Al n x ∧ n < N ∧ R = fun d Γ' => d = .bl true
def ex20 : List Str := ["InvalidLeaf", "InvalidNode", "InvalidNeeded", "InvalidLengths", "InvalidTest", "InvalidAsk", "InvalidMask", "InvalidPath", "InvalidPart", "InvalidField", "InvalidPage", "InvalidNumber", "TooLarge", "NothingToUndo", "InvalidText", "InvalidTable", "NotEnough", "InvalidColumns", "NotFitting", "NotSingle"]
def exAll : List Str := "ColumnError" :: ex20
def exNs : List Str := "ColumnError" :: ex20.take 14
/-- the own exceptions, their classes at cA -/
structure Xs (K : PySem.W.Frag) (mg : Str → Option Value) (cA : Str → Addr) : Prop where
  g_ : ∀ x ∈ exAll, ∃ u, mg x = some u ∧ RelV (.ref (cA x)) u
  n_ : ∀ x ∈ exNs, MakN K mg x (cA x)
  cc : ∀ x ∈ exAll, ExcC K (cA x)
  k : ∀ x ∈ exAll, ∀ y ∈ ex20, PySem.W.kitOne K (.ref (cA x)) (.ref (cA y)) = some (decide (x = y))
  kC : ∀ x ∈ ex20, PySem.W.kitOne K (.ref (cA x)) (.ref (cA "ColumnError")) = some true
  kV : ∀ x ∈ ex20, PySem.W.kitOne K (.ref (cA x)) (.type "ValueError") = some true
  xf : ∀ x ∈ exAll, XfC K (cA x)
def C_of (cA : Str → Addr) : Cn := fun Γ R => ∃ (x : Str) (d : D), Γ = [.sh d] ∧ x ∈ exAll ∧ IsX (cA x) d ∧ R = fun e Γ' => e = .lst ((ex20.map fun y => decide (x = y)).map D.bl)
section
variable {P : Program} {w : World} {K : PySem.W.Frag} {mg : Str → Option Value} {base : Heap} {f : Addr} {fd : FuncData} {cA : Str → Addr}
theorem fn_none {C : Cn} (h : ∀ Γ R, ¬ C Γ R) {k : Nat} {ps : List Str} : FnOk P w K mg base CX0 k f fd ps (spE C) :=
  ⟨fun vs H Q E ⟨_, _, _, _, _, _, hC, _⟩ => absurd hC (h _ _), fun A outer s H args us vs Q E _ _ _ _ ⟨_, _, _, _, _, _, hC, _⟩ => absurd hC (h _ _)⟩
theorem ok_alike (T : Tx mg) (F : FnP K "_law_alike" s__law_alike f fd) (kf : PySem.W.keepIn K (.ref f) = true) (mf : mg "_law_alike" = some (.ref f)) (bf : Binds K fd ["found", "due"] []) :
    ∀ N : Nat, FnOk P w K mg base CX0 (N + 1) f fd ["found", "due"] (spE (C_alike N))
  | 0 => fn_none fun Γ R ⟨x, n, _, _, h, _⟩ => absurd h (Nat.not_lt_zero _)
  | N + 1 => by
    have ih := ok_alike T F kf mf bf N
    have c__law_alike : Cal P w K mg base (N + 1) "_law_alike" (spE (C_alike N)) := ⟨f, fd, _, ih, mf, kf, bf⟩
    refine fn_ok F sc__law_alike (fun Γ R ⟨x, n, h, _⟩ => by subst h; rfl) fun cdv A outer s H E hr => ⟨_, (pss_cons (ps_if (pt_val (pe_callB call_isiT rfl T.z_isinstance (by decide +kernel) (pa_cons (pv 1) (pa_cons (pe_tup (pa_cons (pe_bltn (v := .ty "list") rfl T.z_list (by decide +kernel) rfl) (pa_cons (pe_bltn (v := .ty "tuple") rfl T.z_tuple (by decide +kernel) rfl) pa_nil))) pa_nil)))) (pss_cons (ps_if (PW.pt (pw_or (pt_not (pt_val (pe_callB call_isiT rfl T.z_isinstance (by decide +kernel) (pa_cons (pv 0) (pa_cons (pe_tup (pa_cons (pe_bltn (v := .ty "list") rfl T.z_list (by decide +kernel) rfl) (pa_cons (pe_bltn (v := .ty "tuple") rfl T.z_tuple (by decide +kernel) rfl) pa_nil))) pa_nil))))) (pw_or1 (pt_cmpR op_ne (pe_callB call_isi rfl T.z_isinstance (by decide +kernel) (pa_cons (pv 0) (pa_cons (pe_bltn (v := .ty "list") rfl T.z_list (by decide +kernel) rfl) pa_nil))) (pe_callB call_isi rfl T.z_isinstance (by decide +kernel) (pa_cons (pv 1) (pa_cons (pe_bltn (v := .ty "list") rfl T.z_list (by decide +kernel) rfl) pa_nil))) (nomark _))))) (pss_one (ps_ret pe_bl)) pss_nil)
      (pss_cons (ps_if (pt_cmpR op_ne (pe_callB call_len_seq rfl T.z_len (by decide +kernel) (pa_cons (pv 0) pa_nil)) (pe_callB call_len_seq rfl T.z_len (by decide +kernel) (pa_cons (pv 1) pa_nil)) (nomark _)) (pss_one (ps_ret pe_bl)) pss_nil)
      (pss_one (ps_ret (pe_callB (cr_all rfl) rfl T.z_all (by decide +kernel) (pa_cons (pe_lc (own := [("k", 2)]) (g := (gName 2)) (tt := tYes) rfl sc__law_alike.nd (pi_range1 rfl T.z_range (pa_cons (pe_callB call_len_seq rfl T.z_len (by decide +kernel) (pa_cons (pv 1) pa_nil)) pa_nil)) (blkOk_by (own := [("k", 2)]) (N := ["found", "due", "k"]) (sc := defScope s__law_alike) (by decide +kernel)) (fun _ _ _ _ _ => (pg_name (i := 2) sc__law_alike.nd rfl (Or.inl rfl))) (fun _ _ _ _ _ => pts_nil) (fun _ _ _ _ _ => (pe_c c__law_alike hr (by first | decide | omega) rfl (pa_cons (pe_ix (show IxR _ (rIxLT K) from ix_seq) (pv 0) (pv 2) (fun _ _ => rfl)) (pa_cons (pe_ix (show IxR _ (rIxLT K) from ix_seq) (pv 1) (pv 2) (fun _ _ => rfl)) pa_nil))))) pa_nil)))))) pss_nil)
      (pss_cons (ps_if (PW.pt (pw_or (pt_cmpR op_ne (pe_callB call_isi rfl T.z_isinstance (by decide +kernel) (pa_cons (pv 0) (pa_cons (pe_bltn (v := .ty "bool") rfl T.z_bool (by decide +kernel) rfl) pa_nil))) (pe_callB call_isi rfl T.z_isinstance (by decide +kernel) (pa_cons (pv 1) (pa_cons (pe_bltn (v := .ty "bool") rfl T.z_bool (by decide +kernel) rfl) pa_nil))) (nomark _)) (pw_or1 (pt_cmpR op_ne (pe_callB call_isi rfl T.z_isinstance (by decide +kernel) (pa_cons (pv 0) (pa_cons (pe_bltn (v := .ty "int") rfl T.z_int (by decide +kernel) rfl) pa_nil))) (pe_callB call_isi rfl T.z_isinstance (by decide +kernel) (pa_cons (pv 1) (pa_cons (pe_bltn (v := .ty "int") rfl T.z_int (by decide +kernel) rfl) pa_nil))) (nomark _))))) (pss_one (ps_ret pe_bl)) pss_nil)
      (pss_one (ps_ret (pe_and (pe_cmpR op_eq (pe_callB call_isi rfl T.z_isinstance (by decide +kernel) (pa_cons (pv 0) (pa_cons (pe_bltn (v := .ty "str") rfl T.z_str (by decide +kernel) rfl) pa_nil))) (pe_callB call_isi rfl T.z_isinstance (by decide +kernel) (pa_cons (pv 1) (pa_cons (pe_bltn (v := .ty "str") rfl T.z_str (by decide +kernel) rfl) pa_nil))) (nomark _)) (pe_one (pe_cmpR (op_eqD hr.units) (pv 0) (pv 1) (nomark _)))))))), ?_⟩
    rintro Γ R ⟨x, n, rfl, ha, hn, rfl⟩ _
    show SW _ [.sh x, .sh x, .un] _
    have isT : ∀ {i : Nat} {Γ : List En} {m : String} {b1 b2 b : Bool}, Γ[i]? = some (.sh x) → tyD x = some (.type m) → noObj x = true → kitB m "list" = some b1 → kitB m "tuple" = some b2 → (b1 || b2) = b → EvP (tCB (rIsiT K) (tCons (tVar i) (tCons (tTup (tCons (tC (.ty "list")) (tCons (tC (.ty "tuple")) tNil))) tNil))) Γ (.bl b) := fun {i Γ m b1 b2 b} h1 h2 h3 h4 h5 h6 =>
      ep_cb (ea_cons (ep_var h1) (ea_cons (ep_tup (ea_cons ep_ty (ea_cons ep_ty ea_nil)) (by show 2 ≤ sizeLine; decide)) ea_nil)) (rc_isT h2 h3 h4 h5 h6)
    have isB : ∀ {i : Nat} {Γ : List En} {m n : String} {b : Bool}, Γ[i]? = some (.sh x) → tyD x = some (.type m) → noObj x = true → kitB m n = some b → EvP (tCB (rIsi K) (tCons (tVar i) (tCons (tC (.ty n)) tNil))) Γ (.bl b) := fun {i Γ m n b} h1 h2 h3 h4 =>
      ep_cb (ea_cons (ep_var h1) (ea_cons ep_ty ea_nil)) (rc_isB h2 h3 h4)
    have sh : (∃ i, x = .int i) ∨ ∃ (m : String) (bl : Bool) (ds : List D) (n : Nat), tyD x = some (.type m) ∧ noObj x = true ∧ kitB m "list" = some bl ∧ kitB m "tuple" = some (!bl) ∧ RC (rLenS K) [x] (.int ds.length) ∧ (∀ (i : Nat) d, ds[i]? = some d → RD (rIxLT K) x (.int (i : Nat)) d) ∧ ds.length ≤ 1000 ∧ (∀ d ∈ ds, Al n d) ∧ n < N := by
      cases ha with
      | @int _ i => exact .inl ⟨i, rfl⟩
      | @lst n ds hl h => exact .inr ⟨"list", true, ds, n, rfl, rfl, by decide +kernel, by decide +kernel, rc_len, fun i d e => rd_ixLl (atI_nat e), hl, h, by omega⟩
      | @tup n ds hl h => exact .inr ⟨"tuple", false, ds, n, rfl, rfl, by decide +kernel, by decide +kernel, rc_lenT, fun i d e => rd_ixLt (atI_nat e), hl, h, by omega⟩
    rcases sh with ⟨i, rfl⟩ | ⟨m, bl, ds, n, q1, q2, q3, q4, q5, q6, q7, q8, q9⟩
    · have kl : kitB "int" "list" = some false := by decide +kernel
      have kt : kitB "int" "tuple" = some false := by decide +kernel
      have kb : kitB "int" "bool" = some false := by decide +kernel
      have ki : kitB "int" "int" = some true := by decide +kernel
      have ks : kitB "int" "str" = some false := by decide +kernel
      refine sw_guard (b := false) (et_B (isT (m := "int") rfl rfl rfl kl kt rfl)) (fun z => by cases z) fun _ => ?_
      refine sw_guard (b := false) (EtP.cast (et_or (et_test (ep_op (isB (m := "int") rfl rfl rfl kb) (isB (m := "int") rfl rfl rfl kb) rd_neB)) fun _ => et_test (ep_op (isB (m := "int") rfl rfl rfl ki) (isB (m := "int") rfl rfl rfl ki) rd_neB)) rfl) (fun z => by cases z) fun _ => ?_
      refine sw_ret (d := .bl true) (EvP.cast (ep_and (ep_op (isB (m := "int") rfl rfl rfl ks) (isB (m := "int") rfl rfl rfl ks) rd_eqB) fun _ => ep_op (ep_var rfl) (ep_var rfl) (rd_eqD rfl rfl rfl rfl)) ?_) ⟨rfl, trivial⟩
      show D.bl (true && (i == i)) = _
      simp
    · refine sw_guard (b := true) (et_B (isT rfl q1 q2 q3 q4 (by cases bl <;> rfl))) (fun _ => ?_) (fun z => by cases z)
      refine sw_guard (b := false) (EtP.cast (et_or (et_not (et_B (isT rfl q1 q2 q3 q4 (b := true) (by cases bl <;> rfl)))) fun _ => et_test (ep_op (isB rfl q1 q2 q3) (isB rfl q1 q2 q3) rd_neB)) (by cases bl <;> rfl)) (fun z => by cases z) fun _ => ?_
      refine sw_guard (b := false) (EtP.cast (et_test (ep_op (ep_cb (ea_cons (ep_var rfl) ea_nil) q5) (ep_cb (ea_cons (ep_var rfl) ea_nil) q5) rd_neI)) (by simp)) (fun z => by cases z) fun _ => ?_
      refine sw_ret (d := .bl true) (EvP.cast (ep_cb (ea_cons (EvF.p (EvF.cast (ef_map (List.range ds.length) (fun i : Nat => D.int (0 + (i : Int))) (fun _ => D.bl true) ?_ ?_ fun i hi => ⟨_, gv_name (by decide), ?_⟩) ?_)) ea_nil) (rc_all (bs := (List.range ds.length).map fun _ => true))) ?_) ⟨rfl, trivial⟩
      · have h := wi_rng1 (Γ := [.sh x, .sh x, .un]) (ea_cons (ep_cb (ea_cons (ep_var (i := 1) (d := x) rfl) ea_nil) q5) ea_nil) (by omega) (by omega)
        rw [Int.toNat_natCast] at h
        exact h
      · rw [List.length_range, sizeLine_eq]; omega
      · have hi' := List.mem_range.mp hi
        have hx := List.getElem?_eq_getElem hi'
        have q6' := q6 i _ hx
        have e0 : (0 : Int) + (i : Int) = (i : Int) := by omega
        rw [e0]
        exact ep_call (ea_cons (ep_op (ep_var (d := x) rfl) (ep_var (d := .int (i : Int)) rfl) q6') (ea_cons (ep_op (ep_var (d := x) rfl) (ep_var (d := .int (i : Int)) rfl) q6') ea_nil)) ⟨_, n, rfl, q8 _ (List.getElem_mem hi'), q9, rfl⟩ fun e Γ' h => h
      · rw [List.map_map]; rfl
      · congr 1
        rw [List.all_map, List.all_eq_true]
        intro i hi; rfl
theorem ok_of (T : Tx mg) (XX : Xs K mg cA) (F : FnP K "_law_of" s__law_of f fd) : FnOk P w K mg base CX0 1 f fd ["made"] (spE (C_of cA)) := by
  refine fn_ok F sc__law_of (fun Γ R ⟨x, d, h, _⟩ => by subst h; rfl) fun cdv A outer s H E hr => ⟨_, (pss_cons (ps_set (i := 1) sc__law_of.nd rfl (by first | exact Or.inl rfl | exact Or.inr rfl) (pe_lst (pa_cons (pe_callB call_isX rfl T.z_isinstance (by decide +kernel) (pa_cons (pv 0) (pa_cons (pe_gc rfl (XX.g_ "InvalidLeaf" (by decide))) pa_nil))) (pa_cons (pe_callB call_isX rfl T.z_isinstance (by decide +kernel) (pa_cons (pv 0) (pa_cons (pe_gc rfl (XX.g_ "InvalidNode" (by decide))) pa_nil))) (pa_cons (pe_callB call_isX rfl T.z_isinstance (by decide +kernel) (pa_cons (pv 0) (pa_cons (pe_gc rfl (XX.g_ "InvalidNeeded" (by decide))) pa_nil))) pa_nil)))))
      (pss_cons (ps_set (i := 1) sc__law_of.nd rfl (by first | exact Or.inl rfl | exact Or.inr rfl) (pe_op op_cat (pv 1) (pe_lst (pa_cons (pe_callB call_isX rfl T.z_isinstance (by decide +kernel) (pa_cons (pv 0) (pa_cons (pe_gc rfl (XX.g_ "InvalidLengths" (by decide))) pa_nil))) (pa_cons (pe_callB call_isX rfl T.z_isinstance (by decide +kernel) (pa_cons (pv 0) (pa_cons (pe_gc rfl (XX.g_ "InvalidTest" (by decide))) pa_nil))) (pa_cons (pe_callB call_isX rfl T.z_isinstance (by decide +kernel) (pa_cons (pv 0) (pa_cons (pe_gc rfl (XX.g_ "InvalidAsk" (by decide))) pa_nil))) pa_nil))))))
      (pss_cons (ps_set (i := 1) sc__law_of.nd rfl (by first | exact Or.inl rfl | exact Or.inr rfl) (pe_op op_cat (pv 1) (pe_lst (pa_cons (pe_callB call_isX rfl T.z_isinstance (by decide +kernel) (pa_cons (pv 0) (pa_cons (pe_gc rfl (XX.g_ "InvalidMask" (by decide))) pa_nil))) (pa_cons (pe_callB call_isX rfl T.z_isinstance (by decide +kernel) (pa_cons (pv 0) (pa_cons (pe_gc rfl (XX.g_ "InvalidPath" (by decide))) pa_nil))) (pa_cons (pe_callB call_isX rfl T.z_isinstance (by decide +kernel) (pa_cons (pv 0) (pa_cons (pe_gc rfl (XX.g_ "InvalidPart" (by decide))) pa_nil))) pa_nil))))))
      (pss_cons (ps_set (i := 1) sc__law_of.nd rfl (by first | exact Or.inl rfl | exact Or.inr rfl) (pe_op op_cat (pv 1) (pe_lst (pa_cons (pe_callB call_isX rfl T.z_isinstance (by decide +kernel) (pa_cons (pv 0) (pa_cons (pe_gc rfl (XX.g_ "InvalidField" (by decide))) pa_nil))) (pa_cons (pe_callB call_isX rfl T.z_isinstance (by decide +kernel) (pa_cons (pv 0) (pa_cons (pe_gc rfl (XX.g_ "InvalidPage" (by decide))) pa_nil))) (pa_cons (pe_callB call_isX rfl T.z_isinstance (by decide +kernel) (pa_cons (pv 0) (pa_cons (pe_gc rfl (XX.g_ "InvalidNumber" (by decide))) pa_nil))) pa_nil))))))
      (pss_cons (ps_set (i := 1) sc__law_of.nd rfl (by first | exact Or.inl rfl | exact Or.inr rfl) (pe_op op_cat (pv 1) (pe_lst (pa_cons (pe_callB call_isX rfl T.z_isinstance (by decide +kernel) (pa_cons (pv 0) (pa_cons (pe_gc rfl (XX.g_ "TooLarge" (by decide))) pa_nil))) (pa_cons (pe_callB call_isX rfl T.z_isinstance (by decide +kernel) (pa_cons (pv 0) (pa_cons (pe_gc rfl (XX.g_ "NothingToUndo" (by decide))) pa_nil))) (pa_cons (pe_callB call_isX rfl T.z_isinstance (by decide +kernel) (pa_cons (pv 0) (pa_cons (pe_gc rfl (XX.g_ "InvalidText" (by decide))) pa_nil))) pa_nil))))))
      (pss_cons (ps_set (i := 1) sc__law_of.nd rfl (by first | exact Or.inl rfl | exact Or.inr rfl) (pe_op op_cat (pv 1) (pe_lst (pa_cons (pe_callB call_isX rfl T.z_isinstance (by decide +kernel) (pa_cons (pv 0) (pa_cons (pe_gc rfl (XX.g_ "InvalidTable" (by decide))) pa_nil))) (pa_cons (pe_callB call_isX rfl T.z_isinstance (by decide +kernel) (pa_cons (pv 0) (pa_cons (pe_gc rfl (XX.g_ "NotEnough" (by decide))) pa_nil))) (pa_cons (pe_callB call_isX rfl T.z_isinstance (by decide +kernel) (pa_cons (pv 0) (pa_cons (pe_gc rfl (XX.g_ "InvalidColumns" (by decide))) pa_nil))) pa_nil))))))
      (pss_one (ps_ret (pe_op op_cat (pv 1) (pe_lst (pa_cons (pe_callB call_isX rfl T.z_isinstance (by decide +kernel) (pa_cons (pv 0) (pa_cons (pe_gc rfl (XX.g_ "NotFitting" (by decide))) pa_nil))) (pa_cons (pe_callB call_isX rfl T.z_isinstance (by decide +kernel) (pa_cons (pv 0) (pa_cons (pe_gc rfl (XX.g_ "NotSingle" (by decide))) pa_nil))) pa_nil)))))))))))), ?_⟩
  rintro Γ R ⟨x, d, rfl, hx, hd, rfl⟩ _
  show SW _ [.sh d, .un] _
  have is : ∀ {y : Str} {Γ : List En}, Γ[0]? = some (.sh d) → y ∈ ex20 → EvP (tCB (rIsX K) (tCons (tVar 0) (tCons (tC (.ref (cA y))) tNil))) Γ (.bl (decide (x = y))) := fun {y Γ} h hy =>
    ep_cb (ea_cons (ep_var h) (ea_cons ep_ref ea_nil)) (rc_isX hd (fun F v r => r) (.own _) (XX.cc x hx) (XX.k x hx y hy))
  have three : ∀ {Γ : List En} (a b c : Str), Γ[0]? = some (.sh d) → a ∈ ex20 → b ∈ ex20 → c ∈ ex20 → EvF (tLst (tCons (tCB (rIsX K) (tCons (tVar 0) (tCons (tC (.ref (cA a))) tNil))) (tCons (tCB (rIsX K) (tCons (tVar 0) (tCons (tC (.ref (cA b))) tNil))) (tCons (tCB (rIsX K) (tCons (tVar 0) (tCons (tC (.ref (cA c))) tNil))) tNil)))) Γ [.bl (decide (x = a)), .bl (decide (x = b)), .bl (decide (x = c))] := fun a b c h ha hb hc =>
    ef_lst (ea_cons (is h ha) (ea_cons (is h hb) (ea_cons (is h hc) ea_nil))) (by show 3 ≤ sizeLine; decide)
  refine q_asg (three "InvalidLeaf" "InvalidNode" "InvalidNeeded" rfl (by decide) (by decide) (by decide)).p ?_
  refine q_asg (EvF.p (ef_op (ep_var rfl) (three "InvalidLengths" "InvalidTest" "InvalidAsk" rfl (by decide) (by decide) (by decide)).p (rdf_cat (by show 3 + 3 ≤ sizeLine; decide)))) ?_
  refine q_asg (EvF.p (ef_op (ep_var rfl) (three "InvalidMask" "InvalidPath" "InvalidPart" rfl (by decide) (by decide) (by decide)).p (rdf_cat (by show 6 + 3 ≤ sizeLine; decide)))) ?_
  refine q_asg (EvF.p (ef_op (ep_var rfl) (three "InvalidField" "InvalidPage" "InvalidNumber" rfl (by decide) (by decide) (by decide)).p (rdf_cat (by show 9 + 3 ≤ sizeLine; decide)))) ?_
  refine q_asg (EvF.p (ef_op (ep_var rfl) (three "TooLarge" "NothingToUndo" "InvalidText" rfl (by decide) (by decide) (by decide)).p (rdf_cat (by show 12 + 3 ≤ sizeLine; decide)))) ?_
  refine q_asg (EvF.p (ef_op (ep_var rfl) (three "InvalidTable" "NotEnough" "InvalidColumns" rfl (by decide) (by decide) (by decide)).p (rdf_cat (by show 15 + 3 ≤ sizeLine; decide)))) ?_
  refine sw_ret (EvF.p (ef_op (ep_var rfl) (ef_lst (ea_cons (is rfl (y := "NotFitting") (by decide)) (ea_cons (is rfl (y := "NotSingle") (by decide)) ea_nil)) (by show 2 ≤ sizeLine; decide)).p (rdf_cat (by show 18 + 2 ≤ sizeLine; decide)))) ⟨rfl, trivial⟩
end
end Lx
set_option Elab.async false
set_option linter.all false
set_option maxRecDepth 100000
set_option maxHeartbeats 4000000
/-! A3: the own exceptions' __init__. -/
namespace XS
open PySem PySem.Spec PyProof.Rows L2 DL
/-- an __init__ with one int, kept as f; with two, kept as f and g -/
def I1 (f : Str) : List D → List (Str × V) → Prop := fun args fs => ∃ i : Int, args = [.int i] ∧ i.natAbs.log2 < 1920 ∧ fs = [(f, .int i)]
def I2 (f g : Str) : List D → List (Str × V) → Prop := fun args fs => ∃ i j : Int, args = [.int i, .int j] ∧ i.natAbs.log2 < 1920 ∧ j.natAbs.log2 < 1920 ∧ fs = [(g, .int j), (f, .int i)]
theorem upd3 {H0 : Hp} {s dx : Addr} {x y e : HO} (ne : dx ≠ s) : upd (upd (upd H0 s x) dx e) s y = upd (upd H0 dx e) s y := by
  funext b
  by_cases h1 : b = s
  · rw [h1, upd_same, upd_same]
  · rw [upd_ne h1, upd_ne h1]
    by_cases h2 : b = dx
    · rw [h2, upd_same, upd_same]
    · rw [upd_ne h2, upd_ne h2, upd_ne h1]
theorem upd4 {H0 : Hp} {s dx : Addr} {x y e e2 : HO} (ne : dx ≠ s) : upd (upd (upd (upd H0 s x) dx e) s y) dx e2 = upd (upd H0 dx e2) s y := by
  funext b
  by_cases h2 : b = dx
  · rw [h2, upd_same, upd_ne ne, upd_same]
  · rw [upd_ne h2]
    by_cases h1 : b = s
    · rw [h1, upd_same, upd_same]
    · rw [upd_ne h1, upd_ne h1, upd_ne h2, upd_ne h1, upd_ne h2]
theorem txt2 {a b : Str} {n m : Nat} (h1 : a.length ≤ n) (h2 : b.length ≤ m) : (a ++ b).length ≤ n + m := by
  have : (a ++ b).length = a.length + b.length := PySem.Str.length_append a b
  omega
section
variable {CX : CXT} {P : Program} {w : World} {K : PySem.W.Frag} {mg : Str → Option Value} {base : Heap} {N : List Str} {qual : Str} {scope : Scope} {f cc cda C : Addr} {A : Around} {outer : List Env} {s : Shared} {H : Hp} {E : XK}
/-- the rest of such a body, one field -/
theorem run1 {F H0 : Hp} {a : Addr} {i : Int} {lit fn : Str} {Q : VK} (ox : OexC K C) (hno : PySem.W.findIn K (.ref C) fn = some none) (hlit : lit.length ≤ 1000) (hi : i.natAbs.log2 < 1920) (eF : Ex F H0) (h0 : H0 a = none)
    (k : ∀ F' H', Stp F H0 F' H' → Rep F' (exD C [(fn, .int i)]) (.ref a) → Q .non H') (Qp : VK) (σ : L2.St) (e0 : σ[0]? = some (some (.ref a))) (e1 : σ[1]? = some (some (.int i)))
    (hq : ∀ y H2, H2 a = some (exo a C none) → tOst K fn (tVar 0) (tVar 1) { nx := fun _ H' => Q .non H', rt := Q } σ H2 → Qp y H2) : tJs [tC (.str lit), tFmt (tVar 1)] Str.empty σ (upd H0 a (exo a C none)) fun out H1 => Qp (.str out) H1 := by
  refine ⟨lit, rfl, ?_, .int i, e1, .inr ⟨i, rfl, hi, _, rfl, ?_, hq _ _ upd_same ⟨_, e1, _, e0, a, C, rfl, ox, hno, .inl ⟨upd_same, fun dx hn ne => ?_⟩⟩⟩⟩
  · exact Nat.le_trans (txt2 (n := 0) (Nat.le_refl 0) hlit) (by rw [sizeLine_eq]; decide)
  · exact Nat.le_trans (txt2 (txt2 (n := 0) (Nat.le_refl 0) hlit) (int_text_len_1921 hi)) (by rw [sizeLine_eq]; decide)
  · rw [upd_ne ne] at hn
    show Q .non _
    rw [upd3 ne]
    obtain ⟨S, r⟩ := stp_made (C := C) (fs := [(fn, .int i)]) eF h0 hn ne
    exact k _ _ S r
/-- two fields -/
theorem run2 {F H0 : Hp} {a : Addr} {i j : Int} {lit mid fn gn : Str} {Q : VK} (ox : OexC K C) (hno : PySem.W.findIn K (.ref C) fn = some none) (hng : PySem.W.findIn K (.ref C) gn = some none) (hlit : lit.length ≤ 1000) (hmid : mid.length ≤ 1000) (hi : i.natAbs.log2 < 1920) (hj : j.natAbs.log2 < 1920) (eF : Ex F H0) (h0 : H0 a = none)
    (k : ∀ F' H', Stp F H0 F' H' → Rep F' (exD C [(gn, .int j), (fn, .int i)]) (.ref a) → Q .non H') (Qp : VK) (σ : L2.St) (e0 : σ[0]? = some (some (.ref a))) (e1 : σ[1]? = some (some (.int i))) (e2 : σ[2]? = some (some (.int j)))
    (hq : ∀ y H2, H2 a = some (exo a C none) → tSeq (tOst K fn (tVar 0) (tVar 1)) (tOst K gn (tVar 0) (tVar 2)) { nx := fun _ H' => Q .non H', rt := Q } σ H2 → Qp y H2) : tJs [tC (.str lit), tFmt (tVar 1), tC (.str mid), tFmt (tVar 2)] Str.empty σ (upd H0 a (exo a C none)) fun out H1 => Qp (.str out) H1 := by
  have l1 := txt2 (n := 0) (a := Str.empty) (Nat.le_refl 0) hlit
  have l2 := txt2 l1 (int_text_len_1921 hi)
  have l3 := txt2 l2 hmid
  have l4 := txt2 l3 (int_text_len_1921 hj)
  refine ⟨lit, rfl, ?_, .int i, e1, .inr ⟨i, rfl, hi, _, rfl, ?_, mid, rfl, ?_, .int j, e2, .inr ⟨j, rfl, hj, _, rfl, ?_, hq _ _ upd_same ⟨_, e1, _, e0, a, C, rfl, ox, hno, .inl ⟨upd_same, fun dx hn ne => ⟨_, e2, _, e0, a, C, rfl, ox, hng, .inr ⟨dx, [(fn, .int i)], upd_same, ?_, (by show 1 ≤ 900; decide), ?_⟩⟩⟩⟩⟩⟩⟩
  · exact Nat.le_trans l1 (by rw [sizeLine_eq]; decide)
  · exact Nat.le_trans l2 (by rw [sizeLine_eq]; decide)
  · exact Nat.le_trans l3 (by rw [sizeLine_eq]; decide)
  · exact Nat.le_trans l4 (by rw [sizeLine_eq]; decide)
  · rw [upd_ne ne, upd_same]
  · rw [upd_ne ne] at hn
    show Q .non _
    rw [upd4 ne]
    obtain ⟨S, r⟩ := stp_made (C := C) (fs := [(gn, .int j), (fn, .int i)]) eF h0 hn ne
    exact k _ _ S r
end
end XS
namespace Lx
open PySem PySem.Spec PyProof.Rows L2 DL XS
def mth (i j : Nat) : Stmt := (C8.clsBody (PySem.Challenge.pw_levelcolumns_k78_errors_made.main.body.getD i (.Pass ⟨0, 0, 0, 0⟩))).getD j (.Pass ⟨0, 0, 0, 0⟩)
abbrev s_InvalidText : Stmt := mth 16 0
abbrev s_InvalidTable : Stmt := mth 17 0
abbrev s_NotEnough : Stmt := mth 18 0
abbrev s_InvalidColumns : Stmt := mth 19 0
abbrev s_NotFitting : Stmt := mth 20 0
abbrev s_NotSingle : Stmt := mth 21 0
theorem free_of {l : List (Str × NameKind)} (h : ∀ y ∈ l, y.2 = .free → y.1 = "__class__") : ∀ x : Str, l.lookup x = some .free → x = "__class__" := fun x e => h (x, .free) (PySem.mem_of_lookup e) rfl
theorem len1 {C : Addr} {f x : Str} : ∀ vs H Q E, spX C (I1 f) vs H Q E → vs.length = (["self", x] : List Str).length := fun vs H Q E ⟨F, H0, a, ws, args, fs, e, _, _, _, r, ⟨i, e1, _⟩, _⟩ => by
  subst e e1
  rw [List.length_cons, r.length]; rfl
theorem len2 {C : Addr} {f g x y : Str} : ∀ vs H Q E, spX C (I2 f g) vs H Q E → vs.length = (["self", x, y] : List Str).length := fun vs H Q E ⟨F, H0, a, ws, args, fs, e, _, _, _, r, ⟨i, j, e1, _⟩, _⟩ => by
  subst e e1
  rw [List.length_cons, r.length]; rfl
section
variable {P : Program} {w : World} {K : PySem.W.Frag} {mg : Str → Option Value} {base : Heap} {f cc cda C : Addr} {oc : Value} {od : Option Addr} {kV doc pm ct : Value} {an : Option Addr} {osl : Array (Option Value)}
theorem sc_InvalidText : ScS ["self", "place"] ["self", "place"] (defScope s_InvalidText) := ⟨rfl, rfl, rfl, by decide +kernel, rfl, by decide +kernel, by decide +kernel, free_of (by decide +kernel), rfl, rfl⟩
theorem ok_InvalidText (T : SuC P K mg C f cc cda ["self", "place"] ["self", "place"] "__init__" "InvalidText.__init__" (defArgs s_InvalidText) (defBody s_InvalidText) (defScope s_InvalidText)) (h0z : PySem.W.findIn K (.ref C) "place" = some none) (lk : K.lookup f = some ⟨oc, od, .func (PySem.W.fnX "__init__" "InvalidText.__init__" (defArgs s_InvalidText) (defBody s_InvalidText) (defScope s_InvalidText) [("__class__", cc)] .none kV doc pm an (.ref cda) ct), osl⟩) :
    FnOk P w K mg base CX0 1 f (PySem.W.fnX "__init__" "InvalidText.__init__" (defArgs s_InvalidText) (defBody s_InvalidText) (defScope s_InvalidText) [("__class__", cc)] .none kV doc pm an (.ref cda) ct) ["self", "place"] (spX C (I1 "place")) := by
  refine su_ok T lk len1 rfl fun A outer s H vs Q E hr ⟨F, H0, a, ws, args, fs, e1, eF, e2, h0, r, ⟨i, e3, hi, e4⟩, k⟩ => ?_
  subst e1 e2 e3 e4
  obtain ⟨v, _, rfl, rv, rfl⟩ := r
  cases (show v = V.int i from rv)
  exact ⟨_, _, a, pe_joined (.cons pe_str (.cons (pe_fmt (pv 1)) .nil)), pss_one (ps_ost (pv 0) (pv 1)), rfl, upd_same, fun Qp hq => run1 T.ox h0z (by decide) hi eF h0 k Qp _ rfl rfl hq⟩
theorem sc_InvalidTable : ScS ["self", "index"] ["self", "index"] (defScope s_InvalidTable) := ⟨rfl, rfl, rfl, by decide +kernel, rfl, by decide +kernel, by decide +kernel, free_of (by decide +kernel), rfl, rfl⟩
theorem ok_InvalidTable (T : SuC P K mg C f cc cda ["self", "index"] ["self", "index"] "__init__" "InvalidTable.__init__" (defArgs s_InvalidTable) (defBody s_InvalidTable) (defScope s_InvalidTable)) (h0z : PySem.W.findIn K (.ref C) "index" = some none) (lk : K.lookup f = some ⟨oc, od, .func (PySem.W.fnX "__init__" "InvalidTable.__init__" (defArgs s_InvalidTable) (defBody s_InvalidTable) (defScope s_InvalidTable) [("__class__", cc)] .none kV doc pm an (.ref cda) ct), osl⟩) :
    FnOk P w K mg base CX0 1 f (PySem.W.fnX "__init__" "InvalidTable.__init__" (defArgs s_InvalidTable) (defBody s_InvalidTable) (defScope s_InvalidTable) [("__class__", cc)] .none kV doc pm an (.ref cda) ct) ["self", "index"] (spX C (I1 "index")) := by
  refine su_ok T lk len1 rfl fun A outer s H vs Q E hr ⟨F, H0, a, ws, args, fs, e1, eF, e2, h0, r, ⟨i, e3, hi, e4⟩, k⟩ => ?_
  subst e1 e2 e3 e4
  obtain ⟨v, _, rfl, rv, rfl⟩ := r
  cases (show v = V.int i from rv)
  exact ⟨_, _, a, pe_joined (.cons pe_str (.cons (pe_fmt (pv 1)) .nil)), pss_one (ps_ost (pv 0) (pv 1)), rfl, upd_same, fun Qp hq => run1 T.ox h0z (by decide) hi eF h0 k Qp _ rfl rfl hq⟩
theorem sc_NotEnough : ScS ["self", "node"] ["self", "node"] (defScope s_NotEnough) := ⟨rfl, rfl, rfl, by decide +kernel, rfl, by decide +kernel, by decide +kernel, free_of (by decide +kernel), rfl, rfl⟩
theorem ok_NotEnough (T : SuC P K mg C f cc cda ["self", "node"] ["self", "node"] "__init__" "NotEnough.__init__" (defArgs s_NotEnough) (defBody s_NotEnough) (defScope s_NotEnough)) (h0z : PySem.W.findIn K (.ref C) "node" = some none) (lk : K.lookup f = some ⟨oc, od, .func (PySem.W.fnX "__init__" "NotEnough.__init__" (defArgs s_NotEnough) (defBody s_NotEnough) (defScope s_NotEnough) [("__class__", cc)] .none kV doc pm an (.ref cda) ct), osl⟩) :
    FnOk P w K mg base CX0 1 f (PySem.W.fnX "__init__" "NotEnough.__init__" (defArgs s_NotEnough) (defBody s_NotEnough) (defScope s_NotEnough) [("__class__", cc)] .none kV doc pm an (.ref cda) ct) ["self", "node"] (spX C (I1 "node")) := by
  refine su_ok T lk len1 rfl fun A outer s H vs Q E hr ⟨F, H0, a, ws, args, fs, e1, eF, e2, h0, r, ⟨i, e3, hi, e4⟩, k⟩ => ?_
  subst e1 e2 e3 e4
  obtain ⟨v, _, rfl, rv, rfl⟩ := r
  cases (show v = V.int i from rv)
  exact ⟨_, _, a, pe_joined (.cons pe_str (.cons (pe_fmt (pv 1)) .nil)), pss_one (ps_ost (pv 0) (pv 1)), rfl, upd_same, fun Qp hq => run1 T.ox h0z (by decide) hi eF h0 k Qp _ rfl rfl hq⟩
theorem sc_InvalidColumns : ScS ["self", "leaf", "entry"] ["self", "leaf", "entry"] (defScope s_InvalidColumns) := ⟨rfl, rfl, rfl, by decide +kernel, rfl, by decide +kernel, by decide +kernel, free_of (by decide +kernel), rfl, rfl⟩
theorem ok_InvalidColumns (T : SuC P K mg C f cc cda ["self", "leaf", "entry"] ["self", "leaf", "entry"] "__init__" "InvalidColumns.__init__" (defArgs s_InvalidColumns) (defBody s_InvalidColumns) (defScope s_InvalidColumns)) (h0z : PySem.W.findIn K (.ref C) "leaf" = some none) (h1z : PySem.W.findIn K (.ref C) "entry" = some none) (lk : K.lookup f = some ⟨oc, od, .func (PySem.W.fnX "__init__" "InvalidColumns.__init__" (defArgs s_InvalidColumns) (defBody s_InvalidColumns) (defScope s_InvalidColumns) [("__class__", cc)] .none kV doc pm an (.ref cda) ct), osl⟩) :
    FnOk P w K mg base CX0 1 f (PySem.W.fnX "__init__" "InvalidColumns.__init__" (defArgs s_InvalidColumns) (defBody s_InvalidColumns) (defScope s_InvalidColumns) [("__class__", cc)] .none kV doc pm an (.ref cda) ct) ["self", "leaf", "entry"] (spX C (I2 "leaf" "entry")) := by
  refine su_ok T lk len2 rfl fun A outer s H vs Q E hr ⟨F, H0, a, ws, args, fs, e1, eF, e2, h0, r, ⟨i, j, e3, hi, hj, e4⟩, k⟩ => ?_
  subst e1 e2 e3 e4
  obtain ⟨v, _, rfl, rv, v2, _, rfl, rv2, rfl⟩ := r
  cases (show v = V.int i from rv)
  cases (show v2 = V.int j from rv2)
  exact ⟨_, _, a, pe_joined (.cons pe_str (.cons (pe_fmt (pv 1)) (.cons pe_str (.cons (pe_fmt (pv 2)) .nil)))), pss_cons (ps_ost (pv 0) (pv 1)) (pss_one (ps_ost (pv 0) (pv 2))), rfl, upd_same, fun Qp hq => run2 T.ox h0z h1z (by decide) (by decide) hi hj eF h0 k Qp _ rfl rfl rfl hq⟩
theorem sc_NotFitting : ScS ["self", "leaf", "entry"] ["self", "leaf", "entry"] (defScope s_NotFitting) := ⟨rfl, rfl, rfl, by decide +kernel, rfl, by decide +kernel, by decide +kernel, free_of (by decide +kernel), rfl, rfl⟩
theorem ok_NotFitting (T : SuC P K mg C f cc cda ["self", "leaf", "entry"] ["self", "leaf", "entry"] "__init__" "NotFitting.__init__" (defArgs s_NotFitting) (defBody s_NotFitting) (defScope s_NotFitting)) (h0z : PySem.W.findIn K (.ref C) "leaf" = some none) (h1z : PySem.W.findIn K (.ref C) "entry" = some none) (lk : K.lookup f = some ⟨oc, od, .func (PySem.W.fnX "__init__" "NotFitting.__init__" (defArgs s_NotFitting) (defBody s_NotFitting) (defScope s_NotFitting) [("__class__", cc)] .none kV doc pm an (.ref cda) ct), osl⟩) :
    FnOk P w K mg base CX0 1 f (PySem.W.fnX "__init__" "NotFitting.__init__" (defArgs s_NotFitting) (defBody s_NotFitting) (defScope s_NotFitting) [("__class__", cc)] .none kV doc pm an (.ref cda) ct) ["self", "leaf", "entry"] (spX C (I2 "leaf" "entry")) := by
  refine su_ok T lk len2 rfl fun A outer s H vs Q E hr ⟨F, H0, a, ws, args, fs, e1, eF, e2, h0, r, ⟨i, j, e3, hi, hj, e4⟩, k⟩ => ?_
  subst e1 e2 e3 e4
  obtain ⟨v, _, rfl, rv, v2, _, rfl, rv2, rfl⟩ := r
  cases (show v = V.int i from rv)
  cases (show v2 = V.int j from rv2)
  exact ⟨_, _, a, pe_joined (.cons pe_str (.cons (pe_fmt (pv 1)) (.cons pe_str (.cons (pe_fmt (pv 2)) .nil)))), pss_cons (ps_ost (pv 0) (pv 1)) (pss_one (ps_ost (pv 0) (pv 2))), rfl, upd_same, fun Qp hq => run2 T.ox h0z h1z (by decide) (by decide) hi hj eF h0 k Qp _ rfl rfl rfl hq⟩
theorem sc_NotSingle : ScS ["self", "leaf", "entry"] ["self", "leaf", "entry"] (defScope s_NotSingle) := ⟨rfl, rfl, rfl, by decide +kernel, rfl, by decide +kernel, by decide +kernel, free_of (by decide +kernel), rfl, rfl⟩
theorem ok_NotSingle (T : SuC P K mg C f cc cda ["self", "leaf", "entry"] ["self", "leaf", "entry"] "__init__" "NotSingle.__init__" (defArgs s_NotSingle) (defBody s_NotSingle) (defScope s_NotSingle)) (h0z : PySem.W.findIn K (.ref C) "leaf" = some none) (h1z : PySem.W.findIn K (.ref C) "entry" = some none) (lk : K.lookup f = some ⟨oc, od, .func (PySem.W.fnX "__init__" "NotSingle.__init__" (defArgs s_NotSingle) (defBody s_NotSingle) (defScope s_NotSingle) [("__class__", cc)] .none kV doc pm an (.ref cda) ct), osl⟩) :
    FnOk P w K mg base CX0 1 f (PySem.W.fnX "__init__" "NotSingle.__init__" (defArgs s_NotSingle) (defBody s_NotSingle) (defScope s_NotSingle) [("__class__", cc)] .none kV doc pm an (.ref cda) ct) ["self", "leaf", "entry"] (spX C (I2 "leaf" "entry")) := by
  refine su_ok T lk len2 rfl fun A outer s H vs Q E hr ⟨F, H0, a, ws, args, fs, e1, eF, e2, h0, r, ⟨i, j, e3, hi, hj, e4⟩, k⟩ => ?_
  subst e1 e2 e3 e4
  obtain ⟨v, _, rfl, rv, v2, _, rfl, rv2, rfl⟩ := r
  cases (show v = V.int i from rv)
  cases (show v2 = V.int j from rv2)
  exact ⟨_, _, a, pe_joined (.cons pe_str (.cons (pe_fmt (pv 1)) (.cons pe_str (.cons (pe_fmt (pv 2)) .nil)))), pss_cons (ps_ost (pv 0) (pv 1)) (pss_one (ps_ost (pv 0) (pv 2))), rfl, upd_same, fun Qp hq => run2 T.ox h0z h1z (by decide) (by decide) hi hj eF h0 k Qp _ rfl rfl rfl hq⟩
end
end Lx
set_option Elab.async false
set_option linter.all false
set_option maxRecDepth 100000
set_option maxHeartbeats 4000000
/-! A4: the law. -/
namespace DL
open PySem PySem.Spec PyProof.Rows L2
theorem efw_imp {te : TE} {Γ : List En} {R R' : List D → List En → Prop} (h : EvFW te Γ R) (k : ∀ ds Γ', R ds Γ' → R' ds Γ') : EvFW te Γ R' := fun c F H σ G Q q => h c F H σ G Q fun a xs ds Γ' F' H' hr => q a xs ds Γ' F' H' (k ds Γ' hr)
theorem rd_ixStr {z : Str} {i : Int} {c : Nat} (hz : z.length ≤ sizeLine) (h : atI z.cps.toList i = some c) : RD rIxS (.str z) (.int i) (.str ⟨#[c]⟩) := fun F H vx vy e rx ry Q k => ⟨z, i, c, rx, ry, hz, h, k _ F H (.refl e) rfl⟩
theorem sum_ones : ∀ {ys : List Str}, (∀ y ∈ ys, y.length = 1) → (ys.map (·.length)).sum = ys.length
  | [], _ => rfl
  | y :: ys, h => by
    rw [List.map_cons, List.sum_cons, h y List.mem_cons_self, sum_ones fun z hz => h z (List.mem_cons_of_mem _ hz), List.length_cons]
    omega
theorem ep_neg {te : TE} {Γ : List En} {i : Int} (h : EvP te Γ (.int i)) : EvP (tUn (rU fun i => .int (-i)) te) Γ (.int (-i)) := fun c F H σ G Q k => h c F H σ G _ fun v F1 H1 S1 r => ⟨i, r, k _ F1 H1 S1 rfl⟩
theorem pyD_bls : ∀ bs : List Bool, pyDs (bs.map D.bl) = some (bs.map PyData.bool)
  | [] => rfl
  | b :: bs => by
    rw [List.map_cons, List.map_cons]
    simp only [pyDs, pyD, pyD_bls bs]
theorem eqv_bls : ∀ bs : List Bool, PyData.eqvAll (bs.map PyData.bool) (bs.map PyData.bool) = true
  | [] => rfl
  | b :: bs => by
    show (PyData.eqv (.bool b) (.bool b) && PyData.eqvAll (bs.map PyData.bool) (bs.map PyData.bool)) = true
    rw [eqv_bls bs]
    cases b <;> rfl
theorem lay_bls : ∀ l : List Bool, PyData.canLayAll0 (l.map PyData.bool) = true
  | [] => rfl
  | x :: l => by
    show (true && PyData.canLayAll0 (l.map PyData.bool)) = true
    rw [lay_bls l]; rfl
theorem depth_bls : ∀ l : List Bool, PyData.depthAll (l.map PyData.bool) = 0
  | [] => rfl
  | x :: l => by
    show max 0 (PyData.depthAll (l.map PyData.bool)) = 0
    rw [depth_bls l]; rfl
theorem shaped_bls {l : List Bool} : SeqAt.shaped (.list (l.map PyData.bool)) = true := by
  unfold SeqAt.shaped
  have e1 : PyData.canLay0 (.list (l.map PyData.bool)) = true := lay_bls l
  have e2 : PyData.depth (.list (l.map PyData.bool)) = 1 := by show PyData.depthAll (l.map PyData.bool) + 1 = 1; rw [depth_bls]
  rw [e1, e2]; rfl
theorem lg {i : Int} (h : i.natAbs < 2 ^ 64) : i.natAbs.log2 < 1920 := by
  by_cases z : i.natAbs = 0
  · rw [z]; decide
  · exact Nat.lt_trans ((Nat.log2_lt z).mpr h) (by decide)
/-- lists of the same truth values are not unlike -/
theorem rd_neBs {K : PySem.W.Frag} {as bs : List Bool} (e : as = bs) : RD (rNeD K) (.lst (as.map D.bl)) (.lst (bs.map D.bl)) (.bl false) := by
  subst e
  have h := rd_neD (K := K) (x := .lst (as.map D.bl)) (y := .lst (as.map D.bl)) (p := .list (as.map .bool)) (q := .list (as.map .bool)) (by simp [pyD, pyD_bls]) (by simp [pyD, pyD_bls]) shaped_bls shaped_bls
  have e : PyData.eqv (.list (as.map .bool)) (.list (as.map .bool)) = true := eqv_bls as
  rw [e] at h
  exact h
end DL
namespace Lx
open PySem PySem.Spec PyProof.Rows L2 DL XS
abbrev s_law : Stmt := top 28
theorem sc_law : FnScope ["script", "bag", "word", "k", "one", "two", "rows", "i", "told", "pairs", "made"] ["script"] (defScope s_law) := ⟨rfl, rfl, rfl, by decide +kernel, rfl, by decide +kernel, by decide +kernel⟩
def C_law (K : PySem.W.Frag) : Cn := fun Γ R => ∃ (a : Addr) (ns : List Int) (p : Prop), Γ = [.sh (.scr a ns p)] ∧ (p → KLs K a (ns.map V.int)) ∧ R = fun d Γ' => d = .bl true
def exFs : List (Str × Str) := [("InvalidText", "place"), ("InvalidTable", "index"), ("NotEnough", "node"), ("InvalidColumns", "leaf"), ("InvalidColumns", "entry"), ("NotFitting", "leaf"), ("NotFitting", "entry"), ("NotSingle", "leaf"), ("NotSingle", "entry")]
/-- the exceptions that the law makes -/
def rowsD (cA : Str → Addr) (one two : Int) : List D := ((ex20.take 14).map fun x => exN (cA x)) ++ [exD (cA "InvalidText") [("place", .int one)], exD (cA "InvalidTable") [("index", .int one)], exD (cA "NotEnough") [("node", .int one)],
  exD (cA "InvalidColumns") [("entry", .int two), ("leaf", .int one)], exD (cA "NotFitting") [("entry", .int two), ("leaf", .int one)], exD (cA "NotSingle") [("entry", .int two), ("leaf", .int one)]]
theorem rows_at (cA : Str → Addr) (one two : Int) : ∀ k : Nat, k < 20 → ∃ x d, ex20[k]? = some x ∧ (rowsD cA one two)[k]? = some d ∧ IsX (cA x) d
  | 0, _ => ⟨_, _, rfl, rfl, .inl rfl⟩
  | 1, _ => ⟨_, _, rfl, rfl, .inl rfl⟩
  | 2, _ => ⟨_, _, rfl, rfl, .inl rfl⟩
  | 3, _ => ⟨_, _, rfl, rfl, .inl rfl⟩
  | 4, _ => ⟨_, _, rfl, rfl, .inl rfl⟩
  | 5, _ => ⟨_, _, rfl, rfl, .inl rfl⟩
  | 6, _ => ⟨_, _, rfl, rfl, .inl rfl⟩
  | 7, _ => ⟨_, _, rfl, rfl, .inl rfl⟩
  | 8, _ => ⟨_, _, rfl, rfl, .inl rfl⟩
  | 9, _ => ⟨_, _, rfl, rfl, .inl rfl⟩
  | 10, _ => ⟨_, _, rfl, rfl, .inl rfl⟩
  | 11, _ => ⟨_, _, rfl, rfl, .inl rfl⟩
  | 12, _ => ⟨_, _, rfl, rfl, .inl rfl⟩
  | 13, _ => ⟨_, _, rfl, rfl, .inl rfl⟩
  | 14, _ => ⟨_, _, rfl, rfl, .inr ⟨_, rfl⟩⟩
  | 15, _ => ⟨_, _, rfl, rfl, .inr ⟨_, rfl⟩⟩
  | 16, _ => ⟨_, _, rfl, rfl, .inr ⟨_, rfl⟩⟩
  | 17, _ => ⟨_, _, rfl, rfl, .inr ⟨_, rfl⟩⟩
  | 18, _ => ⟨_, _, rfl, rfl, .inr ⟨_, rfl⟩⟩
  | 19, _ => ⟨_, _, rfl, rfl, .inr ⟨_, rfl⟩⟩
  | k + 20, h => absurd h (by omega)
theorem same_of : ∀ (k : Nat) (x : Str), k < 20 → ex20[k]? = some x → (ex20.map fun y => decide (x = y)) = (List.range 20).map fun (i : Nat) => decide ((0 + (i : Int)) = (k : Int)) := fun k x hk hx => by
  have h : (List.range 20).all (fun k => (ex20.map fun y => decide (ex20.getD k "" = y)) == (List.range 20).map fun (i : Nat) => decide ((0 + (i : Int)) = (k : Int))) = true := by decide +kernel
  have q := List.all_eq_true.mp h k (List.mem_range.mpr hk)
  have e : ex20.getD k "" = x := by rw [List.getD_eq_getElem?_getD, hx]; rfl
  rw [e] at q
  exact beq_iff_eq.mp q
section
variable {P : Program} {w : World} {K : PySem.W.Frag} {mg : Str → Option Value} {base : Heap} {f : Addr} {fd : FuncData} {cA : Str → Addr}
theorem ok_law (T : Tx mg) (XX : Xs K mg cA) (no : ∀ p ∈ exFs, PySem.W.findIn K (.ref (cA p.1)) p.2 = some none) (c__law_bag : Cal P w K mg base 1 "_law_bag" (spF (C_bag K))) (c__law_draw : Cal P w K mg base 2 "_law_draw" (spE C_draw)) (c__law_alike : Cal P w K mg base 4 "_law_alike" (spE (C_alike 3))) (c__law_of : Cal P w K mg base 1 "_law_of" (spE (C_of cA)))
    (c_InvalidText : MakX P w K mg base 1 "InvalidText" (cA "InvalidText") ["place"] (spX (cA "InvalidText") (I1 "place"))) (c_InvalidTable : MakX P w K mg base 1 "InvalidTable" (cA "InvalidTable") ["index"] (spX (cA "InvalidTable") (I1 "index"))) (c_NotEnough : MakX P w K mg base 1 "NotEnough" (cA "NotEnough") ["node"] (spX (cA "NotEnough") (I1 "node")))
    (c_InvalidColumns : MakX P w K mg base 1 "InvalidColumns" (cA "InvalidColumns") ["leaf", "entry"] (spX (cA "InvalidColumns") (I2 "leaf" "entry"))) (c_NotFitting : MakX P w K mg base 1 "NotFitting" (cA "NotFitting") ["leaf", "entry"] (spX (cA "NotFitting") (I2 "leaf" "entry"))) (c_NotSingle : MakX P w K mg base 1 "NotSingle" (cA "NotSingle") ["leaf", "entry"] (spX (cA "NotSingle") (I2 "leaf" "entry")))
    (F : FnP K "law" s_law f fd) : FnOk P w K mg base CX0 5 f fd ["script"] (spE (C_law K)) := by
  refine fn_ok F sc_law (fun Γ R ⟨a, ns, p, h, _⟩ => by subst h; rfl) fun cdv A outer s H E hr => ⟨_, (pss_cons (ps_set (i := 1) sc_law.nd rfl (by first | exact Or.inl rfl | exact Or.inr rfl) (pe_c c__law_bag hr (by first | decide | omega) rfl (pa_cons (pv 0) pa_nil)))
      (pss_cons (ps_set (i := 2) sc_law.nd rfl (by first | exact Or.inl rfl | exact Or.inr rfl) (pe_join pe_str (pe_lc (own := [("k", 3)]) (g := (gName 3)) (tt := tYes) rfl sc_law.nd (pi_range1 rfl T.z_range (pa_cons (pe_c c__law_draw hr (by first | decide | omega) rfl (pa_cons (pv 1) (pa_cons pe_int pa_nil))) pa_nil)) (blkOk_by (own := [("k", 3)]) (N := ["script", "bag", "word", "k", "one", "two", "rows", "i", "told", "pairs", "made"]) (sc := defScope s_law) (by decide +kernel)) (fun _ _ _ _ _ => (pg_name (i := 3) sc_law.nd rfl (Or.inl rfl))) (fun _ _ _ _ _ => pts_nil) (fun _ _ _ _ _ => (pe_ix ix_str pe_str (pe_c c__law_draw hr (by first | decide | omega) rfl (pa_cons (pv 1) (pa_cons pe_int pa_nil))) (fun _ _ => rfl))))))
      (pss_cons (ps_par (i := 4) (j := 5) rfl sc_law.nd rfl rfl (by decide) rfl rfl (pa_cons (pe_ix ix_list (pe_lst (pa_cons (pe_c c__law_draw hr (by first | decide | omega) rfl (pa_cons (pv 1) (pa_cons pe_int pa_nil))) (pa_cons (pe_op op_pow pe_int pe_int) (pa_cons (pe_un un_neg pe_int) pa_nil)))) (pe_c c__law_draw hr (by first | decide | omega) rfl (pa_cons (pv 1) (pa_cons pe_int pa_nil))) (fun _ _ => rfl)) (pa_cons (pe_c c__law_draw hr (by first | decide | omega) rfl (pa_cons (pv 1) (pa_cons pe_int pa_nil))) pa_nil)) (by rfl))
      (pss_cons (ps_set (i := 6) sc_law.nd rfl (by first | exact Or.inl rfl | exact Or.inr rfl) (pe_lst (pa_cons (pe_exN (XX.n_ "InvalidLeaf" (by decide)) rfl (pv 2)) (pa_cons (pe_exN (XX.n_ "InvalidNode" (by decide)) rfl (pv 2)) (pa_cons (pe_exN (XX.n_ "InvalidNeeded" (by decide)) rfl (pv 2)) (pa_cons (pe_exN (XX.n_ "InvalidLengths" (by decide)) rfl (pv 2)) (pa_cons (pe_exN (XX.n_ "InvalidTest" (by decide)) rfl (pv 2)) pa_nil)))))))
      (pss_cons (ps_set (i := 6) sc_law.nd rfl (by first | exact Or.inl rfl | exact Or.inr rfl) (pe_op op_cat (pv 6) (pe_lst (pa_cons (pe_exN (XX.n_ "InvalidAsk" (by decide)) rfl (pv 2)) (pa_cons (pe_exN (XX.n_ "InvalidMask" (by decide)) rfl (pv 2)) (pa_cons (pe_exN (XX.n_ "InvalidPath" (by decide)) rfl (pv 2)) (pa_cons (pe_exN (XX.n_ "InvalidPart" (by decide)) rfl (pv 2)) (pa_cons (pe_exN (XX.n_ "InvalidField" (by decide)) rfl (pv 2)) pa_nil))))))))
      (pss_cons (ps_set (i := 6) sc_law.nd rfl (by first | exact Or.inl rfl | exact Or.inr rfl) (pe_op op_cat (pv 6) (pe_lst (pa_cons (pe_exN (XX.n_ "InvalidPage" (by decide)) rfl (pv 2)) (pa_cons (pe_exN (XX.n_ "InvalidNumber" (by decide)) rfl (pv 2)) (pa_cons (pe_exN (XX.n_ "TooLarge" (by decide)) rfl (pv 2)) (pa_cons (pe_exN (XX.n_ "NothingToUndo" (by decide)) rfl (pv 2)) (pa_cons (pe_exV c_InvalidText hr (by first | decide | omega) rfl (pa_cons (pv 4) pa_nil)) pa_nil))))))))
      (pss_cons (ps_set (i := 6) sc_law.nd rfl (by first | exact Or.inl rfl | exact Or.inr rfl) (pe_op op_cat (pv 6) (pe_lst (pa_cons (pe_exV c_InvalidTable hr (by first | decide | omega) rfl (pa_cons (pv 4) pa_nil)) (pa_cons (pe_exV c_NotEnough hr (by first | decide | omega) rfl (pa_cons (pv 4) pa_nil)) (pa_cons (pe_exV c_InvalidColumns hr (by first | decide | omega) rfl (pa_cons (pv 4) (pa_cons (pv 5) pa_nil))) (pa_cons (pe_exV c_NotFitting hr (by first | decide | omega) rfl (pa_cons (pv 4) (pa_cons (pv 5) pa_nil))) pa_nil)))))))
      (pss_cons (ps_expr (pe_bm PySem.F.plainAttrs_list PySem.F.slot_list_append PySem.F.type_list_append mt_append (pv 6) (pa_cons (pe_exV c_NotSingle hr (by first | decide | omega) rfl (pa_cons (pv 4) (pa_cons (pv 5) pa_nil))) pa_nil)))
      (pss_cons (ps_for PassesOwn.never rfl (pi_range1 rfl T.z_range (pa_cons (pe_callB call_len_seq rfl T.z_len (by decide +kernel) (pa_cons (pv 6) pa_nil)) pa_nil)) (pg_name (i := 3) sc_law.nd rfl (by first | exact Or.inl rfl | exact Or.inr rfl)) (pss_cons (ps_if (PW.pt (pw_or (pt_not (pt_val (pe_callB call_isX rfl T.z_isinstance (by decide +kernel) (pa_cons (pe_ix ix_list (pv 6) (pv 3) (fun _ _ => rfl)) (pa_cons (pe_gc rfl (XX.g_ "ColumnError" (by decide))) pa_nil))))) (pw_or1 (pt_not (pt_val (pe_callB call_isX rfl T.z_isinstance (by decide +kernel) (pa_cons (pe_ix ix_list (pv 6) (pv 3) (fun _ _ => rfl)) (pa_cons (pe_bltn (v := .ty "ValueError") rfl T.z_ValueError (by decide +kernel) rfl) pa_nil)))))))) (pss_one (ps_ret pe_bl)) pss_nil)
      (pss_one (ps_if (pt_cmpR (op_neD hr.units) (pe_c c__law_of hr (by first | decide | omega) rfl (pa_cons (pe_ix ix_list (pv 6) (pv 3) (fun _ _ => rfl)) pa_nil)) (pe_lc (own := [("i", 7)]) (g := (gName 7)) (tt := tYes) rfl sc_law.nd (pi_range1 rfl T.z_range (pa_cons (pe_callB call_len_seq rfl T.z_len (by decide +kernel) (pa_cons (pv 6) pa_nil)) pa_nil)) (blkOk_by (own := [("i", 7)]) (N := ["script", "bag", "word", "k", "one", "two", "rows", "i", "told", "pairs", "made"]) (sc := defScope s_law) (by decide +kernel)) (fun _ _ _ _ _ => (pg_name (i := 7) sc_law.nd rfl (Or.inl rfl))) (fun _ _ _ _ _ => pts_nil) (fun _ _ _ _ _ => (pe_cmpR op_eq (pv 7) (pv 3) (nomark _)))) (nomark _)) (pss_one (ps_ret pe_bl)) pss_nil))))
      (pss_cons (ps_if (pt_cmpR (op_neD hr.units) (pe_c c__law_of hr (by first | decide | omega) rfl (pa_cons (pe_exN (XX.n_ "ColumnError" (by decide)) rfl (pv 2)) pa_nil)) (pe_op op_rep (pe_lst (pa_cons pe_bl pa_nil)) (pe_callB call_len_seq rfl T.z_len (by decide +kernel) (pa_cons (pv 6) pa_nil))) (nomark _)) (pss_one (ps_ret pe_bl)) pss_nil)
      (pss_cons (ps_set (i := 8) sc_law.nd rfl (by first | exact Or.inl rfl | exact Or.inr rfl) (pe_lst (pa_cons (pe_xa (pe_ix ix_list (pv 6) pe_int (fun _ _ => rfl))) (pa_cons (pe_xa (pe_ix ix_list (pv 6) pe_int (fun _ _ => rfl))) (pa_cons (pe_xa (pe_ix ix_list (pv 6) pe_int (fun _ _ => rfl))) (pa_cons (pe_xa (pe_exK c_InvalidText hr (by first | decide | omega) rfl (by decide) (by decide) (pk_cons (pv 4) pk_nil))) pa_nil))))))
      (pss_cons (ps_set (i := 8) sc_law.nd rfl (by first | exact Or.inl rfl | exact Or.inr rfl) (pe_op op_cat (pv 8) (pe_lst (pa_cons (pe_xa (pe_exK c_InvalidTable hr (by first | decide | omega) rfl (by decide) (by decide) (pk_cons (pv 4) pk_nil))) (pa_cons (pe_xa (pe_exK c_NotEnough hr (by first | decide | omega) rfl (by decide) (by decide) (pk_cons (pv 4) pk_nil))) pa_nil)))))
      (pss_cons (ps_set (i := 9) sc_law.nd rfl (by first | exact Or.inl rfl | exact Or.inr rfl) (pe_lst (pa_cons (pe_ix ix_list (pv 6) pe_int (fun _ _ => rfl)) (pa_cons (pe_ix ix_list (pv 6) pe_int (fun _ _ => rfl)) (pa_cons (pe_ix ix_list (pv 6) pe_int (fun _ _ => rfl)) (pa_cons (pe_exK c_InvalidColumns hr (by first | decide | omega) rfl (by decide) (by decide) (pk_cons (pv 4) (pk_cons (pv 5) pk_nil))) (pa_cons (pe_exK c_NotFitting hr (by first | decide | omega) rfl (by decide) (by decide) (pk_cons (pv 4) (pk_cons (pv 5) pk_nil))) pa_nil)))))))
      (pss_cons (ps_expr (pe_bm PySem.F.plainAttrs_list PySem.F.slot_list_append PySem.F.type_list_append mt_append (pv 9) (pa_cons (pe_exK c_NotSingle hr (by first | decide | omega) rfl (by decide) (by decide) (pk_cons (pv 4) (pk_cons (pv 5) pk_nil))) pa_nil)))
      (pss_cons (ps_if (pt_not (pt_val (pe_c c__law_alike hr (by first | decide | omega) rfl (pa_cons (pv 8) (pa_cons (pe_op op_rep (pe_lst (pa_cons (pv 4) pa_nil)) pe_int) pa_nil))))) (pss_one (ps_ret pe_bl)) pss_nil)
      (pss_one (ps_ret (pe_c c__law_alike hr (by first | decide | omega) rfl (pa_cons (pe_lc (own := [("made", 10)]) (g := (gName 10)) (tt := tYes) rfl sc_law.nd (pi_list (pv 9)) (blkOk_by (own := [("made", 10)]) (N := ["script", "bag", "word", "k", "one", "two", "rows", "i", "told", "pairs", "made"]) (sc := defScope s_law) (by decide +kernel)) (fun _ _ _ _ _ => (pg_name (i := 10) sc_law.nd rfl (Or.inl rfl))) (fun _ _ _ _ _ => pts_nil) (fun _ _ _ _ _ => (pe_tup (pa_cons (pe_xaK (K := K) (pv 10)) (pa_cons (pe_xaK (K := K) (pv 10)) pa_nil))))) (pa_cons (pe_op op_rep (pe_lst (pa_cons (pe_tup (pa_cons (pv 4) (pa_cons (pv 5) pa_nil))) pa_nil)) pe_int) pa_nil)))))))))))))))))))), ?_⟩
  rintro Γ R ⟨a, ns, p, rfl, hp, rfl⟩ _
  show SW _ [.sh (.scr a ns p), .un, .un, .un, .un, .un, .un, .un, .un, .un, .un] _
  refine q_asgFR (ef_callF (ea_cons (ep_var rfl) ea_nil) ⟨a, ns, p, rfl, hp, rfl⟩) ?_
  rintro bg hb
  show SW _ [.sh (.scr a ns p), .own bg, .un, .un, .un, .un, .un, .un, .un, .un, .un] _
  refine sw_seq (fun Γ' => ∃ bg wd, Γ' = [.sh (.scr a ns p), .own bg, .sh (.str wd), .un, .un, .un, .un, .un, .un, .un, .un] ∧ Bg bg) (sw_joinFW (Rl := fun ds Γ' => ∃ bg ys, ds = List.map D.str ys ∧ ys.length ≤ 9 ∧ (∀ y ∈ ys, y.length = 1) ∧ Γ' = [.sh (.scr a ns p), .own bg, .un, .un, .un, .un, .un, .un, .un, .un, .un] ∧ Bg bg)
    (efw_rng (R1 := fun d Γ' => ∃ r bg, d = .int r ∧ 0 ≤ r ∧ r < 9 ∧ Γ' = [.sh (.scr a ns p), .own bg, .un, .un, .un, .un, .un, .un, .un, .un, .un] ∧ Bg bg) (ew_draw (.inl rfl) (ea_cons ep_int ea_nil) hb (by decide) (by decide) fun r ds' h0 h1 hb' => ⟨r, ds', rfl, h0, h1, rfl, hb'⟩) ?_) ?_) ?_
  · rintro d _ ⟨r, bg, rfl, h0, h1, rfl, hb⟩
    refine ⟨r, rfl, efw_imp (efw_lc (List.range r.toNat) (fun i : Nat => D.int (0 + (i : Int))) (fun i acc Γi => ∃ bg ys, acc = List.map D.str ys ∧ ys.length = i ∧ i ≤ 9 ∧ (∀ y ∈ ys, y.length = 1) ∧ Γi = [.sh (.scr a ns p), .own bg, .un, .un, .un, .un, .un, .un, .un, .un, .un] ∧ Bg bg) (wi_rng1 (ea_cons ep_int ea_nil) (by omega) (by omega)) ?_ ⟨bg, [], rfl, rfl, by omega, (fun y hy => nomatch hy), rfl, hb⟩ ?_) ?_⟩
    · rintro i acc Γi ⟨bg, ys, rfl, e, hi, _⟩
      rw [List.length_map, sizeLine_eq]; omega
    · rintro i x acc Γi hx ⟨bg, ys, rfl, e, hi, hy, rfl, hb⟩
      have hi2 : i < r.toNat := by have := (List.getElem?_eq_some_iff.mp hx).1; rwa [List.length_range] at this
      refine ⟨_, gv_name (by decide), sv1, etf_yes ?_⟩
      rw [if_pos rfl]
      refine ew_op ep_str (ew_draw (R := fun d Γ' => ∃ q bg, d = .int q ∧ 0 ≤ q ∧ q < 6 ∧ wipG Γ' [3] = [.sh (.scr a ns p), .own bg, .un, .un, .un, .un, .un, .un, .un, .un, .un] ∧ Bg bg) (i := 1) (.inl rfl) (ea_cons ep_int ea_nil) hb (by decide) (by decide) fun r ds' h0 h1 hb' => ⟨r, ds', rfl, h0, h1, rfl, hb'⟩) ?_
      rintro _ Γ' ⟨q', bg', rfl, q0, q1, e2, hb'⟩
      obtain ⟨q, rfl⟩ : ∃ n : Nat, q' = (n : Int) := ⟨q'.toNat, by omega⟩
      have hlen : (Str.ofString "abc \n-").cps.toList.length = 6 := by decide +kernel
      have hq : q < (Str.ofString "abc \n-").cps.toList.length := by rw [hlen]; omega
      refine ⟨_, rd_ixStr (c := (Str.ofString "abc \n-").cps.toList[q]) (by rw [sizeLine_eq]; decide +kernel) ?_, bg', ys ++ [⟨#[(Str.ofString "abc \n-").cps.toList[q]]⟩], ?_, ?_, by omega, ?_, e2, hb'⟩
      · exact atI_nat (List.getElem?_eq_getElem hq)
      · rw [List.map_append]; rfl
      · rw [List.length_append, e]; rfl
      · intro y hy'
        rcases List.mem_append.mp hy' with h | h
        · exact hy y h
        · rw [List.mem_singleton.mp h]; rfl
    · rintro ds Γ' ⟨Γn, ⟨bg, ys, rfl, e, hi, hy, rfl, hb⟩, rfl⟩
      refine ⟨bg, ys, rfl, ?_, hy, rfl, hb⟩
      rw [e, List.length_range]; omega
  · rintro ds Γ' ⟨bg, ys, rfl, hl, hy, rfl, hb⟩
    refine ⟨ys, rfl, ?_, bg, _, rfl, hb⟩
    rw [sum_ones hy]
    show ys.length + ys.length * 0 ≤ 16777216
    omega
  rintro _ ⟨bg, wd, rfl, hb⟩
  refine sw_seq (fun Γ' => ∃ bg one two, Γ' = [.sh (.scr a ns p), .own bg, .sh (.str wd), .un, .sh (.int one), .sh (.int two), .un, .un, .un, .un, .un] ∧ one.natAbs.log2 < 1920 ∧ two.natAbs.log2 < 1920)
    (sw_parWW (R1 := fun x Γ' => ∃ one bg, x = .int one ∧ one.natAbs.log2 < 1920 ∧ Γ' = [.sh (.scr a ns p), .own bg, .sh (.str wd), .un, .un, .un, .un, .un, .un, .un, .un] ∧ Bg bg)
      (ew_opWW (R1 := fun x Γ' => ∃ r bg, x = .lst [.int r, .int ((10 : Int) ^ (59 : Int).toNat), .int (-1)] ∧ 0 ≤ r ∧ r < 30 ∧ Γ' = [.sh (.scr a ns p), .own bg, .sh (.str wd), .un, .un, .un, .un, .un, .un, .un, .un] ∧ Bg bg)
        (ew_lst3 (R1 := fun x Γ' => ∃ r bg, x = .int r ∧ 0 ≤ r ∧ r < 30 ∧ Γ' = [.sh (.scr a ns p), .own bg, .sh (.str wd), .un, .un, .un, .un, .un, .un, .un, .un] ∧ Bg bg) (y := .int ((10 : Int) ^ (59 : Int).toNat)) (z := .int (-1))
          (ew_draw (.inl rfl) (ea_cons ep_int ea_nil) hb (by decide) (by decide) fun r ds' h0 h1 hb' => ⟨r, ds', rfl, h0, h1, rfl, hb'⟩)
          fun x Γ' ⟨r, bg', e1, h0, h1, e2, hb'⟩ => by
            subst e1 e2
            exact ⟨ep_op ep_int ep_int (rd_Ii ⟨by decide, by decide, by decide⟩), ep_neg ep_int, r, bg', rfl, h0, h1, rfl, hb'⟩)
        fun x Γ' ⟨r, bg', e1, h0, h1, e2, hb'⟩ => by
          subst e1 e2
          refine ew_draw (.inl rfl) (ea_cons ep_int ea_nil) hb' (by decide) (by decide) fun q ds' q0 q1 hb2 => ?_
          have hq : q = 0 ∨ q = 1 ∨ q = 2 := by omega
          rcases hq with rfl | rfl | rfl
          · exact ⟨.int r, rd_ixL rfl, r, ds', rfl, lg (by omega), rfl, hb2⟩
          · exact ⟨.int ((10 : Int) ^ (59 : Int).toNat), rd_ixL rfl, _, ds', rfl, by decide +kernel, rfl, hb2⟩
          · exact ⟨.int (-1), rd_ixL rfl, _, ds', rfl, by decide, rfl, hb2⟩)
      fun x Γ' ⟨one, bg', e1, h1, e2, hb'⟩ => by
        subst e1 e2
        exact ew_draw (.inl rfl) (ea_cons ep_int ea_nil) hb' (by decide) (by decide) fun q ds' q0 q1 hb2 => ⟨ds', one, q, rfl, h1, lg (by omega)⟩) ?_
  rintro _ ⟨bg', one, two, rfl, ho, ht⟩
  have i1 : ∀ {f : Str}, I1 f [.int one] [(f, .int one)] := fun {f} => ⟨one, rfl, ho, rfl⟩
  have i2 : ∀ {f g : Str}, I2 f g [.int one, .int two] [(g, .int two), (f, .int one)] := fun {f g} => ⟨one, two, rfl, ho, ht, rfl⟩
  have v1 : ∀ {Γ : List En} {x f : Str}, Γ[4]? = some (.sh (.int one)) → EvP (tExV (cA x) (spX (cA x) (I1 f)) (tCons (tVar 4) tNil)) Γ (exD (cA x) [(f, .int one)]) := fun {Γ x f} h => ep_xV (ea_cons (ep_var h) ea_nil) i1 (by show 1 ≤ 1000; decide)
  have v2 : ∀ {Γ : List En} {x f g : Str}, Γ[4]? = some (.sh (.int one)) → Γ[5]? = some (.sh (.int two)) → EvP (tExV (cA x) (spX (cA x) (I2 f g)) (tCons (tVar 4) (tCons (tVar 5) tNil))) Γ (exD (cA x) [(g, .int two), (f, .int one)]) := fun {Γ x f g} h h' => ep_xV (ea_cons (ep_var h) (ea_cons (ep_var h') ea_nil)) i2 (by show 2 ≤ 1000; decide)
  have k1 : ∀ {Γ : List En} {x f : Str}, Γ[4]? = some (.sh (.int one)) → EvP (tExK (cA x) 1 (spX (cA x) (I1 f)) (tCons (tVar 4) tNil)) Γ (exD (cA x) [(f, .int one)]) := fun {Γ x f} h => ep_xK (ea_cons (ep_var h) ea_nil) i1 rfl
  have k2 : ∀ {Γ : List En} {x f g : Str}, Γ[4]? = some (.sh (.int one)) → Γ[5]? = some (.sh (.int two)) → EvP (tExK (cA x) 2 (spX (cA x) (I2 f g)) (tCons (tVar 4) (tCons (tVar 5) tNil))) Γ (exD (cA x) [(g, .int two), (f, .int one)]) := fun {Γ x f g} h h' => ep_xK (ea_cons (ep_var h) (ea_cons (ep_var h') ea_nil)) i2 rfl
  refine q_asg (EvF.p (ef_lst (ea_cons (ep_x1 (ep_var rfl)) (ea_cons (ep_x1 (ep_var rfl)) (ea_cons (ep_x1 (ep_var rfl)) (ea_cons (ep_x1 (ep_var rfl)) (ea_cons (ep_x1 (ep_var rfl)) ea_nil))))) (by show 5 ≤ sizeLine; decide))) ?_
  refine q_asg (EvF.p (ef_op (ep_var rfl) (EvF.p (ef_lst (ea_cons (ep_x1 (ep_var rfl)) (ea_cons (ep_x1 (ep_var rfl)) (ea_cons (ep_x1 (ep_var rfl)) (ea_cons (ep_x1 (ep_var rfl)) (ea_cons (ep_x1 (ep_var rfl)) ea_nil))))) (by show 5 ≤ sizeLine; decide))) (rdf_cat (by show 5 + 5 ≤ sizeLine; decide)))) ?_
  refine q_asg (EvF.p (ef_op (ep_var rfl) (EvF.p (ef_lst (ea_cons (ep_x1 (ep_var rfl)) (ea_cons (ep_x1 (ep_var rfl)) (ea_cons (ep_x1 (ep_var rfl)) (ea_cons (ep_x1 (ep_var rfl)) (ea_cons (v1 rfl) ea_nil))))) (by show 5 ≤ sizeLine; decide))) (rdf_cat (by show 10 + 5 ≤ sizeLine; decide)))) ?_
  refine q_asgF (ef_op (ep_var rfl) (EvF.p (ef_lst (ea_cons (v1 rfl) (ea_cons (v1 rfl) (ea_cons (v2 rfl rfl) (ea_cons (v2 rfl rfl) ea_nil)))) (by show 4 ≤ sizeLine; decide))) (rdf_cat (by show 15 + 4 ≤ sizeLine; decide))) ?_
  refine q_app (i := 6) (.inl rfl) (v2 rfl rfl) (by show 19 < sizeLine; decide) ?_
  refine sw_frz (i := 6) rfl ?_
  show SW _ [.sh (.scr a ns p), .own bg', .sh (.str wd), .un, .sh (.int one), .sh (.int two), .sh (.lst (rowsD cA one two)), .un, .un, .un, .un] _
  have len20 : (rowsD cA one two).length = 20 := rfl
  have lenE : ∀ {Γ : List En}, Γ[6]? = some (.sh (.lst (rowsD cA one two))) → EvP (tCB (rLenS K) (tCons (tVar 6) tNil)) Γ (.int 20) := fun {Γ} h => ep_cb (ea_cons (ep_var h) ea_nil) rc_len
  have all20 : ∀ x ∈ ex20, x ∈ exAll := fun x hx => List.mem_cons_of_mem _ hx
  refine sw_seq (fun Γ' => ∃ e3, Γ' = [.sh (.scr a ns p), .own bg', .sh (.str wd), e3, .sh (.int one), .sh (.int two), .sh (.lst (rowsD cA one two)), .un, .un, .un, .un])
    (sw_for (fun _ Γ' => ∃ e3, Γ' = [.sh (.scr a ns p), .own bg', .sh (.str wd), e3, .sh (.int one), .sh (.int two), .sh (.lst (rowsD cA one two)), .un, .un, .un, .un]) (wi_rng1 (ea_cons (lenE rfl) ea_nil) (by decide) (by decide)) ⟨.un, rfl⟩ ?_ fun Γ' h => h) ?_
  · rintro k d _ hdi ⟨e3, rfl⟩
    have hdi : (rgD 0 20)[k]? = some d := hdi
    have hk : k < 20 := by have := (List.getElem?_eq_some_iff.mp hdi).1; rwa [rgD_len] at this
    rw [rgD_get hk] at hdi
    have ed : d = .int (k : Nat) := by have := Option.some.inj hdi; rw [← this, Int.zero_add]
    subst ed
    obtain ⟨x, dx, hx, hd, hX⟩ := rows_at cA one two k hk
    have hx20 : x ∈ ex20 := List.mem_of_getElem? hx
    refine ⟨_, gt_name, ?_⟩
    show SW _ [.sh (.scr a ns p), .own bg', .sh (.str wd), .sh (.int (k : Nat)), .sh (.int one), .sh (.int two), .sh (.lst (rowsD cA one two)), .un, .un, .un, .un] _
    have row : ∀ {Γ : List En}, Γ[6]? = some (.sh (.lst (rowsD cA one two))) → Γ[3]? = some (.sh (.int (k : Nat))) → EvP (tOp (rIxL K) (tVar 6) (tVar 3)) Γ dx := fun {Γ} h h' => ep_op (ep_var h) (ep_var h') (rd_ixL (atI_nat hd))
    refine sw_guard (b := false) (EtP.cast (et_or (et_not (et_B (ep_cb (ea_cons (row rfl rfl) (ea_cons ep_ref ea_nil)) (rc_isX (b := true) hX (fun F v r => r) (.own _) (XX.cc x (all20 x hx20)) (XX.kC x hx20))))) fun _ => et_not (et_B (ep_cb (ea_cons (row rfl rfl) (ea_cons ep_ty ea_nil)) (rc_isX (b := true) hX (fun F v r => r) (.ty _) (XX.cc x (all20 x hx20)) (XX.kV x hx20))))) rfl) (fun z => by cases z) fun _ => ?_
    refine sw_if (b := false) (et_test (ep_op (ep_call (ea_cons (row rfl rfl) ea_nil) ⟨x, dx, rfl, all20 x hx20, hX, rfl⟩ fun e Γ' h => h) (EvF.p ?_) (rd_neBs (same_of k x hk hx)))) (fun z => by cases z) fun _ => sw_next ⟨_, rfl⟩
    rw [List.map_map]
    refine ef_map (List.range 20) (fun i : Nat => D.int (0 + (i : Int))) _ (wi_rng1 (ea_cons (lenE rfl) ea_nil) (by decide) (by decide)) (by rw [List.length_range, sizeLine_eq]; decide) fun i hi => ⟨_, gv_name (by decide), ?_⟩
    exact ep_op (ep_var (d := .int (0 + (i : Int))) rfl) (ep_var (d := .int (k : Int)) rfl) rd_eqI
  rintro _ ⟨e3, rfl⟩
  refine sw_guard (b := false) (et_test (ep_op (ep_call (ea_cons (ep_x1 (ep_var rfl)) ea_nil) ⟨"ColumnError", _, rfl, List.mem_cons_self, .inl rfl, rfl⟩ fun e Γ' h => h) (EvF.p (ef_op (ef_lst (ea_cons ep_bl ea_nil) (by show 1 ≤ sizeLine; decide)).p (lenE rfl) (rdf_rep (n := 20) (by show 1 * 20 ≤ sizeLine; decide) (by decide)))) (rd_neBs (bs := List.replicate 20 false) (by decide +kernel)))) (fun z => by cases z) fun _ => ?_
  have row : ∀ {Γ : List En} {i : Nat} {d : D}, Γ[6]? = some (.sh (.lst (rowsD cA one two))) → (rowsD cA one two)[i]? = some d → EvP (tOp (rIxL K) (tVar 6) (tC (.int (i : Int)))) Γ d := fun {Γ i d} h h' => ep_op (ep_var h) ep_int (rd_ixL (atI_nat h'))
  have fld : ∀ {Γ : List En} {te : TE} {x f : Str} {fs : List (Str × V)}, EvP te Γ (exD (cA x) fs) → x ∈ exAll → (x, f) ∈ exFs → fs.lookup f = some (.int one) → EvP (tXa K f te) Γ (.int one) := fun {Γ te x f fs} h hx hf hl => ep_xa h (XX.xf x hx) (no (x, f) hf) hl fun F => rfl
  refine q_asg (d := .lst [.int one, .int one, .int one, .int one]) (EvF.p (ef_lst (ea_cons (fld (x := "InvalidText") (row (i := 14) rfl rfl) (by decide) (by decide) rfl) (ea_cons (fld (x := "InvalidTable") (row (i := 15) rfl rfl) (by decide) (by decide) rfl) (ea_cons (fld (x := "NotEnough") (row (i := 16) rfl rfl) (by decide) (by decide) rfl) (ea_cons (fld (x := "InvalidText") (k1 rfl) (by decide) (by decide) rfl) ea_nil)))) (by show 4 ≤ sizeLine; decide))) ?_
  refine q_asg (d := .lst [.int one, .int one, .int one, .int one, .int one, .int one]) (EvF.p (ef_op (ep_var rfl) (EvF.p (ef_lst (ea_cons (fld (x := "InvalidTable") (k1 rfl) (by decide) (by decide) rfl) (ea_cons (fld (x := "NotEnough") (k1 rfl) (by decide) (by decide) rfl) ea_nil)) (by show 2 ≤ sizeLine; decide))) (rdf_cat (by show 4 + 2 ≤ sizeLine; decide)))) ?_
  refine q_asgF (ef_lst (ea_cons (row (i := 17) rfl rfl) (ea_cons (row (i := 18) rfl rfl) (ea_cons (row (i := 19) rfl rfl) (ea_cons (k2 rfl rfl) (ea_cons (k2 rfl rfl) ea_nil))))) (by show 5 ≤ sizeLine; decide)) ?_
  refine q_app (i := 9) (.inl rfl) (k2 rfl rfl) (by show 5 < sizeLine; decide) ?_
  refine sw_frz (i := 9) rfl ?_
  show SW _ [.sh (.scr a ns p), .own bg', .sh (.str wd), e3, .sh (.int one), .sh (.int two), .sh (.lst (rowsD cA one two)), .un, .sh (.lst [.int one, .int one, .int one, .int one, .int one, .int one]), .sh (.lst ((["InvalidColumns", "NotFitting", "NotSingle", "InvalidColumns", "NotFitting", "NotSingle"] : List Str).map fun x => exD (cA x) [("entry", .int two), ("leaf", .int one)])), .un] _
  have al1 : Al 1 (.lst [.int one, .int one, .int one, .int one, .int one, .int one]) := .lst (by show 6 ≤ 1000; decide) fun d hd => by
    simp only [List.mem_cons, List.not_mem_nil, or_false, or_self] at hd
    subst hd; exact .int
  have al2 : Al 2 (.lst [.tup [.int one, .int two], .tup [.int one, .int two], .tup [.int one, .int two], .tup [.int one, .int two], .tup [.int one, .int two], .tup [.int one, .int two]]) := .lst (by show 6 ≤ 1000; decide) fun d hd => by
    simp only [List.mem_cons, List.not_mem_nil, or_false, or_self] at hd
    subst hd
    refine .tup (by show 2 ≤ 1000; decide) fun d hd => ?_
    simp only [List.mem_cons, List.not_mem_nil, or_false] at hd
    rcases hd with rfl | rfl <;> exact .int
  refine sw_guard (b := false) (et_not (a := true) (et_B (ep_call (ea_cons (ep_var rfl) (ea_cons (EvF.p (ef_op (ef_lst (ea_cons (ep_var rfl) ea_nil) (by show 1 ≤ sizeLine; decide)).p ep_int (rdf_rep (n := 6) (by show 1 * 6 ≤ sizeLine; decide) (by decide)))) ea_nil)) ⟨_, 1, rfl, al1, by decide, rfl⟩ fun e Γ' h => h))) (fun z => by cases z) fun _ => ?_
  refine sw_ret (ep_call (ea_cons (EvF.p (ef_map (["InvalidColumns", "NotFitting", "NotSingle", "InvalidColumns", "NotFitting", "NotSingle"] : List Str) (fun x => exD (cA x) [("entry", .int two), ("leaf", .int one)]) (fun _ => .tup [.int one, .int two]) (wi_list (ep_var rfl)) (by rw [sizeLine_eq]; decide) fun x hx => ⟨_, gv_name (by decide), ?_⟩)) (ea_cons (EvF.p (ef_op (ef_lst (ea_cons (ep_tup (ea_cons (ep_var rfl) (ea_cons (ep_var rfl) ea_nil)) (by show 2 ≤ sizeLine; decide)) ea_nil) (by show 1 ≤ sizeLine; decide)).p ep_int (rdf_rep (n := 6) (by show 1 * 6 ≤ sizeLine; decide) (by decide)))) ea_nil)) ⟨_, 2, rfl, al2, by decide, rfl⟩ fun e Γ' h => h) ⟨rfl, trivial⟩
  have hm : ∀ x ∈ (["InvalidColumns", "NotFitting", "NotSingle", "InvalidColumns", "NotFitting", "NotSingle"] : List Str), x ∈ exAll ∧ (x, ("leaf" : Str)) ∈ exFs ∧ (x, ("entry" : Str)) ∈ exFs := by decide
  obtain ⟨m1, m2, m3⟩ := hm x hx
  exact ep_tup (ea_cons (fld (x := x) (ep_var rfl) m1 m2 rfl) (ea_cons (ep_xa (ep_var rfl) (XX.xf x m1) (no (x, "entry") m3) rfl fun F => rfl) ea_nil)) (by show 2 ≤ sizeLine; decide)
theorem law_sp (K : PySem.W.Frag) (H : Hp) (a : Addr) (ns : List Int) (_ : Only H) (h : SqL K H a (ns.map V.int)) : spE (C_law K) [.ref a] H (fun v _ => v = .bl true) fun _ _ _ => False := by
  refine ⟨_, H, _, fun d _ => d = .bl true, good_args (es := [.scr a ns (KLs K a (ns.map V.int))]) (Ex.refl H) ⟨_, _, rfl, ⟨rfl, ?_⟩, rfl⟩, argOk_sh _, ⟨a, ns, _, rfl, id, rfl⟩, fun v d Γ' F' H' hr G' x r => ?_⟩
  · rcases h with (h | h) | h
    · exact .inl h
    · exact .inr (.inl h)
    · exact .inr (.inr h)
  · subst hr
    exact r
end
end Lx
set_option Elab.async false
set_option linter.all false
set_option maxRecDepth 100000
set_option autoImplicit false
set_option maxHeartbeats 4000000
/-! A5: what the top leaves, by names; the law's promise from it. -/
namespace Lx
open PySem PySem.Spec PyProof.Rows L2 DL XS
abbrev PX : Program := PySem.Challenge.rw_levelcolumns_k78_errors_made.prog
def exV : List Str := ["InvalidText", "InvalidTable", "NotEnough", "InvalidColumns", "NotFitting", "NotSingle"]
/-- what is asked of the own exceptions -/
structure Own (K : PySem.W.Frag) : Prop where
  e1 : (exAll.all fun x => excB K (He.ga K x)) = true
  e2 : (exAll.all fun x => ex20.all fun y => decide (PySem.W.kitOne K (.ref (He.ga K x)) (.ref (He.ga K y)) = some (decide (x = y)))) = true
  e3 : (ex20.all fun x => decide (PySem.W.kitOne K (.ref (He.ga K x)) (.ref (He.ga K "ColumnError")) = some true) && decide (PySem.W.kitOne K (.ref (He.ga K x)) (.type "ValueError") = some true)) = true
  e4 : (exFs.all fun p => decide (PySem.W.findIn K (.ref (He.ga K p.1)) p.2 = some none)) = true
  e5 : (exV.all fun x => oexB K (He.ga K x) && suB PX.main.file K (He.ga K x) (He.ma K (He.ga K x) "__init__") (x ++ ".__init__")) = true
  f_InvalidText : fnA K (He.ma K (He.ga K "InvalidText") "__init__") = some (Str.ofString "__init__", Str.ofString "InvalidText.__init__", defArgs s_InvalidText, FuncBody.stmts (defBody s_InvalidText), defScope s_InvalidText, mainGlobals, [(("__class__" : Str), ccA K (He.ma K (He.ga K "InvalidText") "__init__"))], builtinsNs)
  f_InvalidTable : fnA K (He.ma K (He.ga K "InvalidTable") "__init__") = some (Str.ofString "__init__", Str.ofString "InvalidTable.__init__", defArgs s_InvalidTable, FuncBody.stmts (defBody s_InvalidTable), defScope s_InvalidTable, mainGlobals, [(("__class__" : Str), ccA K (He.ma K (He.ga K "InvalidTable") "__init__"))], builtinsNs)
  f_NotEnough : fnA K (He.ma K (He.ga K "NotEnough") "__init__") = some (Str.ofString "__init__", Str.ofString "NotEnough.__init__", defArgs s_NotEnough, FuncBody.stmts (defBody s_NotEnough), defScope s_NotEnough, mainGlobals, [(("__class__" : Str), ccA K (He.ma K (He.ga K "NotEnough") "__init__"))], builtinsNs)
  f_InvalidColumns : fnA K (He.ma K (He.ga K "InvalidColumns") "__init__") = some (Str.ofString "__init__", Str.ofString "InvalidColumns.__init__", defArgs s_InvalidColumns, FuncBody.stmts (defBody s_InvalidColumns), defScope s_InvalidColumns, mainGlobals, [(("__class__" : Str), ccA K (He.ma K (He.ga K "InvalidColumns") "__init__"))], builtinsNs)
  f_NotFitting : fnA K (He.ma K (He.ga K "NotFitting") "__init__") = some (Str.ofString "__init__", Str.ofString "NotFitting.__init__", defArgs s_NotFitting, FuncBody.stmts (defBody s_NotFitting), defScope s_NotFitting, mainGlobals, [(("__class__" : Str), ccA K (He.ma K (He.ga K "NotFitting") "__init__"))], builtinsNs)
  f_NotSingle : fnA K (He.ma K (He.ga K "NotSingle") "__init__") = some (Str.ofString "__init__", Str.ofString "NotSingle.__init__", defArgs s_NotSingle, FuncBody.stmts (defBody s_NotSingle), defScope s_NotSingle, mainGlobals, [(("__class__" : Str), ccA K (He.ma K (He.ga K "NotSingle") "__init__"))], builtinsNs)
def fn : List He.DefD :=
  let g := fun (x : Str) (s : Stmt) => (⟨(x, none), x, x, defArgs s, defBody s, defScope s, [], []⟩ : He.DefD)
  [g "_law_bag" s__law_bag, g "_law_stirred" s__law_stirred, g "_law_draw" s__law_draw, g "_law_alike" s__law_alike, g "_law_of" s__law_of, g "law" s_law]
def gls : List Str := (["_law_bag", "_law_stirred", "_law_draw", "_law_alike", "_law_of", "law"] : List Str) ++ exAll
def frs : List Str := ["len", "abs", "range", "tuple", "list", "int", "bool", "str", "all", "isinstance", "ValueError", "super"]
def fa : List He.Fa := gls.map .glo ++ frs.map .free ++ exNs.map .exc
section
variable {w : World} {K : PySem.W.Frag} {h : Heap} {mg : Str → Option Value}
theorem fact_of (c : He.SaysD fa fn K) {f : He.Fa} (m : f ∈ fa) : f.ok K = true :=
  List.all_eq_true.mp (He.ba (show ((fa.all fun f => f.ok K) && fn.all fun d => d.ok K) = true from congrArg (fun z : He.AlD => z.1) c)).1 f m
theorem glo (c : He.SaysD fa fn K) (X : K.In h) (G : h.Ns mainGlobals mg) {x : Str} (m : x ∈ gls) : mg x = some (.ref (He.ga K x)) := He.glo_ok X G (fact_of c (by unfold fa; simp only [List.mem_append]; exact .inl (.inl (List.mem_map_of_mem m))))
theorem fre (c : He.SaysD fa fn K) (X : K.In h) (G : h.Ns mainGlobals mg) {x : Str} (m : x ∈ frs) : mg x = none := He.free_ok X G (fact_of c (by unfold fa; simp only [List.mem_append]; exact .inl (.inr (List.mem_map_of_mem m))))
theorem exc_ (c : He.SaysD fa fn K) {x : Str} (m : x ∈ exNs) : (He.Fa.exc x).ok K = true := fact_of c (by unfold fa; simp only [List.mem_append]; exact .inr (List.mem_map_of_mem m))
theorem exs_of (c : He.SaysD fa fn K) (X : K.In h) (G : h.Ns mainGlobals mg) (O : Own K) : Xs K mg (He.ga K) where
  g_ := fun x hx => ⟨_, glo c X G (List.mem_append.mpr (.inr hx)), rfl⟩
  n_ := fun x hx => by
    obtain ⟨q1, q2, _⟩ := He.exc_ok (exc_ c hx)
    have hx' : x ∈ exAll := (by decide : ∀ x ∈ exNs, x ∈ exAll) x hx
    exact ⟨q1, glo c X G (List.mem_append.mpr (.inr hx')), q2⟩
  cc := fun x hx => (exc_of (List.all_eq_true.mp O.e1 x hx)).1
  k := fun x hx y hy => of_decide_eq_true (List.all_eq_true.mp (List.all_eq_true.mp O.e2 x hx) y hy)
  kC := fun x hx => of_decide_eq_true (Bool.and_eq_true_iff.mp (List.all_eq_true.mp O.e3 x hx)).1
  kV := fun x hx => of_decide_eq_true (Bool.and_eq_true_iff.mp (List.all_eq_true.mp O.e3 x hx)).2
  xf := fun x hx => (exc_of (List.all_eq_true.mp O.e1 x hx)).2
theorem mk_InvalidText {base : Heap} (c : He.SaysD fa fn K) (X : K.In h) (G : h.Ns mainGlobals mg) (O : Own K) : MakX PX w K mg base 1 "InvalidText" (He.ga K "InvalidText") ["place"] (spX (He.ga K "InvalidText") (I1 "place")) := by
  obtain ⟨q1, q2⟩ := Bool.and_eq_true_iff.mp (List.all_eq_true.mp O.e5 "InvalidText" (by decide))
  have ox := oex_of q1
  obtain ⟨cda, oc, od, kV, doc, pm, ct, an, osl, T, iC, tI, lk⟩ := su_of (P := PX) (mg := mg) (N := ["self", "place"]) (ps := ["self", "place"]) ox O.f_InvalidText q2 sc_InvalidText ⟨_, rfl, rfl⟩ ⟨_, rfl, rfl⟩ (by decide +kernel) (fre c X G (by decide))
  refine ⟨_, _, ok_InvalidText T (of_decide_eq_true (List.all_eq_true.mp O.e4 ("InvalidText", ("place" : Str)) (by decide))) lk, glo c X G (by decide), ox, iC, tI, fun s us hl => ?_, fun s u us hl => ?_⟩
  · exact match us, hl with | [_, _], _ => .of_eq rfl
  · exact match us, hl with | [_], _ => .of_eq rfl
theorem mk_InvalidTable {base : Heap} (c : He.SaysD fa fn K) (X : K.In h) (G : h.Ns mainGlobals mg) (O : Own K) : MakX PX w K mg base 1 "InvalidTable" (He.ga K "InvalidTable") ["index"] (spX (He.ga K "InvalidTable") (I1 "index")) := by
  obtain ⟨q1, q2⟩ := Bool.and_eq_true_iff.mp (List.all_eq_true.mp O.e5 "InvalidTable" (by decide))
  have ox := oex_of q1
  obtain ⟨cda, oc, od, kV, doc, pm, ct, an, osl, T, iC, tI, lk⟩ := su_of (P := PX) (mg := mg) (N := ["self", "index"]) (ps := ["self", "index"]) ox O.f_InvalidTable q2 sc_InvalidTable ⟨_, rfl, rfl⟩ ⟨_, rfl, rfl⟩ (by decide +kernel) (fre c X G (by decide))
  refine ⟨_, _, ok_InvalidTable T (of_decide_eq_true (List.all_eq_true.mp O.e4 ("InvalidTable", ("index" : Str)) (by decide))) lk, glo c X G (by decide), ox, iC, tI, fun s us hl => ?_, fun s u us hl => ?_⟩
  · exact match us, hl with | [_, _], _ => .of_eq rfl
  · exact match us, hl with | [_], _ => .of_eq rfl
theorem mk_NotEnough {base : Heap} (c : He.SaysD fa fn K) (X : K.In h) (G : h.Ns mainGlobals mg) (O : Own K) : MakX PX w K mg base 1 "NotEnough" (He.ga K "NotEnough") ["node"] (spX (He.ga K "NotEnough") (I1 "node")) := by
  obtain ⟨q1, q2⟩ := Bool.and_eq_true_iff.mp (List.all_eq_true.mp O.e5 "NotEnough" (by decide))
  have ox := oex_of q1
  obtain ⟨cda, oc, od, kV, doc, pm, ct, an, osl, T, iC, tI, lk⟩ := su_of (P := PX) (mg := mg) (N := ["self", "node"]) (ps := ["self", "node"]) ox O.f_NotEnough q2 sc_NotEnough ⟨_, rfl, rfl⟩ ⟨_, rfl, rfl⟩ (by decide +kernel) (fre c X G (by decide))
  refine ⟨_, _, ok_NotEnough T (of_decide_eq_true (List.all_eq_true.mp O.e4 ("NotEnough", ("node" : Str)) (by decide))) lk, glo c X G (by decide), ox, iC, tI, fun s us hl => ?_, fun s u us hl => ?_⟩
  · exact match us, hl with | [_, _], _ => .of_eq rfl
  · exact match us, hl with | [_], _ => .of_eq rfl
theorem mk_InvalidColumns {base : Heap} (c : He.SaysD fa fn K) (X : K.In h) (G : h.Ns mainGlobals mg) (O : Own K) : MakX PX w K mg base 1 "InvalidColumns" (He.ga K "InvalidColumns") ["leaf", "entry"] (spX (He.ga K "InvalidColumns") (I2 "leaf" "entry")) := by
  obtain ⟨q1, q2⟩ := Bool.and_eq_true_iff.mp (List.all_eq_true.mp O.e5 "InvalidColumns" (by decide))
  have ox := oex_of q1
  obtain ⟨cda, oc, od, kV, doc, pm, ct, an, osl, T, iC, tI, lk⟩ := su_of (P := PX) (mg := mg) (N := ["self", "leaf", "entry"]) (ps := ["self", "leaf", "entry"]) ox O.f_InvalidColumns q2 sc_InvalidColumns ⟨_, rfl, rfl⟩ ⟨_, rfl, rfl⟩ (by decide +kernel) (fre c X G (by decide))
  refine ⟨_, _, ok_InvalidColumns T (of_decide_eq_true (List.all_eq_true.mp O.e4 ("InvalidColumns", ("leaf" : Str)) (by decide))) (of_decide_eq_true (List.all_eq_true.mp O.e4 ("InvalidColumns", ("entry" : Str)) (by decide))) lk, glo c X G (by decide), ox, iC, tI, fun s us hl => ?_, fun s u us hl => ?_⟩
  · exact match us, hl with | [_, _, _], _ => .of_eq rfl
  · exact match us, hl with | [_, _], _ => .of_eq rfl
theorem mk_NotFitting {base : Heap} (c : He.SaysD fa fn K) (X : K.In h) (G : h.Ns mainGlobals mg) (O : Own K) : MakX PX w K mg base 1 "NotFitting" (He.ga K "NotFitting") ["leaf", "entry"] (spX (He.ga K "NotFitting") (I2 "leaf" "entry")) := by
  obtain ⟨q1, q2⟩ := Bool.and_eq_true_iff.mp (List.all_eq_true.mp O.e5 "NotFitting" (by decide))
  have ox := oex_of q1
  obtain ⟨cda, oc, od, kV, doc, pm, ct, an, osl, T, iC, tI, lk⟩ := su_of (P := PX) (mg := mg) (N := ["self", "leaf", "entry"]) (ps := ["self", "leaf", "entry"]) ox O.f_NotFitting q2 sc_NotFitting ⟨_, rfl, rfl⟩ ⟨_, rfl, rfl⟩ (by decide +kernel) (fre c X G (by decide))
  refine ⟨_, _, ok_NotFitting T (of_decide_eq_true (List.all_eq_true.mp O.e4 ("NotFitting", ("leaf" : Str)) (by decide))) (of_decide_eq_true (List.all_eq_true.mp O.e4 ("NotFitting", ("entry" : Str)) (by decide))) lk, glo c X G (by decide), ox, iC, tI, fun s us hl => ?_, fun s u us hl => ?_⟩
  · exact match us, hl with | [_, _, _], _ => .of_eq rfl
  · exact match us, hl with | [_, _], _ => .of_eq rfl
theorem mk_NotSingle {base : Heap} (c : He.SaysD fa fn K) (X : K.In h) (G : h.Ns mainGlobals mg) (O : Own K) : MakX PX w K mg base 1 "NotSingle" (He.ga K "NotSingle") ["leaf", "entry"] (spX (He.ga K "NotSingle") (I2 "leaf" "entry")) := by
  obtain ⟨q1, q2⟩ := Bool.and_eq_true_iff.mp (List.all_eq_true.mp O.e5 "NotSingle" (by decide))
  have ox := oex_of q1
  obtain ⟨cda, oc, od, kV, doc, pm, ct, an, osl, T, iC, tI, lk⟩ := su_of (P := PX) (mg := mg) (N := ["self", "leaf", "entry"]) (ps := ["self", "leaf", "entry"]) ox O.f_NotSingle q2 sc_NotSingle ⟨_, rfl, rfl⟩ ⟨_, rfl, rfl⟩ (by decide +kernel) (fre c X G (by decide))
  refine ⟨_, _, ok_NotSingle T (of_decide_eq_true (List.all_eq_true.mp O.e4 ("NotSingle", ("leaf" : Str)) (by decide))) (of_decide_eq_true (List.all_eq_true.mp O.e4 ("NotSingle", ("entry" : Str)) (by decide))) lk, glo c X G (by decide), ox, iC, tI, fun s us hl => ?_, fun s u us hl => ?_⟩
  · exact match us, hl with | [_, _, _], _ => .of_eq rfl
  · exact match us, hl with | [_, _], _ => .of_eq rfl
theorem facts {f : Addr} (X : K.In h) (G : h.Ns mainGlobals mg) (hfa : mg ("law" : Str) = some (.ref f)) (c : He.SaysD fa fn K) (O : Own K) :
    ∃ fd : FuncData, (∀ (s : Shared) (v : Value), BindsTo s fd ⟨[v], []⟩ [("script", v)]) ∧ ∀ base : Heap, K.In base → base.Ns mainGlobals mg → FnG PX w K mg base 5 f fd ["script"] (spE (C_law K)) := by
  have TX : Tx mg := ⟨fre c X G (by decide), fre c X G (by decide), fre c X G (by decide), fre c X G (by decide), fre c X G (by decide), fre c X G (by decide), fre c X G (by decide), fre c X G (by decide), fre c X G (by decide), fre c X G (by decide), fre c X G (by decide)⟩
  have XX := exs_of c X G O
  obtain ⟨d0, F0⟩ := c.def_ 0 rfl
  obtain ⟨d1, F1⟩ := c.def_ 1 rfl
  obtain ⟨d2, F2⟩ := c.def_ 2 rfl
  obtain ⟨d3, F3⟩ := c.def_ 3 rfl
  obtain ⟨d4, F4⟩ := c.def_ 4 rfl
  obtain ⟨d5, F5⟩ := c.def_ 5 rfl
  have G0 : FnP K "_law_bag" s__law_bag (He.ga K "_law_bag") d0 := F0
  have G1 : FnP K "_law_stirred" s__law_stirred (He.ga K "_law_stirred") d1 := F1
  have G2 : FnP K "_law_draw" s__law_draw (He.ga K "_law_draw") d2 := F2
  have G3 : FnP K "_law_alike" s__law_alike (He.ga K "_law_alike") d3 := F3
  have G4 : FnP K "_law_of" s__law_of (He.ga K "_law_of") d4 := F4
  have G5 : FnP K "law" s_law (He.ga K "law") d5 := F5
  have b0 : Binds K d0 ["script"] [] := G0.bindsN fun _ _ _ _ _ _ us hl => match us, hl with | [_], _ => rfl
  have b1 : Binds K d1 ["bag", "many"] [] := G1.bindsN fun _ _ _ _ _ _ us hl => match us, hl with | [_, _], _ => rfl
  have b2 : Binds K d2 ["bag", "many"] [] := G2.bindsN fun _ _ _ _ _ _ us hl => match us, hl with | [_, _], _ => rfl
  have b3 : Binds K d3 ["found", "due"] [] := G3.bindsN fun _ _ _ _ _ _ us hl => match us, hl with | [_, _], _ => rfl
  have b4 : Binds K d4 ["made"] [] := G4.bindsN fun _ _ _ _ _ _ us hl => match us, hl with | [_], _ => rfl
  have b5 := FunD.bindsA (ps := ["script"]) G5 fun _ _ _ _ _ _ us hl => match us, hl with | [_], _ => rfl
  have g := fun x hx => glo c X G (x := x) hx
  have el := hfa.symm.trans (g "law" (by decide))
  cases el
  refine ⟨d5, fun s v => b5 s [v] rfl, fun base _ _ => ?_⟩
  have cal : ∀ {x : Str} {st : Stmt} {fd : FuncData} {ps : List Str} {k : Nat} {sp : L2.Sp}, FnP K x st (He.ga K x) fd → Binds K fd ps [] → x ∈ gls → FnOk PX w K mg base CX0 k (He.ga K x) fd ps sp → Cal PX w K mg base k x sp := fun {x st fd ps k sp} F b m q => ⟨_, fd, ps, q, g x m, F.kp, b⟩
  have cBag := cal G0 b0 (by decide) (ok_bag (base := base) (P := PX) (w := w) TX G0)
  have cStir := cal G1 b1 (by decide) (ok_stirred (base := base) (P := PX) (w := w) TX G1)
  have cDraw := cal G2 b2 (by decide) (ok_draw TX cStir G2)
  have cAlike := cal G3 b3 (by decide) (ok_alike (base := base) (P := PX) (w := w) TX G3 G3.kp (g _ (by decide)) b3 3)
  have cOf := cal G4 b4 (by decide) (ok_of (base := base) (P := PX) (w := w) TX XX G4)
  exact DL.FnOk.g (ok_law TX XX (fun p hp => of_decide_eq_true (List.all_eq_true.mp O.e4 p hp)) cBag cDraw cAlike cOf (mk_InvalidText c X G O) (mk_InvalidTable c X G O) (mk_NotEnough c X G O) (mk_InvalidColumns c X G O) (mk_NotFitting c X G O) (mk_NotSingle c X G O) G5)
end
end Lx
section
set_option Elab.async false
set_option maxRecDepth 100000
set_option maxHeartbeats 0
open PySem W PyProof Rows
open_top hd for PySem.Challenge.rw_levelcolumns_k78_errors_made
end
set_option Elab.async false
set_option linter.all false
set_option maxRecDepth 100000
set_option maxHeartbeats 0
namespace Lx
open PySem PySem.Spec PyProof.Rows L2 DL XS
theorem says4 (P : Params) : He.SaysD fa fn (hd.heap_39 P) := by
  show He.obsD fa fn (hd.heap_39 P) = He.valD fn
  kernel_rfl
theorem own4 (P : Params) : Own (hd.heap_39 P) where
  e1 := by kernel_rfl
  e2 := by kernel_rfl
  e3 := by kernel_rfl
  e4 := by kernel_rfl
  e5 := by kernel_rfl
  f_InvalidText := by kernel_rfl
  f_InvalidTable := by kernel_rfl
  f_NotEnough := by kernel_rfl
  f_InvalidColumns := by kernel_rfl
  f_NotFitting := by kernel_rfl
  f_NotSingle := by kernel_rfl
end Lx
open PySem PySem.W PyProof.Rows in
theorem PySem.Challenge.cw_levelcolumns_k78_errors_made_holds : PySem.Challenge.rw_levelcolumns_k78_errors_made.Holds := by
  refine hd (DL.walkG (l := PySem.Challenge.rw_levelcolumns_k78_errors_made) (n := 63) (k := 5) (px := "script") (KP := hd.heap_39) (pr := fun K => DL.spE (Lx.C_law K)) rfl (by decide) rfl ⟨rfl, by decide, by decide⟩ (fun w h Y => PySem.W.kIn_of Y) ?F fun K H a ns h1 h2 => Lx.law_sp K H a ns h1 h2)
  intro w mg f h X G hm
  exact Lx.facts X G hm (Lx.says4 _) (Lx.own4 _)
