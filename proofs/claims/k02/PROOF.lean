import PyProof.Rows.All
import Wide.All
import OpenK.AllK
import Wide.FinOn
import HandS.ForMost
import HandS.ForExc
import HandS.Evl
import HandS.Deep
import HandS.Wide
import HandS.Gcd
import HandS.Flow
import HandS.Style
import HandS.NoneIn
import HandS.IsInst
import HandS.ExcIs
import HandS.ExcInit
import HandS.Defaults
import HandS.Property
import HandS.OwnEq
import KE.KExcIs
import HandS.ExcField
import HandS.MakeKwOnly
import HandS.Ends
import HandS.More
import PySem.Challenge.RW_closechains_k02_what_is_a_point
set_option Elab.async false
set_option linter.all false
set_option maxRecDepth 100000
set_option maxHeartbeats 4000000
set_option exponentiation.threshold 20000
namespace DL
open PySem PySem.Spec PyProof.Rows L2 Evl

/-! ## what values mean as data -/
def keyD : Key → PyData
  | .inl i => .int i
  | .inr x => .str x
inductive Lf : V → PyData → Prop
  | non : Lf .non .none
  | bl (b : Bool) : Lf (.bl b) (.bool b)
  | int (i : Int) : Lf (.int i) (.int i)
  | str (x : Str) : Lf (.str x) (.str x)
abbrev KvD : List (Key × V) → List (PyData × PyData) → Prop := Paired fun p q => keyD p.1 = q.1 ∧ Lf p.2 q.2
mutual
inductive Dd (K : PySem.W.Frag) (H : Hp) : V → PyData → Prop
  | non : Dd K H .non .none
  | bl (b : Bool) : Dd K H (.bl b) (.bool b)
  | int (i : Int) : Dd K H (.int i) (.int i)
  | str (x : Str) : Dd K H (.str x) (.str x)
  | lst {a : Addr} {xs : List V} {ds : List PyData} : H a = some (.lst xs) → DdAll K H xs ds → Dd K H (.ref a) (.list ds)
  | tup {a : Addr} {xs : List V} {ds : List PyData} : SqT K H a xs → DdAll K H xs ds → Dd K H (.ref a) (.tuple ds)
  | dct {a : Addr} {kvs : List (Key × V)} {ds : List (PyData × PyData)} : H a = some (.dK kvs) → KvD kvs ds → Dd K H (.ref a) (.dict ds)
inductive DdAll (K : PySem.W.Frag) (H : Hp) : List V → List PyData → Prop
  | nil : DdAll K H [] []
  | cons {v : V} {vs : List V} {d : PyData} {ds : List PyData} : Dd K H v d → DdAll K H vs ds → DdAll K H (v :: vs) (d :: ds)
end
section
variable {K : PySem.W.Frag} {H H' : Hp}
mutual
theorem Dd.mono (e : Ex H H') : ∀ {v : V} {d : PyData}, Dd K H v d → Dd K H' v d
  | _, _, .non => .non
  | _, _, .bl b => .bl b
  | _, _, .int i => .int i
  | _, _, .str x => .str x
  | _, _, .lst h a => .lst (e _ _ h) (DdAll.mono e a)
  | _, _, .tup h a => .tup (ex_t e h) (DdAll.mono e a)
  | _, _, .dct h a => .dct (e _ _ h) a
theorem DdAll.mono (e : Ex H H') : ∀ {vs : List V} {ds : List PyData}, DdAll K H vs ds → DdAll K H' vs ds
  | _, _, .nil => .nil
  | _, _, .cons h t => .cons (Dd.mono e h) (DdAll.mono e t)
end
mutual
theorem Dd.dp : ∀ {v : V} {d : PyData}, Dd K H v d → d.hasDict = false → Dp K H v d
  | _, _, .non, _ => .non
  | _, _, .bl b, _ => .bl b
  | _, _, .int i, _ => .int i
  | _, _, .str x, _ => .str x
  | _, _, .lst h a, n => .lst (sq_of h) (DdAll.dp a (by rw [PyData.hasDict] at n; exact n))
  | _, _, .tup h a, n => .tup h (DdAll.dp a (by rw [PyData.hasDict] at n; exact n))
theorem DdAll.dp : ∀ {vs : List V} {ds : List PyData}, DdAll K H vs ds → PyData.hasDictAll ds = false → DpAll K H vs ds
  | _, _, .nil, _ => .nil
  | _, _, .cons h t, n => .cons (Dd.dp h (by rw [PyData.hasDictAll, Bool.or_eq_false_iff] at n; exact n.1)) (DdAll.dp t (by rw [PyData.hasDictAll, Bool.or_eq_false_iff] at n; exact n.2))
end
theorem DdAll.len : ∀ {vs : List V} {ds : List PyData}, DdAll K H vs ds → vs.length = ds.length
  | _, _, .nil => rfl
  | _, _, .cons _ t => by rw [List.length_cons, List.length_cons, DdAll.len t]
theorem DdAll.get : ∀ {vs : List V} {ds : List PyData} {i : Nat} {d : PyData}, DdAll K H vs ds → ds[i]? = some d → ∃ v, vs[i]? = some v ∧ Dd K H v d
  | _, _, 0, _, .cons h _, e => by
    cases e
    exact ⟨_, rfl, h⟩
  | _, _, i + 1, _, .cons _ t, e => by
    obtain ⟨v, hv, hd⟩ := DdAll.get (i := i) t e
    exact ⟨v, hv, hd⟩
theorem DdAll.set {v : V} {d : PyData} (h : Dd K H v d) : ∀ {vs : List V} {ds : List PyData} (i : Nat), DdAll K H vs ds → DdAll K H (vs.set i v) (ds.set i d)
  | _, _, _, .nil => .nil
  | _, _, 0, .cons _ t => .cons h t
  | _, _, i + 1, .cons a t => .cons a (DdAll.set h i t)
theorem DdAll.append : ∀ {vs ws : List V} {ds es : List PyData}, DdAll K H vs ds → DdAll K H ws es → DdAll K H (vs ++ ws) (ds ++ es)
  | _, _, _, _, .nil, b => b
  | _, _, _, _, .cons h t, b => .cons h (DdAll.append t b)
theorem DdAll.take : ∀ {vs : List V} {ds : List PyData} (n : Nat), DdAll K H vs ds → DdAll K H (vs.take n) (ds.take n)
  | _, _, 0, _ => by simp only [List.take_zero]; exact .nil
  | _, _, n + 1, .nil => .nil
  | _, _, n + 1, .cons h t => .cons h (DdAll.take n t)
theorem DdAll.drop : ∀ {vs : List V} {ds : List PyData} (n : Nat), DdAll K H vs ds → DdAll K H (vs.drop n) (ds.drop n)
  | _, _, 0, h => h
  | _, _, n + 1, .nil => .nil
  | _, _, n + 1, .cons h t => DdAll.drop n t
theorem DdAll.one {v : V} {d : PyData} (h : Dd K H v d) : DdAll K H [v] [d] := .cons h .nil
theorem Dd.int_inv {v : V} {i : Int} (h : Dd K H v (.int i)) : v = .int i := by cases h; rfl
theorem Dd.bl_inv {v : V} {i : Bool} (h : Dd K H v (.bool i)) : v = .bl i := by cases h; rfl
theorem Dd.str_inv {v : V} {i : Str} (h : Dd K H v (.str i)) : v = .str i := by cases h; rfl
theorem Dd.lst_inv {v : V} {ds : List PyData} (h : Dd K H v (.list ds)) : ∃ a xs, v = .ref a ∧ H a = some (.lst xs) ∧ DdAll K H xs ds := by
  cases h with
  | lst h a => exact ⟨_, _, rfl, h, a⟩
theorem Dd.tup_inv {v : V} {ds : List PyData} (h : Dd K H v (.tuple ds)) : ∃ a xs, v = .ref a ∧ SqT K H a xs ∧ DdAll K H xs ds := by
  cases h with
  | tup h a => exact ⟨_, _, rfl, h, a⟩
theorem DdAll.ints : ∀ {vs : List V} {ns : List Int}, DdAll K H vs (ns.map PyData.int) → vs = ns.map V.int
  | _, [], .nil => rfl
  | _, n :: ns, .cons h t => by
    rw [List.map_cons, Dd.int_inv h, DdAll.ints t]
theorem DdAll.of_ints : ∀ (ns : List Int), DdAll K H (ns.map V.int) (ns.map PyData.int)
  | [] => .nil
  | n :: ns => .cons (.int n) (DdAll.of_ints ns)
end

/-- data of a program: plain data; a list that is changed in place; the script; a relation; a caught error; a raw value -/
inductive D where
  | py (d : PyData)
  | own (a : Addr)
  | sc (ns : List Int)
  | rel (ns : List Int)
  | exc (e dd : Addr) (x : PyData)
  | raw (v : V)
abbrev Ow := Addr → Option (List PyData)
abbrev Ro := List (Option D)
def oset (O : Ow) (a : Addr) (ds : List PyData) : Ow := fun b => if b = a then some ds else O b
def odel (O : Ow) (a : Addr) : Ow := fun b => if b = a then none else O b
theorem oset_same {O : Ow} {a : Addr} {ds : List PyData} : oset O a ds a = some ds := if_pos rfl
theorem oset_ne {O : Ow} {a b : Addr} {ds : List PyData} (h : b ≠ a) : oset O a ds b = O b := if_neg h
theorem oset_oset {O : Ow} {a : Addr} {ds es : List PyData} : oset (oset O a ds) a es = oset O a es := by
  funext b
  unfold oset
  by_cases h : b = a
  · rw [if_pos h, if_pos h]
  · rw [if_neg h, if_neg h, if_neg h]
theorem odel_oset {O : Ow} {a : Addr} {ds : List PyData} (h : O a = none) : odel (oset O a ds) a = O := by
  funext b
  unfold odel oset
  by_cases h' : b = a
  · rw [if_pos h', h', h]
  · rw [if_neg h', if_neg h']
/-- the written part; the address of the class Relation -/
structure Gs where
  K : PySem.W.Frag
  C : Addr
def Rp (G : Gs) (B : Hp) (v : V) : D → Prop
  | .py d => Dd G.K B v d
  | .own a => v = .ref a
  | .sc ns => ∃ a, v = .ref a ∧ SqL G.K B a (ns.map V.int)
  | .rel ns => ∃ a dx t, v = .ref a ∧ B a = some (.ins G.C dx [("_numbers", .ref t)]) ∧ B dx = some (.own a) ∧ SqT G.K B t (ns.map V.int)
  | .exc e dd x => v = .ref e ∧ ∃ w, B dd = some (.xd [("value", w)]) ∧ Dd G.K B w x
  | .raw u => v = u
theorem Rp.mono {G : Gs} {B B' : Hp} (e : Ex B B') {v : V} : ∀ {d : D}, Rp G B v d → Rp G B' v d
  | .py _, h => Dd.mono e h
  | .own _, h => h
  | .sc _, ⟨a, h, s⟩ => ⟨a, h, ex_l e s⟩
  | .rel _, ⟨a, dx, t, h, i, o, s⟩ => ⟨a, dx, t, h, e _ _ i, e _ _ o, ex_t e s⟩
  | .exc _ _ _, ⟨h, w, x, s⟩ => ⟨h, w, e _ _ x, Dd.mono e s⟩
  | .raw _, h => h
/-- several -/
def Rps (G : Gs) (B : Hp) : List V → List D → Prop := Paired (Rp G B)
theorem Rps.mono {G : Gs} {B B' : Hp} (e : Ex B B') : ∀ {vs : List V} {ds : List D}, Rps G B vs ds → Rps G B' vs ds
  | _, _, .nil => .nil
  | _, _, .cons h t => .cons (Rp.mono e h) (Rps.mono e t)
theorem Rps.len {G : Gs} {B : Hp} : ∀ {vs : List V} {ds : List D}, Rps G B vs ds → vs.length = ds.length
  | _, _, .nil => rfl
  | _, _, .cons _ t => by rw [List.length_cons, List.length_cons, Rps.len t]
theorem Rps.ofDd {G : Gs} {B : Hp} : ∀ {vs : List V} {ds : List PyData}, DdAll G.K B vs ds → Rps G B vs (ds.map D.py)
  | _, _, .nil => .nil
  | _, _, .cons h t => .cons h (Rps.ofDd t)
theorem Rps.toDd {G : Gs} {B : Hp} : ∀ {vs : List V} {ds : List PyData}, Rps G B vs (ds.map D.py) → DdAll G.K B vs ds
  | _, [], .nil => .nil
  | _, d :: ds, .cons h t => .cons h (Rps.toDd t)

structure SatH (G : Gs) (B0 B H : Hp) (O : Ow) : Prop where
  e0 : Ex B0 B
  ex : Ex B H
  ow : ∀ l ds, O l = some ds → B l = none ∧ ∃ vs, H l = some (.lst vs) ∧ DdAll G.K B vs ds
structure Slots (G : Gs) (B : Hp) (σ : L2.St) (ρ : Ro) : Prop where
  len : σ.length = ρ.length
  get : ∀ (i : Nat) (d : D), ρ[i]? = some (some d) → ∃ v, σ[i]? = some (some v) ∧ Rp G B v d
section
variable {G : Gs} {B0 B B' H H' : Hp} {O : Ow} {σ : L2.St} {ρ : Ro}
theorem Slots.mono (e : Ex B B') (s : Slots G B σ ρ) : Slots G B' σ ρ := ⟨s.len, fun i d h => by
  obtain ⟨v, hv, r⟩ := s.get i d h
  exact ⟨v, hv, r.mono e⟩⟩
theorem Slots.set {v : V} {d : D} (s : Slots G B σ ρ) (i : Nat) (r : Rp G B v d) : Slots G B (σ.set i (some v)) (ρ.set i (some d)) := ⟨by rw [List.length_set, List.length_set, s.len], fun j e h => by
  rw [List.getElem?_set] at h
  by_cases hj : i = j
  · rw [if_pos hj] at h
    split at h
    · rename_i hl
      cases h
      refine ⟨v, ?_, r⟩
      rw [List.getElem?_set, if_pos hj, if_pos (by rw [s.len]; exact hl)]
    · cases h
  · rw [if_neg hj] at h
    obtain ⟨w, hw, rw'⟩ := s.get j e h
    exact ⟨w, by rw [List.getElem?_set, if_neg hj]; exact hw, rw'⟩⟩
theorem Slots.setN (s : Slots G B σ ρ) (i : Nat) : Slots G B (σ.set i none) (ρ.set i none) := ⟨by rw [List.length_set, List.length_set, s.len], fun j e h => by
  rw [List.getElem?_set] at h
  by_cases hj : i = j
  · rw [if_pos hj] at h
    split at h <;> cases h
  · rw [if_neg hj] at h
    obtain ⟨w, hw, rw'⟩ := s.get j e h
    exact ⟨w, by rw [List.getElem?_set, if_neg hj]; exact hw, rw'⟩⟩
/-- a new object becomes known -/
theorem SatH.newB {p : Addr} {o : HO} (s : SatH G B0 B H O) (hp : H p = none) : Ex B (upd B p o) ∧ SatH G B0 (upd B p o) (upd H p o) O := by
  have bp : B p = none := fresh_back s.ex hp
  have e : Ex B (upd B p o) := Ex.new bp
  refine ⟨e, s.e0.trans e, fun a u h => ?_, fun l ds h => ?_⟩
  · by_cases ha : a = p
    · subst ha
      rw [upd_same] at h ⊢
      exact h
    · rw [upd_ne ha] at h ⊢
      exact s.ex a u h
  · obtain ⟨h1, vs, h2, h3⟩ := s.ow l ds h
    have hl : l ≠ p := ne_of_none h2 hp
    exact ⟨by rw [upd_ne hl]; exact h1, vs, by rw [upd_ne hl]; exact h2, h3.mono e⟩
/-- a new object, forgotten -/
theorem SatH.newF {p : Addr} {o : HO} (s : SatH G B0 B H O) (hp : H p = none) : SatH G B0 B (upd H p o) O :=
  ⟨s.e0, fun a u h => by
    have q := s.ex a u h
    rw [upd_ne (ne_of_none q hp)]
    exact q, fun l ds h => by
    obtain ⟨h1, vs, h2, h3⟩ := s.ow l ds h
    exact ⟨h1, vs, by rw [upd_ne (ne_of_none h2 hp)]; exact h2, h3⟩⟩
/-- a new list that may change -/
theorem SatH.newO {p : Addr} {vs : List V} {ds : List PyData} (s : SatH G B0 B H O) (hp : H p = none) (hd : DdAll G.K B vs ds) : SatH G B0 B (upd H p (.lst vs)) (oset O p ds) :=
  ⟨s.e0, fun a u h => by
    have q := s.ex a u h
    rw [upd_ne (ne_of_none q hp)]
    exact q, fun l es h => by
    by_cases hl : l = p
    · subst hl
      rw [oset_same] at h
      cases h
      exact ⟨fresh_back s.ex hp, vs, upd_same, hd⟩
    · rw [oset_ne hl] at h
      obtain ⟨h1, ws, h2, h3⟩ := s.ow l es h
      exact ⟨h1, ws, by rw [upd_ne hl]; exact h2, h3⟩⟩
/-- such a list changes -/
theorem SatH.chg {p : Addr} {vs : List V} {ds es : List PyData} (s : SatH G B0 B H O) (hp : O p = some es) (hd : DdAll G.K B vs ds) : SatH G B0 B (upd H p (.lst vs)) (oset O p ds) := by
  obtain ⟨bp, _, _, _⟩ := s.ow p es hp
  exact ⟨s.e0, fun a u h => by
    have q := s.ex a u h
    have ha : a ≠ p := fun z => by
      rw [z, bp] at h
      cases h
    rw [upd_ne ha]
    exact q, fun l fs h => by
    by_cases hl : l = p
    · subst hl
      rw [oset_same] at h
      cases h
      exact ⟨bp, vs, upd_same, hd⟩
    · rw [oset_ne hl] at h
      obtain ⟨h1, ws, h2, h3⟩ := s.ow l fs h
      exact ⟨h1, ws, by rw [upd_ne hl]; exact h2, h3⟩⟩
/-- such a list becomes known -/
theorem SatH.freeze {p : Addr} {ds : List PyData} (s : SatH G B0 B H O) (hp : O p = some ds) : ∃ B', Ex B B' ∧ SatH G B0 B' H (odel O p) ∧ Dd G.K B' (.ref p) (.list ds) := by
  obtain ⟨bp, vs, h2, h3⟩ := s.ow p ds hp
  have e : Ex B (upd B p (.lst vs)) := Ex.new bp
  refine ⟨upd B p (.lst vs), e, ⟨s.e0.trans e, fun a u h => ?_, fun l es h => ?_⟩, .lst upd_same (h3.mono e)⟩
  · by_cases ha : a = p
    · subst ha
      rw [upd_same] at h
      rw [← h]
      exact h2
    · rw [upd_ne ha] at h
      exact s.ex a u h
  · by_cases hl : l = p
    · subst hl
      unfold odel at h
      rw [if_pos rfl] at h
      cases h
    · unfold odel at h
      rw [if_neg hl] at h
      obtain ⟨h1, ws, h2, h3⟩ := s.ow l es h
      exact ⟨by rw [upd_ne hl]; exact h1, ws, h2, h3.mono e⟩
end
/-! ## what a reading does with data -/
section
variable (G : Gs) (B0 : Hp)
def LE (te : TE) (ρ : Ro) (O : Ow) (κ : D → Ow → Prop) : Prop :=
  ∀ B H σ, SatH G B0 B H O → Slots G B σ ρ → ∀ Q : VK, (∀ v d B' H' O', κ d O' → Ex B B' → SatH G B0 B' H' O' → Rp G B' v d → Q v H') → te σ H Q
def LT (tt : TT) (ρ : Ro) (O : Ow) (κ : Bool → Ow → Prop) : Prop :=
  ∀ B H σ, SatH G B0 B H O → Slots G B σ ρ → ∀ Q : Bool → Hp → Prop, (∀ b B' H' O', κ b O' → Ex B B' → SatH G B0 B' H' O' → Q b H') → tt σ H Q
def LA (ta : TA) (ρ : Ro) (O : Ow) (κ : List D → Ow → Prop) : Prop :=
  ∀ B H σ, SatH G B0 B H O → Slots G B σ ρ → ∀ Q : List V → Hp → Prop, (∀ vs ds B' H' O', κ ds O' → Ex B B' → SatH G B0 B' H' O' → Rps G B' vs ds → Q vs H') → ta σ H Q
def LO (to : TO) (ρ : Ro) (O : Ow) (κ : Option Int → Ow → Prop) : Prop :=
  ∀ B H σ, SatH G B0 B H O → Slots G B σ ρ → ∀ Q : Option Int → Hp → Prop, (∀ o B' H' O', κ o O' → Ex B B' → SatH G B0 B' H' O' → Q o H') → to σ H Q
/-- operations by values -/
def LR (r : R2) (x y : D) (O : Ow) (κ : D → Ow → Prop) : Prop :=
  ∀ B H v w, SatH G B0 B H O → Rp G B v x → Rp G B w y → ∀ Q : VK, (∀ u d B' H' O', κ d O' → Ex B B' → SatH G B0 B' H' O' → Rp G B' u d → Q u H') → r v w H Q
def LU (r : V → Hp → VK → Prop) (x : D) (O : Ow) (κ : D → Ow → Prop) : Prop :=
  ∀ B H v, SatH G B0 B H O → Rp G B v x → ∀ Q : VK, (∀ u d B' H' O', κ d O' → Ex B B' → SatH G B0 B' H' O' → Rp G B' u d → Q u H') → r v H Q
def LC (r : List V → Hp → VK → Prop) (xs : List D) (O : Ow) (κ : D → Ow → Prop) : Prop :=
  ∀ B H vs, SatH G B0 B H O → Rps G B vs xs → ∀ Q : VK, (∀ u d B' H' O', κ d O' → Ex B B' → SatH G B0 B' H' O' → Rp G B' u d → Q u H') → r vs H Q
def LS (ts : TS) (ρ : Ro) (O : Ow) (N : Ro → Ow → Prop) (R : D → Ow → Prop) (Bk Ct : Ro → Ow → Prop) : Prop :=
  ∀ B H σ, SatH G B0 B H O → Slots G B σ ρ → ∀ Dn : Ends,
    (∀ B' H' σ' ρ' O', N ρ' O' → Ex B B' → SatH G B0 B' H' O' → Slots G B' σ' ρ' → Dn.nx σ' H') →
    (∀ v d B' H' O', R d O' → Ex B B' → SatH G B0 B' H' O' → Rp G B' v d → Dn.rt v H') →
    (∀ B' H' σ' ρ' O', Bk ρ' O' → Ex B B' → SatH G B0 B' H' O' → Slots G B' σ' ρ' → Dn.bk σ' H') →
    (∀ B' H' σ' ρ' O', Ct ρ' O' → Ex B B' → SatH G B0 B' H' O' → Slots G B' σ' ρ' → Dn.ct σ' H') → ts Dn σ H
def LG (g : TG) (d : D) (ρ : Ro) (O : Ow) (N : Ro → Ow → Prop) : Prop :=
  ∀ B H σ v, SatH G B0 B H O → Slots G B σ ρ → Rp G B v d → ∀ Q : L2.St → Hp → Prop, (∀ B' H' σ' ρ' O', N ρ' O' → Ex B B' → SatH G B0 B' H' O' → Slots G B' σ' ρ' → Q σ' H') → g v σ H Q
def LGs (g : TGs) (ds : List D) (ρ : Ro) (O : Ow) (N : Ro → Ow → Prop) : Prop :=
  ∀ B H σ vs, SatH G B0 B H O → Slots G B σ ρ → Rps G B vs ds → ∀ Q : L2.St → Hp → Prop, (∀ B' H' σ' ρ' O', N ρ' O' → Ex B B' → SatH G B0 B' H' O' → Slots G B' σ' ρ' → Q σ' H') → g vs σ H Q
/-- what a raise wishes -/
def WOk (W : WX) (ε : Addr → PyData → Ro → Ow → Prop) : Prop :=
  ∀ B H σ ρ O C dd x, SatH G B0 B H O → Slots G B σ ρ → ε C x ρ O → (∃ w, B dd = some (.xd [("value", w)]) ∧ Dd G.K B w x) → W (.ref C) (some dd) σ H
end
end DL

namespace DL
open PySem PySem.Spec PyProof.Rows L2 Evl

section
variable {G : Gs} {B0 : Hp} {ρ : Ro} {O : Ow} {κ : D → Ow → Prop}
/-! ## expressions -/
theorem le_var {i : Nat} {d : D} (h : ρ[i]? = some (some d)) (k : κ d O) : LE G B0 (tVar i) ρ O κ := fun B H σ s t Q q => by
  obtain ⟨v, hv, r⟩ := t.get i d h
  exact ⟨v, hv, q v d B H O k (Ex.refl B) s r⟩
theorem le_con {v : V} {d : D} (r : ∀ B, Rp G B v d) (k : κ d O) : LE G B0 (tC v) ρ O κ := fun B H σ s t Q q => q v d B H O k (Ex.refl B) s (r B)
theorem le_int {i : Int} (k : κ (.py (.int i)) O) : LE G B0 (tC (.int i)) ρ O κ := le_con (d := .py (.int i)) (fun _ => Dd.int i) k
theorem le_str {i : Str} (k : κ (.py (.str i)) O) : LE G B0 (tC (.str i)) ρ O κ := le_con (d := .py (.str i)) (fun _ => Dd.str i) k
theorem le_bl {i : Bool} (k : κ (.py (.bool i)) O) : LE G B0 (tC (.bl i)) ρ O κ := le_con (d := .py (.bool i)) (fun _ => Dd.bl i) k
theorem le_non (k : κ (.py .none) O) : LE G B0 (tC .non) ρ O κ := le_con (d := .py .none) (fun _ => Dd.non) k
theorem le_raw {v : V} (k : κ (.raw v) O) : LE G B0 (tC v) ρ O κ := le_con (d := .raw v) (fun _ => rfl) k
theorem le_op {r : R2} {ta tb : TE} (h : LE G B0 ta ρ O fun x O1 => LE G B0 tb ρ O1 fun y O2 => LR G B0 r x y O2 κ) : LE G B0 (tOp r ta tb) ρ O κ := fun B H σ s t Q q =>
  h B H σ s t _ fun v x B1 H1 O1 h1 e1 s1 r1 => h1 B1 H1 σ s1 (t.mono e1) _ fun w y B2 H2 O2 h2 e2 s2 r2 =>
    h2 B2 H2 v w s2 (r1.mono e2) r2 Q fun u d B3 H3 O3 k e3 s3 r3 => q u d B3 H3 O3 k ((e1.trans e2).trans e3) s3 r3
theorem le_un {r : V → Hp → VK → Prop} {ta : TE} (h : LE G B0 ta ρ O fun x O1 => LU G B0 r x O1 κ) : LE G B0 (tUn r ta) ρ O κ := fun B H σ s t Q q =>
  h B H σ s t _ fun v x B1 H1 O1 h1 e1 s1 r1 => h1 B1 H1 v s1 r1 Q fun u d B3 H3 O3 k e3 s3 r3 => q u d B3 H3 O3 k (e1.trans e3) s3 r3
theorem la_nil {κ : List D → Ow → Prop} (k : κ [] O) : LA G B0 tNil ρ O κ := fun B H σ s t Q q => q [] [] B H O k (Ex.refl B) s .nil
theorem la_cons {κ : List D → Ow → Prop} {ta : TE} {tr : TA} (h : LE G B0 ta ρ O fun x O1 => LA G B0 tr ρ O1 fun xs O2 => κ (x :: xs) O2) : LA G B0 (tCons ta tr) ρ O κ := fun B H σ s t Q q =>
  h B H σ s t _ fun v x B1 H1 O1 h1 e1 s1 r1 => h1 B1 H1 σ s1 (t.mono e1) _ fun vs xs B2 H2 O2 k e2 s2 r2 => q (v :: vs) (x :: xs) B2 H2 O2 k (e1.trans e2) s2 (.cons (r1.mono e2) r2)
theorem le_tup {ta : TA} (h : LA G B0 ta ρ O fun xs O1 => ∃ ds : List PyData, xs = ds.map D.py ∧ ds.length ≤ 100000 ∧ κ (.py (.tuple ds)) O1) : LE G B0 (tTup ta) ρ O κ := fun B H σ s t Q q =>
  h B H σ s t _ fun vs xs B1 H1 O1 ⟨ds, ex, hl, k⟩ e1 s1 r1 => by
    subst ex
    have rd := Rps.toDd r1
    refine ⟨sz_of (by rw [DdAll.len rd]; exact hl), fun p hp => ?_⟩
    obtain ⟨e2, s2⟩ := s1.newB (o := .tup vs) hp
    exact q _ _ _ _ O1 k (e1.trans e2) s2 (show Dd _ _ _ _ from .tup (st_of upd_same) (rd.mono e2))
theorem le_lst {ta : TA} (h : LA G B0 ta ρ O fun xs O1 => ∃ ds : List PyData, xs = ds.map D.py ∧ ds.length ≤ 100000 ∧ κ (.py (.list ds)) O1) : LE G B0 (tLst ta) ρ O κ := fun B H σ s t Q q =>
  h B H σ s t _ fun vs xs B1 H1 O1 ⟨ds, ex, hl, k⟩ e1 s1 r1 => by
    subst ex
    have rd := Rps.toDd r1
    refine ⟨sz_of (by rw [DdAll.len rd]; exact hl), fun p hp => ?_⟩
    obtain ⟨e2, s2⟩ := s1.newB (o := .lst vs) hp
    exact q _ _ _ _ O1 k (e1.trans e2) s2 (show Dd _ _ _ _ from .lst upd_same (rd.mono e2))
/-- a list that will be changed -/
theorem le_lstO {ta : TA} (h : LA G B0 ta ρ O fun xs O1 => ∃ ds : List PyData, xs = ds.map D.py ∧ ds.length ≤ 100000 ∧ ∀ p, O1 p = none → κ (.own p) (oset O1 p ds)) : LE G B0 (tLst ta) ρ O κ := fun B H σ s t Q q =>
  h B H σ s t _ fun vs xs B1 H1 O1 ⟨ds, ex, hl, k⟩ e1 s1 r1 => by
    subst ex
    have rd := Rps.toDd r1
    refine ⟨sz_of (by rw [DdAll.len rd]; exact hl), fun p hp => ?_⟩
    have s2 := s1.newO hp rd
    have op : O1 p = none := by
      cases hO : O1 p with
      | none => rfl
      | some es =>
        obtain ⟨_, ws, h2, _⟩ := s1.ow p es hO
        rw [hp] at h2
        cases h2
    exact q _ _ B1 _ _ (k p op) e1 s2 rfl
theorem le_if {tt : TT} {ta tb : TE} (h : LT G B0 tt ρ O fun b O1 => if b = true then LE G B0 ta ρ O1 κ else LE G B0 tb ρ O1 κ) : LE G B0 (tIf tt ta tb) ρ O κ := fun B H σ s t Q q =>
  h B H σ s t _ fun b B1 H1 O1 h1 e1 s1 => by
    cases b with
    | true => exact (show LE G B0 ta ρ O1 κ from h1) B1 H1 σ s1 (t.mono e1) Q fun u d B3 H3 O3 k e3 s3 r3 => q u d B3 H3 O3 k (e1.trans e3) s3 r3
    | false => exact (show LE G B0 tb ρ O1 κ from h1) B1 H1 σ s1 (t.mono e1) Q fun u d B3 H3 O3 k e3 s3 r3 => q u d B3 H3 O3 k (e1.trans e3) s3 r3
theorem le_notV {ta : TE} (h : LE G B0 ta ρ O fun x O1 => ∃ b, x = .py (.bool b) ∧ κ (.py (.bool (!b))) O1) : LE G B0 (tNotV ta) ρ O κ := fun B H σ s t Q q =>
  h B H σ s t _ fun v x B1 H1 O1 ⟨b, ex, k⟩ e1 s1 r1 => by
    subst ex
    exact ⟨b, Dd.bl_inv r1, q _ _ B1 H1 O1 k e1 s1 (show Dd _ _ _ _ from .bl _)⟩
theorem le_andV {ta tb : TE} (h : LE G B0 ta ρ O fun x O1 => ∃ b, x = .py (.bool b) ∧ if b = true then LE G B0 tb ρ O1 κ else κ (.py (.bool false)) O1) : LE G B0 (tAndV ta tb) ρ O κ := fun B H σ s t Q q =>
  h B H σ s t _ fun v x B1 H1 O1 ⟨b, ex, k⟩ e1 s1 r1 => by
    subst ex
    refine ⟨b, Dd.bl_inv r1, ?_⟩
    cases b with
    | true => exact (show LE G B0 tb ρ O1 κ from k) B1 H1 σ s1 (t.mono e1) Q fun u d B3 H3 O3 k e3 s3 r3 => q u d B3 H3 O3 k (e1.trans e3) s3 r3
    | false => exact q _ _ B1 H1 O1 k e1 s1 (show Dd _ _ _ _ from .bl _)
theorem le_orV {ta tb : TE} (h : LE G B0 ta ρ O fun x O1 => ∃ b, x = .py (.bool b) ∧ if b = true then κ (.py (.bool true)) O1 else LE G B0 tb ρ O1 κ) : LE G B0 (tOrV ta tb) ρ O κ := fun B H σ s t Q q =>
  h B H σ s t _ fun v x B1 H1 O1 ⟨b, ex, k⟩ e1 s1 r1 => by
    subst ex
    refine ⟨b, Dd.bl_inv r1, ?_⟩
    cases b with
    | true => exact q _ _ B1 H1 O1 k e1 s1 (show Dd _ _ _ _ from .bl _)
    | false => exact (show LE G B0 tb ρ O1 κ from k) B1 H1 σ s1 (t.mono e1) Q fun u d B3 H3 O3 k e3 s3 r3 => q u d B3 H3 O3 k (e1.trans e3) s3 r3
theorem le_cb {r : List V → Hp → VK → Prop} {ta : TA} (h : LA G B0 ta ρ O fun xs O1 => LC G B0 r xs O1 κ) : LE G B0 (tCB r ta) ρ O κ := fun B H σ s t Q q =>
  h B H σ s t _ fun vs xs B1 H1 O1 h1 e1 s1 r1 => h1 B1 H1 vs s1 r1 Q fun u d B3 H3 O3 k e3 s3 r3 => q u d B3 H3 O3 k (e1.trans e3) s3 r3
theorem le_chain {r r' : R2} {ta tb tc : TE} (h : LE G B0 ta ρ O fun x O1 => LE G B0 tb ρ O1 fun y O2 => LR G B0 r x y O2 fun z O3 => ∃ b, z = .py (.bool b) ∧ if b = true then LE G B0 tc ρ O3 fun w O4 => LR G B0 r' y w O4 κ else κ (.py (.bool false)) O3) :
    LE G B0 (tChain r r' ta tb tc) ρ O κ := fun B H σ s t Q q =>
  h B H σ s t _ fun v x B1 H1 O1 h1 e1 s1 r1 => h1 B1 H1 σ s1 (t.mono e1) _ fun w y B2 H2 O2 h2 e2 s2 r2 =>
    h2 B2 H2 v w s2 (r1.mono e2) r2 _ fun z d B3 H3 O3 ⟨b, ez, k⟩ e3 s3 r3 => by
      subst ez
      refine ⟨b, Dd.bl_inv r3, ?_⟩
      cases b with
      | true =>
        exact (show LE G B0 tc ρ O3 _ from k) B3 H3 σ s3 (t.mono ((e1.trans e2).trans e3)) _ fun z4 d4 B4 H4 O4 h4 e4 s4 r4 => h4 B4 H4 w z4 s4 (r2.mono (e3.trans e4)) r4 Q
          fun u d B5 H5 O5 k e5 s5 r5 => q u d B5 H5 O5 k ((((e1.trans e2).trans e3).trans e4).trans e5) s5 r5
      | false => exact q _ _ B3 H3 O3 k ((e1.trans e2).trans e3) s3 (show Dd _ _ _ _ from .bl _)
/-- weaken, or take note of what came before -/
theorem LE.imp {te : TE} {κ' : D → Ow → Prop} (h : LE G B0 te ρ O κ) (k : ∀ d O', κ d O' → κ' d O') : LE G B0 te ρ O κ' := fun B H σ s t Q q => h B H σ s t Q fun u d B1 H1 O1 x => q u d B1 H1 O1 (k d O1 x)
theorem LT.imp {te : TT} {κ κ' : Bool → Ow → Prop} (h : LT G B0 te ρ O κ) (k : ∀ d O', κ d O' → κ' d O') : LT G B0 te ρ O κ' := fun B H σ s t Q q => h B H σ s t Q fun u B1 H1 O1 x => q u B1 H1 O1 (k u O1 x)
theorem LA.imp {te : TA} {κ κ' : List D → Ow → Prop} (h : LA G B0 te ρ O κ) (k : ∀ d O', κ d O' → κ' d O') : LA G B0 te ρ O κ' := fun B H σ s t Q q => h B H σ s t Q fun u d B1 H1 O1 x => q u d B1 H1 O1 (k d O1 x)
end
/-! ## tests -/
section
variable {G : Gs} {B0 : Hp} {ρ : Ro} {O : Ow} {κ : Bool → Ow → Prop}
theorem lt_test {te : TE} (h : LE G B0 te ρ O fun x O1 => ∃ b, x = .py (.bool b) ∧ κ b O1) : LT G B0 (tTest te) ρ O κ := fun B H σ s t Q q =>
  h B H σ s t _ fun v x B1 H1 O1 ⟨b, ex, k⟩ e1 s1 r1 => by
    subst ex
    exact ⟨b, Dd.bl_inv r1, q b B1 H1 O1 k e1 s1⟩
theorem lt_and {t u : TT} (h : LT G B0 t ρ O fun b O1 => if b = true then LT G B0 u ρ O1 κ else κ false O1) : LT G B0 (tAnd t u) ρ O κ := fun B H σ s st Q q =>
  h B H σ s st _ fun b B1 H1 O1 h1 e1 s1 => by
    cases b with
    | true => exact (show LT G B0 u ρ O1 κ from h1) B1 H1 σ s1 (st.mono e1) Q fun b2 B3 H3 O3 k e3 s3 => q b2 B3 H3 O3 k (e1.trans e3) s3
    | false => exact q false B1 H1 O1 h1 e1 s1
theorem lt_or {t u : TT} (h : LT G B0 t ρ O fun b O1 => if b = true then κ true O1 else LT G B0 u ρ O1 κ) : LT G B0 (tOr t u) ρ O κ := fun B H σ s st Q q =>
  h B H σ s st _ fun b B1 H1 O1 h1 e1 s1 => by
    cases b with
    | true => exact q true B1 H1 O1 h1 e1 s1
    | false => exact (show LT G B0 u ρ O1 κ from h1) B1 H1 σ s1 (st.mono e1) Q fun b2 B3 H3 O3 k e3 s3 => q b2 B3 H3 O3 k (e1.trans e3) s3
theorem lt_not {t : TT} (h : LT G B0 t ρ O fun b O1 => κ (!b) O1) : LT G B0 (tNot t) ρ O κ := fun B H σ s st Q q => h B H σ s st _ fun b B1 H1 O1 h1 e1 s1 => q _ B1 H1 O1 h1 e1 s1
theorem lt_yes (k : κ true O) : LT G B0 tYes ρ O κ := fun B H σ s st Q q => q true B H O k (Ex.refl B) s
/-- a value's truth -/
def truD : D → Bool → Prop
  | .py .none, b => b = false
  | .py (.bool c), b => b = c
  | .py (.int i), b => b = (i != 0)
  | .py (.list ds), b => b = !ds.isEmpty
  | .py (.tuple ds), b => b = !ds.isEmpty
  | _, _ => False
def tTr (K : PySem.W.Frag) (ta : TE) : TT := fun σ H Q => ta σ H fun x H' => ∃ k, TruV K x H' k ∧ Q k H'
theorem isEmpty_len {α β : Type} : ∀ {xs : List α} {ys : List β}, xs.length = ys.length → xs.isEmpty = ys.isEmpty
  | [], [], _ => rfl
  | _ :: _, _ :: _, _ => rfl
theorem lt_tr {te : TE} (h : LE G B0 te ρ O fun x O1 => ∃ b, truD x b ∧ κ b O1) : LT G B0 (tTr G.K te) ρ O κ := fun B H σ s t Q q =>
  h B H σ s t _ fun v x B1 H1 O1 ⟨b, hb, k⟩ e1 s1 r1 => by
    refine ⟨b, ?_, q b B1 H1 O1 k e1 s1⟩
    cases x with
    | py d =>
      cases d with
      | none => cases (show Dd _ _ _ _ from r1); exact hb
      | bool c => rw [Dd.bl_inv r1]; exact hb
      | int i => rw [Dd.int_inv r1]; exact hb
      | str x => exact False.elim hb
      | list ds =>
        obtain ⟨a, xs, rfl, h1, h2⟩ := Dd.lst_inv r1
        exact Or.inl ⟨xs, sq_of (s1.ex _ _ h1), by rw [isEmpty_len h2.len]; exact hb⟩
      | tuple ds =>
        obtain ⟨a, xs, rfl, h1, h2⟩ := Dd.tup_inv r1
        exact Or.inr (Or.inl ⟨xs, ex_t s1.ex h1, by rw [isEmpty_len h2.len]; exact hb⟩)
      | dict kvs => exact False.elim hb
    | own a => exact False.elim hb
    | sc ns => exact False.elim hb
    | rel ns => exact False.elim hb
    | exc e dd x => exact False.elim hb
    | raw u => exact False.elim hb
theorem lt_trOwn {te : TE} (h : LE G B0 te ρ O fun x O1 => ∃ a ds, x = .own a ∧ O1 a = some ds ∧ κ (!ds.isEmpty) O1) : LT G B0 (tTr G.K te) ρ O κ := fun B H σ s t Q q =>
  h B H σ s t _ fun v x B1 H1 O1 ⟨a, ds, ex, ho, k⟩ e1 s1 r1 => by
    subst ex
    obtain ⟨_, vs, h2, h3⟩ := s1.ow a ds ho
    cases (show v = V.ref a from r1)
    exact ⟨_, Or.inl ⟨vs, sq_of h2, by rw [isEmpty_len h3.len]⟩, q _ B1 H1 O1 k e1 s1⟩
end
/-! ## statements -/
section
variable {G : Gs} {B0 : Hp} {ρ : Ro} {O : Ow} {N : Ro → Ow → Prop} {R : D → Ow → Prop} {Bk Ct : Ro → Ow → Prop}
theorem ls_next (k : N ρ O) : LS G B0 tNext ρ O N R Bk Ct := fun B H σ s t Dn hn hr hb hc => hn B H σ ρ O k (Ex.refl B) s t
theorem ls_brk (k : Bk ρ O) : LS G B0 tBreak ρ O N R Bk Ct := fun B H σ s t Dn hn hr hb hc => hb B H σ ρ O k (Ex.refl B) s t
theorem ls_ct (k : Ct ρ O) : LS G B0 tCont ρ O N R Bk Ct := fun B H σ s t Dn hn hr hb hc => hc B H σ ρ O k (Ex.refl B) s t
theorem ls_seq {t u : TS} (h : LS G B0 t ρ O (fun ρ1 O1 => LS G B0 u ρ1 O1 N R Bk Ct) R Bk Ct) : LS G B0 (tSeq t u) ρ O N R Bk Ct := fun B H σ s st Dn hn hr hb hc =>
  h B H σ s st { Dn with nx := u Dn } (fun B1 H1 σ1 ρ1 O1 h1 e1 s1 t1 => h1 B1 H1 σ1 s1 t1 Dn
      (fun B2 H2 σ2 ρ2 O2 k e2 s2 t2 => hn B2 H2 σ2 ρ2 O2 k (e1.trans e2) s2 t2) (fun v d B2 H2 O2 k e2 s2 r2 => hr v d B2 H2 O2 k (e1.trans e2) s2 r2)
      (fun B2 H2 σ2 ρ2 O2 k e2 s2 t2 => hb B2 H2 σ2 ρ2 O2 k (e1.trans e2) s2 t2) (fun B2 H2 σ2 ρ2 O2 k e2 s2 t2 => hc B2 H2 σ2 ρ2 O2 k (e1.trans e2) s2 t2)) hr hb hc
theorem ls_set {te : TE} {i : Nat} (h : LE G B0 te ρ O fun d O1 => N (ρ.set i (some d)) O1) : LS G B0 (tAsg te (gName i)) ρ O N R Bk Ct := fun B H σ s t Dn hn hr hb hc =>
  h B H σ s t _ fun v d B1 H1 O1 k e1 s1 r1 => hn B1 H1 _ _ O1 k e1 s1 ((t.mono e1).set i r1)
theorem ls_asg {te : TE} {g : TG} (h : LE G B0 te ρ O fun d O1 => LG G B0 g d ρ O1 N) : LS G B0 (tAsg te g) ρ O N R Bk Ct := fun B H σ s t Dn hn hr hb hc =>
  h B H σ s t _ fun v d B1 H1 O1 h1 e1 s1 r1 => h1 B1 H1 σ v s1 (t.mono e1) r1 _ fun B2 H2 σ2 ρ2 O2 k e2 s2 t2 => hn B2 H2 σ2 ρ2 O2 k (e1.trans e2) s2 t2
theorem ls_ret {te : TE} (h : LE G B0 te ρ O R) : LS G B0 (tRet te) ρ O N R Bk Ct := fun B H σ s t Dn hn hr hb hc => h B H σ s t _ hr
theorem ls_retN (h : R (.py .none) O) : LS G B0 tRetN ρ O N R Bk Ct := fun B H σ s t Dn hn hr hb hc => hr _ _ B H O h (Ex.refl B) s (show Dd _ _ _ _ from .non)
theorem ls_drop {te : TE} (h : LE G B0 te ρ O fun _ O1 => N ρ O1) : LS G B0 (tDrop te) ρ O N R Bk Ct := fun B H σ s t Dn hn hr hb hc =>
  h B H σ s t _ fun v d B1 H1 O1 k e1 s1 r1 => hn B1 H1 σ ρ O1 k e1 s1 (t.mono e1)
theorem ls_if {c : TT} {t u : TS} (h : LT G B0 c ρ O fun b O1 => if b = true then LS G B0 t ρ O1 N R Bk Ct else LS G B0 u ρ O1 N R Bk Ct) : LS G B0 (tIfS c t u) ρ O N R Bk Ct := fun B H σ s st Dn hn hr hb hc =>
  h B H σ s st _ fun b B1 H1 O1 h1 e1 s1 => by
    cases b with
    | true =>
      exact (show LS G B0 t ρ O1 N R Bk Ct from h1) B1 H1 σ s1 (st.mono e1) Dn
        (fun B2 H2 σ2 ρ2 O2 k e2 s2 t2 => hn B2 H2 σ2 ρ2 O2 k (e1.trans e2) s2 t2) (fun v d B2 H2 O2 k e2 s2 r2 => hr v d B2 H2 O2 k (e1.trans e2) s2 r2)
        (fun B2 H2 σ2 ρ2 O2 k e2 s2 t2 => hb B2 H2 σ2 ρ2 O2 k (e1.trans e2) s2 t2) (fun B2 H2 σ2 ρ2 O2 k e2 s2 t2 => hc B2 H2 σ2 ρ2 O2 k (e1.trans e2) s2 t2)
    | false =>
      exact (show LS G B0 u ρ O1 N R Bk Ct from h1) B1 H1 σ s1 (st.mono e1) Dn
        (fun B2 H2 σ2 ρ2 O2 k e2 s2 t2 => hn B2 H2 σ2 ρ2 O2 k (e1.trans e2) s2 t2) (fun v d B2 H2 O2 k e2 s2 r2 => hr v d B2 H2 O2 k (e1.trans e2) s2 r2)
        (fun B2 H2 σ2 ρ2 O2 k e2 s2 t2 => hb B2 H2 σ2 ρ2 O2 k (e1.trans e2) s2 t2) (fun B2 H2 σ2 ρ2 O2 k e2 s2 t2 => hc B2 H2 σ2 ρ2 O2 k (e1.trans e2) s2 t2)
theorem ls_par {i j : Nat} {ta : TA} (h : LA G B0 ta ρ O fun ds O1 => ∃ x y, ds = [x, y] ∧ N ((ρ.set i (some x)).set j (some y)) O1) : LS G B0 (tPar i j ta) ρ O N R Bk Ct := fun B H σ s t Dn hn hr hb hc =>
  h B H σ s t _ fun vs ds B1 H1 O1 ⟨x, y, ex, k⟩ e1 s1 r1 => by
    subst ex
    cases r1 with
    | cons rx r1 =>
      cases r1 with
      | cons ry r1 =>
        cases r1
        exact ⟨_, _, rfl, hn B1 H1 _ _ O1 k e1 s1 (((t.mono e1).set i rx).set j ry)⟩
theorem ls_par3 {i j l : Nat} {ta : TA} (h : LA G B0 ta ρ O fun ds O1 => ∃ x y z, ds = [x, y, z] ∧ N (((ρ.set i (some x)).set j (some y)).set l (some z)) O1) : LS G B0 (tPar3 i j l ta) ρ O N R Bk Ct := fun B H σ s t Dn hn hr hb hc =>
  h B H σ s t _ fun vs ds B1 H1 O1 ⟨x, y, z, ex, k⟩ e1 s1 r1 => by
    subst ex
    cases r1 with
    | cons rx r1 =>
      cases r1 with
      | cons ry r1 =>
        cases r1 with
        | cons rz r1 =>
          cases r1
          exact ⟨_, _, _, rfl, hn B1 H1 _ _ O1 k e1 s1 ((((t.mono e1).set i rx).set j ry).set l rz)⟩
theorem LS.imp {ts : TS} {N' : Ro → Ow → Prop} {R' : D → Ow → Prop} {Bk' Ct' : Ro → Ow → Prop} (h : LS G B0 ts ρ O N R Bk Ct) (hn : ∀ ρ O, N ρ O → N' ρ O) (hr : ∀ d O, R d O → R' d O) (hb : ∀ ρ O, Bk ρ O → Bk' ρ O) (hc : ∀ ρ O, Ct ρ O → Ct' ρ O) :
    LS G B0 ts ρ O N' R' Bk' Ct' := fun B H σ s t Dn a b c d => h B H σ s t Dn (fun B1 H1 σ1 ρ1 O1 k => a B1 H1 σ1 ρ1 O1 (hn _ _ k)) (fun v x B1 H1 O1 k => b v x B1 H1 O1 (hr _ _ k)) (fun B1 H1 σ1 ρ1 O1 k => c B1 H1 σ1 ρ1 O1 (hb _ _ k)) (fun B1 H1 σ1 ρ1 O1 k => d B1 H1 σ1 ρ1 O1 (hc _ _ k))
/-- a list that may change is looked at as plain data from here on (slot i) -/
theorem ls_freeze {ts : TS} {i : Nat} {p : Addr} {ds : List PyData} (hi : ρ[i]? = some (some (.own p))) (hp : O p = some ds) (h : LS G B0 ts (ρ.set i (some (.py (.list ds)))) (odel O p) N R Bk Ct) : LS G B0 ts ρ O N R Bk Ct := fun B H σ s t Dn hn hr hb hc => by
  obtain ⟨B1, e1, s1, r1⟩ := s.freeze hp
  obtain ⟨v, hv, rv⟩ := t.get i _ hi
  cases (show v = V.ref p from rv)
  have t1 := (t.mono e1).set i (show Rp G B1 (.ref p) (.py (.list ds)) from r1)
  have es : σ.set i (some (V.ref p)) = σ := by
    refine List.ext_getElem? fun j => ?_
    rw [List.getElem?_set]
    by_cases hj : i = j
    · subst hj
      rw [if_pos rfl, hv]
      split
      · rfl
      · rename_i hl
        rw [List.getElem?_eq_none (Nat.le_of_not_lt hl)] at hv
        cases hv
    · rw [if_neg hj]
  rw [es] at t1
  exact h B1 H σ s1 t1 Dn (fun B2 H2 σ2 ρ2 O2 k e2 s2 t2 => hn B2 H2 σ2 ρ2 O2 k (e1.trans e2) s2 t2) (fun v d B2 H2 O2 k e2 s2 r2 => hr v d B2 H2 O2 k (e1.trans e2) s2 r2)
        (fun B2 H2 σ2 ρ2 O2 k e2 s2 t2 => hb B2 H2 σ2 ρ2 O2 k (e1.trans e2) s2 t2) (fun B2 H2 σ2 ρ2 O2 k e2 s2 t2 => hc B2 H2 σ2 ρ2 O2 k (e1.trans e2) s2 t2)
/-- the result of an expression, a new list, is looked at as plain data -/
theorem le_freeze {te : TE} {κ : D → Ow → Prop} (h : LE G B0 te ρ O fun d O1 => ∃ p ds, d = .own p ∧ O1 p = some ds ∧ κ (.py (.list ds)) (odel O1 p)) : LE G B0 te ρ O κ := fun B H σ s t Q q =>
  h B H σ s t _ fun v d B1 H1 O1 ⟨p, ds, ed, hp, k⟩ e1 s1 r1 => by
    subst ed
    obtain ⟨B2, e2, s2, r2⟩ := s1.freeze hp
    cases (show v = V.ref p from r1)
    exact q _ _ B2 H1 _ k (e1.trans e2) s2 r2
/-! ## targets -/
theorem lg_name {i : Nat} {d : D} (k : N (ρ.set i (some d)) O) : LG G B0 (gName i) d ρ O N := fun B H σ v s t r Q q => q B H _ _ O k (Ex.refl B) s (t.set i r)
theorem lgs_nil (k : N ρ O) : LGs G B0 gNil [] ρ O N := fun B H σ vs s t r Q q => by
  cases r
  exact ⟨rfl, q B H _ _ O k (Ex.refl B) s t⟩
theorem lgs_cons {g : TG} {gs : TGs} {d : D} {ds : List D} (h : LG G B0 g d ρ O fun ρ1 O1 => LGs G B0 gs ds ρ1 O1 N) : LGs G B0 (gCons g gs) (d :: ds) ρ O N := fun B H σ vs s t r Q q => by
  cases r with
  | cons rv rs =>
    exact ⟨_, _, rfl, h B H σ _ s t rv _ fun B1 H1 σ1 ρ1 O1 h1 e1 s1 t1 => h1 B1 H1 σ1 _ s1 t1 (Rps.mono e1 rs) Q fun B2 H2 σ2 ρ2 O2 k e2 s2 t2 => q B2 H2 σ2 ρ2 O2 k (e1.trans e2) s2 t2⟩
/-- a, b = t, a tuple or a list -/
def gUn (K : PySem.W.Frag) (n : Nat) (t : TGs) : TG := fun v σ H Q => gTup K n t v σ H Q ∨ gUnl K n t v σ H Q
theorem lg_tup {g : TGs} {ds : List PyData} {n : Nat} (hn : ds.length = n) (h : LGs G B0 g (ds.map D.py) ρ O N) : LG G B0 (gTup G.K n g) (.py (.tuple ds)) ρ O N := fun B H σ v s t r Q q => by
  obtain ⟨a, xs, rfl, h1, h2⟩ := Dd.tup_inv r
  exact ⟨a, xs, rfl, ex_t s.ex h1, h2.len.trans hn, h B H σ xs s t (Rps.ofDd h2) Q q⟩
theorem lg_unl {g : TGs} {ds : List PyData} {n : Nat} (hn : ds.length = n) (h : LGs G B0 g (ds.map D.py) ρ O N) : LG G B0 (gUnl G.K n g) (.py (.list ds)) ρ O N := fun B H σ v s t r Q q => by
  obtain ⟨a, xs, rfl, h1, h2⟩ := Dd.lst_inv r
  exact ⟨a, xs, rfl, sq_of (s.ex _ _ h1), h2.len.trans hn, h B H σ xs s t (Rps.ofDd h2) Q q⟩
/-- o[i] = v of a list that may change -/
theorem lg_sub {to ti : TE} {d : D} (h : LE G B0 to ρ O fun x O1 => LE G B0 ti ρ O1 fun y O2 => ∃ (p : Addr) (ds : List PyData) (k : Int) (j : Nat) (e : PyData), x = .own p ∧ y = .py (.int k) ∧ d = .py e ∧ O2 p = some ds ∧ ixN ds.length k = some j ∧ N ρ (oset O2 p (ds.set j e))) :
    LG G B0 (gSub to ti rSetL) d ρ O N := fun B H σ v s t r Q q =>
  h B H σ s t _ fun x dx B1 H1 O1 h1 e1 s1 r1 => h1 B1 H1 σ s1 (t.mono e1) _ fun y dy B2 H2 O2 ⟨p, ds, k, j, e, ex, ey, ed, hp, hj, hn⟩ e2 s2 r2 => by
    subst ex ey ed
    cases (show x = V.ref p from r1)
    rw [Dd.int_inv r2]
    obtain ⟨_, vs, h2, h3⟩ := s2.ow p ds hp
    refine ⟨p, vs, k, j, rfl, rfl, h2, by rw [h3.len]; exact hj, ?_⟩
    have r' : Dd G.K B2 v e := Dd.mono (e1.trans e2) r
    exact q B2 _ σ ρ _ hn (e1.trans e2) (s2.chg hp (h3.set r' j)) (t.mono (e1.trans e2))
/-! ## loops -/
theorem ls_while {c : TT} {tb : TS} (I : Nat → Ro → Ow → Prop) (m0 : Nat) (h0 : I m0 ρ O)
    (hs : ∀ m ρ' O', I m ρ' O' → LT G B0 c ρ' O' fun b O1 => if b = true then LS G B0 tb ρ' O1 (fun ρ2 O2 => ∃ m', m' < m ∧ I m' ρ2 O2) R N (fun ρ2 O2 => ∃ m', m' < m ∧ I m' ρ2 O2) else N ρ' O1) :
    LS G B0 (tWhile c tb) ρ O N R Bk Ct := fun B H σ s st Dn hn hr hb hc => by
  refine ⟨fun m σ' H' => ∃ B' ρ' O', I m ρ' O' ∧ Ex B B' ∧ SatH G B0 B' H' O' ∧ Slots G B' σ' ρ', ⟨m0, B, ρ, O, h0, Ex.refl B, s, st⟩, ?_⟩
  rintro m σ' H' ⟨B', ρ', O', hI, e, s', st'⟩
  refine hs m ρ' O' hI B' H' σ' s' st' _ fun b B1 H1 O1 h1 e1 s1 => ?_
  cases b with
  | true =>
    refine ⟨_, fun σ2 H2 w => w, ?_⟩
    refine (show LS G B0 tb ρ' O1 _ R N _ from h1) B1 H1 σ' s1 (st'.mono e1) _ ?_ ?_ ?_ ?_
    · rintro B2 H2 σ2 ρ2 O2 ⟨m', hm, hI2⟩ e2 s2 t2
      exact ⟨m', hm, B2, ρ2, O2, hI2, (e.trans e1).trans e2, s2, t2⟩
    · exact fun v d B2 H2 O2 k e2 s2 r2 => hr v d B2 H2 O2 k ((e.trans e1).trans e2) s2 r2
    · exact fun B2 H2 σ2 ρ2 O2 k e2 s2 t2 => hn B2 H2 σ2 ρ2 O2 k ((e.trans e1).trans e2) s2 t2
    · rintro B2 H2 σ2 ρ2 O2 ⟨m', hm, hI2⟩ e2 s2 t2
      exact ⟨m', hm, B2, ρ2, O2, hI2, (e.trans e1).trans e2, s2, t2⟩
  | false => exact hn B1 H1 σ' ρ' O1 h1 (e.trans e1) s1 (st'.mono e1)
end
/-- what a walk gives -/
def Yl (G : Gs) (J : It) (B : Hp) (ds : List D) : Prop := ∀ B2 H2, Ex B B2 → Ex B2 H2 → (∀ i, ds.length ≤ i → J.stop i H2) ∧
  ∀ (i : Nat) (d : D), ds[i]? = some d → J.go i H2 ∧ ∀ x H3, J.yld i H2 x H3 → (H3 = H2 ∧ Rp G B2 x d) ∨ ∃ T o, H2 T = none ∧ H3 = upd H2 T o ∧ Rp G (upd B2 T o) x d
def LI (G : Gs) (B0 : Hp) (wi : TI) (ρ : Ro) (O : Ow) (κ : List D → Ow → Prop) : Prop :=
  ∀ B H σ, SatH G B0 B H O → Slots G B σ ρ → ∀ Q : It → Hp → Prop, (∀ J ds B' H' O', κ ds O' → Ex B B' → SatH G B0 B' H' O' → Yl G J B' ds → Q J H') → wi σ H Q
theorem Yl.mono {G : Gs} {J : It} {B B' : Hp} {ds : List D} (e : Ex B B') (y : Yl G J B ds) : Yl G J B' ds := fun B2 H2 e2 e3 => y B2 H2 (e.trans e2) e3
section
variable {G : Gs} {B0 : Hp} {ρ : Ro} {O : Ow} {N : Ro → Ow → Prop} {R : D → Ow → Prop} {Bk Ct : Ro → Ow → Prop}
theorem yl_list {a : Addr} {vs : List V} {ds : List PyData} {B : Hp} (h : B a = some (.lst vs)) (hd : DdAll G.K B vs ds) : Yl G (Itl G.K a) B (ds.map D.py) := fun B2 H2 e2 e3 => by
  have q : SqL G.K H2 a vs := sq_of (e3 _ _ (e2 _ _ h))
  refine ⟨fun i hi => ⟨vs, q, by rw [hd.len]; rw [List.length_map] at hi; exact hi⟩, fun i d hi => ?_⟩
  rw [List.getElem?_map] at hi
  cases hdi : ds[i]? with
  | none => rw [hdi] at hi; cases hi
  | some e =>
    rw [hdi] at hi
    cases hi
    obtain ⟨v, hv, hr⟩ := hd.get hdi
    refine ⟨⟨vs, v, q, hv⟩, fun x H3 ⟨h3, hx⟩ => Or.inl ⟨h3, ?_⟩⟩
    have := hx vs q
    rw [hv] at this
    cases this
    exact Dd.mono e2 hr
theorem yl_tup {a : Addr} {vs : List V} {ds : List PyData} {B : Hp} (h : SqT G.K B a vs) (hd : DdAll G.K B vs ds) : Yl G (Itt G.K a) B (ds.map D.py) := fun B2 H2 e2 e3 => by
  have q : SqT G.K H2 a vs := ex_t e3 (ex_t e2 h)
  refine ⟨fun i hi => ⟨vs, q, by rw [hd.len]; rw [List.length_map] at hi; exact hi⟩, fun i d hi => ?_⟩
  rw [List.getElem?_map] at hi
  cases hdi : ds[i]? with
  | none => rw [hdi] at hi; cases hi
  | some e =>
    rw [hdi] at hi
    cases hi
    obtain ⟨v, hv, hr⟩ := hd.get hdi
    refine ⟨⟨vs, v, q, hv⟩, fun x H3 ⟨h3, hx⟩ => Or.inl ⟨h3, ?_⟩⟩
    have := hx vs q
    rw [hv] at this
    cases this
    exact Dd.mono e2 hr
/-- lo, lo + 1, .. -/
def rngD (lo : Int) (n : Nat) : List D := (List.range n).map fun (i : Nat) => D.py (.int (lo + (i : Int)))
theorem yl_rng {B : Hp} (lo : Int) (n : Nat) : Yl G (Itr lo n) B (rngD lo n) := fun B2 H2 e2 e3 => by
  refine ⟨fun i hi => by unfold rngD at hi; rw [List.length_map, List.length_range] at hi; exact hi, fun i d hi => ?_⟩
  unfold rngD at hi
  rw [List.getElem?_map] at hi
  by_cases hn : i < n
  · rw [List.getElem?_range hn] at hi
    cases hi
    exact ⟨hn, fun x H3 ⟨h3, hx⟩ => Or.inl ⟨h3, by rw [hx]; exact Dd.int _⟩⟩
  · rw [List.getElem?_eq_none (by rw [List.length_range]; omega)] at hi
    cases hi
theorem li_list {te : TE} {κ : List D → Ow → Prop} (h : LE G B0 te ρ O fun x O1 => ∃ ds, x = .py (.list ds) ∧ κ (ds.map D.py) O1) : LI G B0 (iList G.K te) ρ O κ := fun B H σ s t Q q =>
  h B H σ s t _ fun v x B1 H1 O1 ⟨ds, ex, k⟩ e1 s1 r1 => by
    subst ex
    obtain ⟨a, vs, rfl, h1, h2⟩ := Dd.lst_inv r1
    exact ⟨a, rfl, ⟨vs, sq_of (s1.ex _ _ h1)⟩, q _ _ B1 H1 O1 k e1 s1 (yl_list h1 h2)⟩
theorem li_sc {te : TE} {κ : List D → Ow → Prop} (h : LE G B0 te ρ O fun x O1 => ∃ ns, x = .sc ns ∧ κ (ns.map fun n => .py (.int n)) O1) : LI G B0 (iList G.K te) ρ O κ := fun B H σ s t Q q =>
  h B H σ s t _ fun v x B1 H1 O1 ⟨ns, ex, k⟩ e1 s1 r1 => by
    subst ex
    obtain ⟨a, rfl, h1⟩ := r1
    refine ⟨a, rfl, ⟨_, ex_l s1.ex h1⟩, q _ _ B1 H1 O1 k e1 s1 fun B2 H2 e2 e3 => ?_⟩
    have q : SqL G.K H2 a (ns.map V.int) := ex_l e3 (ex_l e2 h1)
    refine ⟨fun i hi => ⟨_, q, by rw [List.length_map] at hi ⊢; exact hi⟩, fun i d hi => ?_⟩
    rw [List.getElem?_map] at hi
    cases hdi : ns[i]? with
    | none => rw [hdi] at hi; cases hi
    | some e =>
      rw [hdi] at hi
      cases hi
      have hv : (ns.map V.int)[i]? = some (.int e) := by rw [List.getElem?_map, hdi]; rfl
      refine ⟨⟨_, _, q, hv⟩, fun x H3 ⟨h3, hx⟩ => Or.inl ⟨h3, ?_⟩⟩
      have := hx _ q
      rw [hv] at this
      cases this
      exact Dd.int _
theorem li_tup {te : TE} {κ : List D → Ow → Prop} (h : LE G B0 te ρ O fun x O1 => ∃ ds, x = .py (.tuple ds) ∧ κ (ds.map D.py) O1) : LI G B0 (iTup G.K te) ρ O κ := fun B H σ s t Q q =>
  h B H σ s t _ fun v x B1 H1 O1 ⟨ds, ex, k⟩ e1 s1 r1 => by
    subst ex
    obtain ⟨a, vs, rfl, h1, h2⟩ := Dd.tup_inv r1
    exact ⟨a, rfl, ⟨vs, ex_t s1.ex h1⟩, q _ _ B1 H1 O1 k e1 s1 (yl_tup h1 h2)⟩
theorem li_rng1 {ta : TA} {κ : List D → Ow → Prop} (h : LA G B0 ta ρ O fun xs O1 => ∃ j : Int, xs = [.py (.int j)] ∧ j < 100000 ∧ -100000 < j ∧ κ (rngD 0 j.toNat) O1) : LI G B0 (iRng1 ta) ρ O κ := fun B H σ s t Q q =>
  h B H σ s t _ fun vs xs B1 H1 O1 ⟨j, ex, hj, hj2, k⟩ e1 s1 r1 => by
    subst ex
    cases r1 with
    | cons rv rs =>
      cases rs
      rw [Dd.int_inv rv]
      exact ⟨j, rfl, by omega, by omega, q _ _ B1 H1 O1 k e1 s1 (yl_rng 0 _)⟩
theorem li_rng2 {ta : TA} {κ : List D → Ow → Prop} (h : LA G B0 ta ρ O fun xs O1 => ∃ i j : Int, xs = [.py (.int i), .py (.int j)] ∧ (j < 100000 ∧ -100000 < j ∧ i < 100000 ∧ -100000 < i) ∧ κ (rngD i (j - i).toNat) O1) : LI G B0 (iRng2 ta) ρ O κ := fun B H σ s t Q q =>
  h B H σ s t _ fun vs xs B1 H1 O1 ⟨i, j, ex, hj, k⟩ e1 s1 r1 => by
    subst ex
    cases r1 with
    | cons rv rs =>
      cases rs with
      | cons ry rs =>
        cases rs
        rw [Dd.int_inv rv, Dd.int_inv ry]
        exact ⟨i, j, rfl, by omega, q _ _ B1 H1 O1 k e1 s1 (yl_rng i _)⟩
theorem yl_enum {a : Addr} {vs : List V} {ds : List PyData} {B : Hp} (h : B a = some (.lst vs)) (hd : DdAll G.K B vs ds) : Yl G (Ite G.K a) B ((List.range ds.length).map fun (i : Nat) => D.py (.tuple [.int (i : Int), ds.getD i .none])) := fun B2 H2 e2 e3 => by
  have q : SqL G.K H2 a vs := sq_of (e3 _ _ (e2 _ _ h))
  refine ⟨fun i hi => ⟨vs, q, by rw [hd.len]; rw [List.length_map, List.length_range] at hi; exact hi⟩, fun i d hi => ?_⟩
  rw [List.getElem?_map] at hi
  by_cases hn : i < ds.length
  · rw [List.getElem?_range hn] at hi
    cases hi
    have hdi : ds[i]? = some (ds.getD i .none) := by
      rw [List.getD_eq_getElem?_getD, List.getElem?_eq_getElem hn]
      rfl
    obtain ⟨v, hv, hr⟩ := hd.get hdi
    refine ⟨⟨vs, v, q, hv⟩, fun x H3 ⟨T, y, ex, hT, h3, hx⟩ => Or.inr ⟨T, _, hT, h3, ?_⟩⟩
    have := hx vs q
    rw [hv] at this
    cases this
    have b2T : B2 T = none := fresh_back e3 hT
    rw [ex]
    exact Dd.tup (st_of upd_same) (.cons (.int _) (.cons (Dd.mono (e2.trans (Ex.new b2T)) hr) .nil))
  · rw [List.getElem?_eq_none (by rw [List.length_range]; omega)] at hi
    cases hi
theorem li_enum {ta : TA} {κ : List D → Ow → Prop} (h : LA G B0 ta ρ O fun xs O1 => ∃ ds : List PyData, xs = [.py (.list ds)] ∧ κ ((List.range ds.length).map fun (i : Nat) => D.py (.tuple [.int (i : Int), ds.getD i .none])) O1) : LI G B0 (iEnum G.K ta) ρ O κ := fun B H σ s t Q q =>
  h B H σ s t _ fun vs xs B1 H1 O1 ⟨ds, ex, k⟩ e1 s1 r1 => by
    subst ex
    cases r1 with
    | cons rv rs =>
      cases rs
      obtain ⟨a, ws, rfl, h1, h2⟩ := Dd.lst_inv rv
      exact ⟨a, ws, rfl, sq_of (s1.ex _ _ h1), q _ _ B1 H1 O1 k e1 s1 (yl_enum h1 h2)⟩
theorem yl_zip {a b : Addr} {vs ws : List V} {ds es : List PyData} {B : Hp} (h : B a = some (.lst vs)) (hd : DdAll G.K B vs ds) (h' : B b = some (.lst ws)) (hd' : DdAll G.K B ws es) :
    Yl G (Itz G.K a b) B ((ds.zip es).map fun p => .py (.tuple [p.1, p.2])) := fun B2 H2 e2 e3 => by
  have q : SqL G.K H2 a vs := sq_of (e3 _ _ (e2 _ _ h))
  have q' : SqL G.K H2 b ws := sq_of (e3 _ _ (e2 _ _ h'))
  refine ⟨fun i hi => ⟨vs, ws, q, q', by rw [hd.len, hd'.len]; rw [List.length_map, List.length_zip] at hi; omega⟩, fun i d hi => ?_⟩
  rw [List.getElem?_map] at hi
  cases hz : (ds.zip es)[i]? with
  | none => rw [hz] at hi; cases hi
  | some p =>
    rw [hz] at hi
    cases hi
    obtain ⟨h1, h2⟩ := List.getElem?_zip_eq_some.mp hz
    obtain ⟨v, hv, hr⟩ := hd.get h1
    obtain ⟨w, hw, hr'⟩ := hd'.get h2
    refine ⟨⟨vs, ws, v, w, q, q', hv, hw⟩, fun x H3 ⟨T, y, z, ex, hT, h3, hx, hx'⟩ => Or.inr ⟨T, _, hT, h3, ?_⟩⟩
    have u1 := hx vs q
    rw [hv] at u1
    cases u1
    have u2 := hx' ws q'
    rw [hw] at u2
    cases u2
    have b2T : B2 T = none := fresh_back e3 hT
    rw [ex]
    exact Dd.tup (st_of upd_same) (.cons (Dd.mono (e2.trans (Ex.new b2T)) hr) (.cons (Dd.mono (e2.trans (Ex.new b2T)) hr') .nil))
theorem li_zip {ta : TA} {κ : List D → Ow → Prop} (h : LA G B0 ta ρ O fun xs O1 => ∃ ds es : List PyData, xs = [.py (.list ds), .py (.list es)] ∧ κ ((ds.zip es).map fun p => .py (.tuple [p.1, p.2])) O1) : LI G B0 (iZip G.K ta) ρ O κ := fun B H σ s t Q q =>
  h B H σ s t _ fun vs xs B1 H1 O1 ⟨ds, es, ex, k⟩ e1 s1 r1 => by
    subst ex
    cases r1 with
    | cons rv rs =>
      cases rs with
      | cons rw' rs =>
        cases rs
        obtain ⟨a, us, rfl, h1, h2⟩ := Dd.lst_inv rv
        obtain ⟨b, ws, rfl, h3, h4⟩ := Dd.lst_inv rw'
        exact ⟨a, b, us, ws, rfl, sq_of (s1.ex _ _ h1), sq_of (s1.ex _ _ h3), q _ _ B1 H1 O1 k e1 s1 (yl_zip h1 h2 h3 h4)⟩
theorem ls_for {wi : TI} {g : TG} {tb : TS}
    (h : LI G B0 wi ρ O fun ds O1 => ∃ I : Nat → Ro → Ow → Prop, I 0 ρ O1 ∧
      (∀ (i : Nat) (d : D) ρ' O', ds[i]? = some d → I i ρ' O' → LG G B0 g d ρ' O' fun ρ2 O2 => LS G B0 tb ρ2 O2 (I (i + 1)) R N (I (i + 1))) ∧ ∀ ρ' O', I ds.length ρ' O' → N ρ' O') :
    LS G B0 (tFor wi g tb) ρ O N R Bk Ct := fun B H σ s st Dn hn hr hb hc => by
  refine h B H σ s st _ fun J ds B1 H1 O1 ⟨I, i0, hs, hd⟩ e1 s1 y => ?_
  refine ⟨fun i m σ' H' => m + i = ds.length ∧ ∃ B' ρ' O', I i ρ' O' ∧ Ex B1 B' ∧ SatH G B0 B' H' O' ∧ Slots G B' σ' ρ', ⟨ds.length, rfl, B1, ρ, O1, i0, Ex.refl B1, s1, st.mono e1⟩, ?_⟩
  rintro i m σ' H' ⟨hm, B', ρ', O', hI, e, s', st'⟩
  obtain ⟨y1, y2⟩ := y B' H' e s'.ex
  by_cases hi : i < ds.length
  · right
    have hdi : ds[i]? = some ds[i] := List.getElem?_eq_getElem hi
    obtain ⟨g1, g2⟩ := y2 i _ hdi
    refine ⟨g1, _, fun σ2 H2 w => ⟨m - 1, by omega, w⟩, fun x H3 hx => ?_⟩
    have fin : ∀ B'' , Ex B' B'' → SatH G B0 B'' H3 O' → Rp G B'' x ds[i] → g x σ' H3 fun σ2 H2 => tb { Dn with nx := fun σ2 H2 => m - 1 + (i + 1) = ds.length ∧ ∃ B' ρ' O', I (i + 1) ρ' O' ∧ Ex B1 B' ∧ SatH G B0 B' H2 O' ∧ Slots G B' σ2 ρ', ct := fun σ2 H2 => m - 1 + (i + 1) = ds.length ∧ ∃ B' ρ' O', I (i + 1) ρ' O' ∧ Ex B1 B' ∧ SatH G B0 B' H2 O' ∧ Slots G B' σ2 ρ', bk := Dn.nx } σ2 H2 := by
      intro B'' e'' s'' r''
      refine hs i _ ρ' O' hdi hI B'' H3 σ' x s'' (st'.mono e'') r'' _ fun B2 H2 σ2 ρ2 O2 k e2 s2 t2 => ?_
      refine k B2 H2 σ2 s2 t2 _ ?_ ?_ ?_ ?_
      · exact fun B3 H3 σ3 ρ3 O3 k3 e3 s3 t3 => ⟨by omega, B3, ρ3, O3, k3, ((e.trans e'').trans e2).trans e3, s3, t3⟩
      · exact fun v d B3 H3 O3 k3 e3 s3 r3 => hr v d B3 H3 O3 k3 ((((e1.trans e).trans e'').trans e2).trans e3) s3 r3
      · exact fun B3 H3 σ3 ρ3 O3 k3 e3 s3 t3 => hn B3 H3 σ3 ρ3 O3 k3 ((((e1.trans e).trans e'').trans e2).trans e3) s3 t3
      · exact fun B3 H3 σ3 ρ3 O3 k3 e3 s3 t3 => ⟨by omega, B3, ρ3, O3, k3, ((e.trans e'').trans e2).trans e3, s3, t3⟩
    rcases g2 x H3 hx with ⟨h3, r⟩ | ⟨T, o, hT, h3, r⟩
    · subst h3
      exact fin B' (Ex.refl B') s' r
    · subst h3
      obtain ⟨e2, s2⟩ := s'.newB (o := o) hT
      exact fin _ e2 s2 r
  · left
    have hl : i = ds.length := by omega
    subst hl
    exact ⟨y1 _ (Nat.le_refl _), hn B' H' σ' ρ' O' (hd ρ' O' hI) (e1.trans e) s' st'⟩
/-! ## comprehensions -/
theorem wipe_get {σ : L2.St} {i : Nat} : ∀ {vs : List Nat}, (wipe σ vs)[i]? = if i ∈ vs then (σ[i]?).map (fun _ => none) else σ[i]?
  | [] => by simp [wipe]
  | v :: vs => by
    show ((wipe σ vs).set v none)[i]? = _
    rw [List.getElem?_set, wipe_length]
    by_cases h : v = i
    · subst h
      rw [if_pos rfl, if_pos List.mem_cons_self]
      by_cases hl : v < σ.length
      · rw [if_pos hl, List.getElem?_eq_getElem hl]
        rfl
      · rw [if_neg hl, List.getElem?_eq_none (Nat.le_of_not_lt hl)]
        rfl
    · rw [if_neg h, wipe_get]
      by_cases hm : i ∈ vs
      · rw [if_pos hm, if_pos (List.mem_cons_of_mem _ hm)]
      · rw [if_neg hm, if_neg (fun z => by cases z with | head => exact h rfl | tail _ z => exact hm z)]
theorem wipe_set {σ : L2.St} {j : Nat} {x : Option V} {vs : List Nat} (h : j ∈ vs) : wipe (σ.set j x) vs = wipe σ vs := by
  refine List.ext_getElem? fun i => ?_
  rw [wipe_get, wipe_get]
  by_cases hi : i ∈ vs
  · rw [if_pos hi, if_pos hi, List.getElem?_set]
    by_cases e : j = i
    · subst e
      rw [if_pos rfl]
      by_cases hl : j < σ.length
      · rw [if_pos hl, List.getElem?_eq_getElem hl]
        rfl
      · rw [if_neg hl, List.getElem?_eq_none (Nat.le_of_not_lt hl)]
    · rw [if_neg e]
  · rw [if_neg hi, if_neg hi, List.getElem?_set, if_neg (fun e => hi (by rw [← e]; exact h))]
theorem wipe_wipe {σ : L2.St} {vs : List Nat} : wipe (wipe σ vs) vs = wipe σ vs := by
  refine List.ext_getElem? fun i => ?_
  rw [wipe_get, wipe_get]
  by_cases hi : i ∈ vs
  · rw [if_pos hi, if_pos hi, Option.map_map]
    rfl
  · rw [if_neg hi, if_neg hi]
def wipeR (ρ : Ro) : List Nat → Ro
  | [] => ρ
  | v :: vs => (wipeR ρ vs).set v none
theorem Slots.wipe {B : Hp} {σ : L2.St} {ρ : Ro} (s : Slots G B σ ρ) : ∀ vs, Slots G B (L2.wipe σ vs) (wipeR ρ vs)
  | [] => s
  | v :: vs => (Slots.wipe s vs).setN v
/-- a target that stores into these slots alone -/
def GIn (g : TG) (vs : List Nat) : Prop := ∀ v σ H (Q : L2.St → Hp → Prop), g v σ H Q → g v σ H fun σ2 H2 => wipe σ2 vs = wipe σ vs ∧ Q σ2 H2
def GsIn (g : TGs) (vs : List Nat) : Prop := ∀ v σ H (Q : L2.St → Hp → Prop), g v σ H Q → g v σ H fun σ2 H2 => wipe σ2 vs = wipe σ vs ∧ Q σ2 H2
theorem gin_name {i : Nat} {vs : List Nat} (h : i ∈ vs) : GIn (gName i) vs := fun v σ H Q q => ⟨wipe_set h, q⟩
theorem gin_nil {vs : List Nat} : GsIn gNil vs := fun v σ H Q q => ⟨q.1, rfl, q.2⟩
theorem gin_cons {g : TG} {gs : TGs} {vs : List Nat} (h : GIn g vs) (hs : GsIn gs vs) (m : ∀ v σ H (Q Q' : L2.St → Hp → Prop), (∀ σ' H', Q σ' H' → Q' σ' H') → g v σ H Q → g v σ H Q') (m2 : ∀ v σ H (Q Q' : L2.St → Hp → Prop), (∀ σ' H', Q σ' H' → Q' σ' H') → gs v σ H Q → gs v σ H Q') : GsIn (gCons g gs) vs := fun v σ H Q ⟨x, r, ev, q⟩ =>
  ⟨x, r, ev, m x σ H _ _ (fun σ1 H1 ⟨e1, q1⟩ => m2 r σ1 H1 _ _ (fun σ2 H2 ⟨e2, q2⟩ => ⟨e2.trans e1, q2⟩) (hs r σ1 H1 _ q1)) (h x σ H _ q)⟩
theorem mono_name {i : Nat} : ∀ v σ H (Q Q' : L2.St → Hp → Prop), (∀ σ' H', Q σ' H' → Q' σ' H') → gName i v σ H Q → gName i v σ H Q' := fun _ _ _ _ _ h q => h _ _ q
theorem mono_nil : ∀ v σ H (Q Q' : L2.St → Hp → Prop), (∀ σ' H', Q σ' H' → Q' σ' H') → gNil v σ H Q → gNil v σ H Q' := fun _ _ _ _ _ h q => ⟨q.1, h _ _ q.2⟩
theorem mono_cons {g : TG} {gs : TGs} (m : ∀ v σ H (Q Q' : L2.St → Hp → Prop), (∀ σ' H', Q σ' H' → Q' σ' H') → g v σ H Q → g v σ H Q') (m2 : ∀ v σ H (Q Q' : L2.St → Hp → Prop), (∀ σ' H', Q σ' H' → Q' σ' H') → gs v σ H Q → gs v σ H Q') :
    ∀ v σ H (Q Q' : L2.St → Hp → Prop), (∀ σ' H', Q σ' H' → Q' σ' H') → gCons g gs v σ H Q → gCons g gs v σ H Q' := fun v σ H Q Q' h ⟨x, r, ev, q⟩ => ⟨x, r, ev, m x σ H _ _ (fun σ1 H1 q1 => m2 r σ1 H1 _ _ h q1) q⟩
theorem gin_tup {gs : TGs} {vs : List Nat} {n : Nat} (h : GsIn gs vs) : GIn (gTup G.K n gs) vs := fun v σ H Q ⟨a, xs, ev, t, l, q⟩ => ⟨a, xs, ev, t, l, h xs σ H Q q⟩
theorem le_lc {wi : TI} {g : TG} {tt : TT} {te : TE} {vs : List Nat} {κ : D → Ow → Prop} (hg : GIn g vs)
    (h : LI G B0 wi ρ O fun ds O1 => ∀ p, O1 p = none → ∃ I : Nat → Ow → Prop, I 0 (oset O1 p []) ∧
      (∀ (i : Nat) (d : D) O', ds[i]? = some d → I i O' → LG G B0 g d (wipeR ρ vs) O' fun ρ2 O2 => LT G B0 tt ρ2 O2 fun b O3 =>
        if b = true then LE G B0 te ρ2 O3 fun y O4 => ∃ acc e, y = .py e ∧ O4 p = some acc ∧ acc.length < 100000 ∧ I (i + 1) (oset O4 p (acc ++ [e])) else I (i + 1) O3) ∧
      ∀ O', I ds.length O' → κ (.own p) O') :
    LE G B0 (tLc wi g tt te vs) ρ O κ := fun B H σ s st Q q => by
  refine h B H σ s st _ fun J ds B1 H1 O1 hh e1 s1 y => fun p hp => ?_
  have op : O1 p = none := by
    cases hO : O1 p with
    | none => rfl
    | some es =>
      obtain ⟨_, ws, h2, _⟩ := s1.ow p es hO
      rw [hp] at h2
      cases h2
  obtain ⟨I, i0, hs, hd⟩ := hh p op
  refine ⟨fun i m H' => m + i = ds.length ∧ ∃ B' O', I i O' ∧ Ex B1 B' ∧ SatH G B0 B' H' O', ⟨ds.length, rfl, B1, _, i0, Ex.refl B1, s1.newO hp .nil⟩, ?_⟩
  rintro i m H' ⟨hm, B', O', hI, e, s'⟩
  obtain ⟨y1, y2⟩ := y B' H' e s'.ex
  by_cases hi : i < ds.length
  · right
    have hdi : ds[i]? = some ds[i] := List.getElem?_eq_getElem hi
    obtain ⟨g1, g2⟩ := y2 i _ hdi
    refine ⟨g1, _, fun H2 w => ⟨m - 1, by omega, w⟩, fun x H3 hx => ?_⟩
    have fin : ∀ B'' , Ex B' B'' → SatH G B0 B'' H3 O' → Rp G B'' x ds[i] → g x (wipe σ vs) H3 fun σ2 H2 => wipe σ2 vs = wipe σ vs ∧ tt σ2 H2 fun b H3 =>
        if b = true then te σ2 H3 fun y H4 => ∃ acc, H4 p = some (.lst acc) ∧ acc.length < sizeLine ∧ (m - 1 + (i + 1) = ds.length ∧ ∃ B' O', I (i + 1) O' ∧ Ex B1 B' ∧ SatH G B0 B' (upd H4 p (.lst (acc ++ [y]))) O') else (m - 1 + (i + 1) = ds.length ∧ ∃ B' O', I (i + 1) O' ∧ Ex B1 B' ∧ SatH G B0 B' H3 O') := by
      intro B'' e'' s'' r''
      have hq := hs i _ O' hdi hI B'' H3 (wipe σ vs) x s'' ((st.mono ((e1.trans e).trans e'')).wipe vs) r'' (fun σ2 H2 => tt σ2 H2 fun b H3 =>
        if b = true then te σ2 H3 fun y H4 => ∃ acc, H4 p = some (.lst acc) ∧ acc.length < sizeLine ∧ (m - 1 + (i + 1) = ds.length ∧ ∃ B' O', I (i + 1) O' ∧ Ex B1 B' ∧ SatH G B0 B' (upd H4 p (.lst (acc ++ [y]))) O') else (m - 1 + (i + 1) = ds.length ∧ ∃ B' O', I (i + 1) O' ∧ Ex B1 B' ∧ SatH G B0 B' H3 O')) fun B2 H2 σ2 ρ2 O2 k e2 s2 t2 => ?_
      · have := hg x (wipe σ vs) H3 _ hq
        rw [wipe_wipe] at this
        exact this
      · refine k B2 H2 σ2 s2 t2 _ fun b B3 H3 O3 k3 e3 s3 => ?_
        cases b with
        | true =>
          refine (show LE G B0 te ρ2 O3 _ from k3) B3 H3 σ2 s3 (t2.mono e3) _ fun v d B4 H4 O4 ⟨acc, ed, hy, ho, hl, hI4⟩ e4 s4 r4 => ?_
          subst hy
          obtain ⟨_, ws, h2, h3⟩ := s4.ow p acc ho
          exact ⟨ws, h2, sz_lt (by rw [h3.len]; exact hl), by omega, B4, _, hI4, (((e.trans e'').trans e2).trans e3).trans e4, s4.chg ho (h3.append (DdAll.one r4))⟩
        | false => exact ⟨by omega, B3, O3, k3, ((e.trans e'').trans e2).trans e3, s3⟩
    rcases g2 x H3 hx with ⟨h3, r⟩ | ⟨T, o, hT, h3, r⟩
    · subst h3
      exact fin B' (Ex.refl B') s' r
    · subst h3
      obtain ⟨e2, s2⟩ := s'.newB (o := o) hT
      exact fin _ e2 s2 r
  · left
    have hl : i = ds.length := by omega
    subst hl
    exact ⟨y1 _ (Nat.le_refl _), q _ _ B' H' O' (hd O' hI) (e1.trans e) s' rfl⟩
end
end DL

namespace DL
open PySem PySem.Spec PyProof.Rows L2 Evl

/-! ## operators of any kinds -/
def CDivU (_ j : Int) : Prop := j ≠ 0 ∧ j.natAbs.log2 < 9000
def CPowU (i j : Int) : Prop := 0 ≤ j ∧ (Builtin.Int.intBits i : Int) * j ≤ 2 ^ 27
def rAddS : R2 := fun x y H Q => ∃ i j, x = .str i ∧ y = .str j ∧ i.length + j.length ≤ sizeLine ∧ Q (.str (i ++ j)) H
def rAddU : R2 := fun x y H Q => rI0 (fun i j => .int (i + j)) x y H Q ∨ rCat x y H Q ∨ rAddS x y H Q
def rSubU : R2 := rI0 fun i j => .int (i - j)
def rMulU : R2 := fun x y H Q => rI CMulW (fun i j => .int (i * j)) x y H Q ∨ rRep x y H Q
def rFdivU : R2 := rI CDivU fun i j => .int (i.fdiv j)
def rModU : R2 := rI (fun _ j => j ≠ 0) fun i j => .int (i.fmod j)
def rPowU : R2 := rI CPowU fun i j => .int (i ^ j.toNat)
def rEqU (K : PySem.W.Frag) : R2 := fun x y H Q => rEq x y H Q ∨ rEqD K x y H Q
def rNeU (K : PySem.W.Frag) : R2 := fun x y H Q => rNe x y H Q ∨ rNeD K x y H Q
def rLt : R2 := rI0 fun i j => .bl (decide (i < j))
def rLe : R2 := rI0 fun i j => .bl (decide (i ≤ j))
def rGt : R2 := rI0 fun i j => .bl (decide (j < i))
def rGe : R2 := rI0 fun i j => .bl (decide (j ≤ i))
section
variable {X : Cx}
theorem op_addU : OpR X (binaryOp .Add) rAddU := OpR.or op_add (OpR.or op_cat op_add_str)
theorem op_subU : OpR X (binaryOp .Sub) rSubU := op_sub
theorem op_mulU : OpR X (binaryOp .Mult) rMulU := OpR.or op_mulW op_rep
theorem op_fdivU : OpR X (binaryOp .FloorDiv) rFdivU := opI fun i j _ _ _ _ _ hc q => floordiv_int hc.1 q (.inl (PyProof.noPylong_of_log2 hc.2))
theorem op_modU : OpR X (binaryOp .Mod) rModU := op_modN
theorem op_powU : OpR X (binaryOp .Pow) rPowU := opI fun i j _ _ _ _ _ hc q => pow_int hc.1 hc.2 q
theorem op_eqU (hu : X.A.units + 64 < cLine) : OpR X (compareOp .Eq) (rEqU X.K) := OpR.or op_eq (op_eqD hu)
theorem op_neU (hu : X.A.units + 64 < cLine) : OpR X (compareOp .NotEq) (rNeU X.K) := OpR.or op_ne (op_neD hu)
theorem op_ltU : OpR X (compareOp .Lt) rLt := op_lt
theorem op_leU : OpR X (compareOp .LtE) rLe := op_le
theorem op_gtU : OpR X (compareOp .Gt) rGt := op_gt
theorem op_geU : OpR X (compareOp .GtE) rGe := op_ge
end
/-! ## repr of data: no dict, ints below 2 ^ 1900 -/
mutual
def okR : PyData → Prop
  | .none => True
  | .bool _ => True
  | .int i => i.natAbs < 2 ^ 1900
  | .str _ => True
  | .list xs => okRs xs
  | .tuple xs => okRs xs
  | .dict _ => False
def okRs : List PyData → Prop
  | [] => True
  | x :: xs => okR x ∧ okRs xs
end
-- at most so many signs
mutual
def szR : PyData → Nat
  | .none => 8
  | .bool _ => 8
  | .int _ => 600
  | .str x => (reprText x).length
  | .list xs => szRs xs + 3
  | .tuple xs => szRs xs + 3
  | .dict _ => 0
def szRs : List PyData → Nat
  | [] => 0
  | x :: xs => szR x + 2 + szRs xs
end
theorem log2_of_lt {n : Nat} (h : n < 2 ^ 1900) : n.log2 < 1920 := by
  by_cases h0 : n = 0
  · subst h0
    decide
  · have := (Nat.log2_lt h0).mpr h
    omega
theorem shown_int_len {i : Int} (h : i.natAbs < 2 ^ 1900) : (PyData.shown (.int i)).length ≤ 600 := by
  have e := int_text_length_le10 (k := 580) (by decide) (Nat.lt_of_lt_of_le h (by decide +kernel : 2 ^ 1900 ≤ 10 ^ 580))
  have e2 : (PyData.shown (.int i)).length = (toString i).length := by
    show (Str.ofString (toString i)).length = _
    rw [PySem.ofString_length]
  rw [e2]
  exact Nat.le_trans e (by decide)
mutual
theorem okR_show : ∀ {d : PyData}, okR d → d.showable = true
  | .none, _ => rfl
  | .bool _, _ => rfl
  | .int i, h => decide_eq_true (log2_of_lt h)
  | .str _, _ => rfl
  | .list xs, h => okRs_show (xs := xs) h
  | .tuple xs, h => okRs_show (xs := xs) h
theorem okRs_show : ∀ {xs : List PyData}, okRs xs → PyData.showableAll xs = true
  | [], _ => rfl
  | x :: xs, ⟨h, t⟩ => by
    rw [PyData.showableAll, okR_show h, okRs_show t]
    rfl
end
mutual
theorem okR_nodict : ∀ {d : PyData}, okR d → d.hasDict = false
  | .none, _ => rfl
  | .bool _, _ => rfl
  | .int i, h => rfl
  | .str _, _ => rfl
  | .list xs, h => okRs_nodict (xs := xs) h
  | .tuple xs, h => okRs_nodict (xs := xs) h
theorem okRs_nodict : ∀ {xs : List PyData}, okRs xs → PyData.hasDictAll xs = false
  | [], _ => rfl
  | x :: xs, ⟨h, t⟩ => by
    rw [PyData.hasDictAll, okR_nodict h, okRs_nodict t]
    rfl
end
mutual
theorem okR_len : ∀ {d : PyData}, okR d → d.shown.length ≤ szR d
  | .none, _ => by decide
  | .bool b, _ => by cases b <;> decide
  | .int i, h => shown_int_len h
  | .str x, _ => Nat.le_refl _
  | .list xs, h => by
    have h1 := okRs_len (xs := xs) h
    have h2 := listText_len_le (PyData.shownAll xs)
    have h3 := PyData.shownAll_length xs
    simp only [PyData.shown, szR]
    omega
  | .tuple xs, h => by
    have h1 := okRs_len (xs := xs) h
    have h2 := tupleText_len_le (PyData.shownAll xs)
    have h3 := PyData.shownAll_length xs
    simp only [PyData.shown, szR]
    omega
theorem okRs_len : ∀ {xs : List PyData}, okRs xs → ((PyData.shownAll xs).map (·.length)).sum + 2 * xs.length ≤ szRs xs
  | [], _ => by simp [PyData.shownAll, szRs]
  | x :: xs, ⟨h, t⟩ => by
    have h1 := okR_len h
    have h2 := okRs_len t
    simp only [PyData.shownAll, szRs, List.map_cons, List.sum_cons, List.length_cons]
    omega
end
def rRepr (K : PySem.W.Frag) : List V → Hp → VK → Prop := fun xs H Q => (∃ v d, xs = [v] ∧ Dp K H v d ∧ okR d ∧ szR d ≤ sizeLine ∧ d.depth ≤ 60 ∧ Q (.str d.shown) H) ∨
  ∃ a kvs ds, xs = [.ref a] ∧ H a = some (.dK kvs) ∧ KvD kvs ds ∧ (PyData.dict ds).showable = true ∧ (PyData.dict ds).shown.length ≤ sizeLine ∧ (PyData.dict ds).depth ≤ 60 ∧ Q (.str (PyData.dict ds).shown) H
theorem lf_reads {h : Heap} {v : V} {u : Value} {d : PyData} (l : Lf v d) (r : RelV v u) : Reads h u d [] := by
  cases l with
  | non => cases r; exact .none
  | bl b => cases r; exact .bool b
  | int i => obtain ⟨t, rfl⟩ := r; exact .int i t
  | str x => obtain ⟨t, rfl⟩ := r; exact .str x t
theorem kv_reads {P : Program} {w : World} {h : Heap} : ∀ {es : List DictEntry} {kvs : List (Key × V)} {vs : List (Key × Value)} {ds : List (PyData × PyData)}, KV kvs vs → Pairs (mixKind P w) es vs → KvD kvs ds →
    ReadsAll h (es.map (·.key)) (ds.map (·.1)) [] ∧ ReadsAll h (es.map (·.val)) (ds.map (·.2)) []
  | _, _, _, _, .nil, .nil, .nil => ⟨.nil, .nil⟩
  | _, _, _, _, .cons hv tv, .cons hk he tp, .cons hd td => by
    obtain ⟨ih1, ih2⟩ := kv_reads (P := P) (w := w) (h := h) tv tp td
    obtain ⟨e1, rv⟩ := hv
    obtain ⟨e2, lf⟩ := hd
    refine ⟨ReadsAll.cons (as := []) ?_ ih1, ReadsAll.cons (as := []) ?_ ih2⟩
    · dsimp only
      rw [← e2, e1]
      rcases keyIs_shape hk with ⟨i, t, e3, e4⟩ | ⟨x, t, e3, e4⟩
      · rw [e3, e4]
        exact .int i t
      · rw [e3, e4]
        exact .str x t
    · dsimp only
      rw [he]
      exact lf_reads lf rv
theorem cr_repr {X : Cx} (hu : X.A.units + 64 < cLine) (hg : X.A.guards = some []) : CallR X (.builtin "repr") (rRepr X.K) := by
  intro pins s σ H xs us Q I r h
  rcases h with h | ⟨a, kvs, ds, rfl, hd, kd, sh, sz, dp, q⟩
  case inr =>
    obtain ⟨u, rfl, r1⟩ := vals1 r
    cases r1
    obtain ⟨_, sys, vs, kv, o, es, ep, ho, hc, hdat, _, prs, _⟩ := (show ObjOk X.prog X.w H s.heap a (.dK kvs) from I.hok a _ hd)
    obtain ⟨k1, k2⟩ := kv_reads (h := s.heap) kv prs kd
    have rd : Reads s.heap (.ref a) (.dict ds) (a :: [] ++ []) := .dict ho hc.1 hdat k1 k2
    refine repr_of_reads' rd sh (fun _ z => ?_) hg (by omega) (fun b o e => e) (fun h' u tk k => ?_) sz
    · rcases List.mem_singleton.mp (show sysModules ∈ [a] from z)
      simp at sys
    · exact ⟨.str _, H, I.kept (t' := tk) k, ⟨_, rfl⟩, q⟩
  obtain ⟨v, d, rfl, hd, ok, sz, dp, q⟩ := h
  obtain ⟨u, rfl, r1⟩ := vals1 r
  have fin : ∀ (d : PyData) (tk : Nat), Q (.str d.shown) H → ∀ u t, u = Value.str d.shown t → EP X pins σ Q u { s with toks := tk } := fun d tk q u t e => by
    subst e
    exact ⟨.str _, H, I.tok _, ⟨_, rfl⟩, q⟩
  have big : ∀ a, u = .ref a → (∃ as, Reads s.heap u d as) → wpAny (model X.prog X.w) X.A (call (.builtin "repr") [u]) (EP X pins σ Q) X.xe s := by
    intro a e ⟨as, rd⟩
    subst e
    refine repr_of_reads' rd (okR_show ok) (fun z => absurd z (by rw [okR_nodict ok]; decide)) hg (by omega) (fun b o e => e) (fun h' u tk k => ?_) (Nat.le_trans (okR_len ok) sz)
    exact ⟨.str _, H, I.kept (t' := tk) k, ⟨_, rfl⟩, q⟩
  have rd := Dp.reads I d v u hd r1
  cases hd with
  | non => cases r1; exact P.repr_of_none ⟨.str _, H, I.tok _, ⟨_, rfl⟩, q⟩
  | bl b =>
    cases r1
    refine P.repr_of_bool ⟨.str _, H, I.tok _, ⟨_, rfl⟩, ?_⟩
    cases b <;> exact q
  | int i =>
    obtain ⟨t, rfl⟩ := r1
    exact P.repr_of_int (log2_of_lt ok) ⟨.str _, H, I.tok _, ⟨_, rfl⟩, q⟩
  | str x =>
    obtain ⟨t, rfl⟩ := r1
    exact P.repr_of_str ⟨.str _, H, I.tok _, ⟨_, rfl⟩, q⟩ sz
  | lst h1 h2 => exact big _ r1 rd
  | tup h1 h2 => exact big _ r1 rd
/-! ## data as seen through what may change -/
def asPy (O : Ow) : D → Option PyData
  | .py d => some d
  | .own a => (O a).map PyData.list
  | .sc ns => some (.list (ns.map PyData.int))
  | _ => none
section
variable {G : Gs} {B0 B H : Hp} {O : Ow}
theorem DpAll.of_ints {K : PySem.W.Frag} {H : Hp} : ∀ (ns : List Int), DpAll K H (ns.map V.int) (ns.map PyData.int)
  | [] => .nil
  | n :: ns => .cons (.int n) (DpAll.of_ints ns)
theorem dp_of {v : V} {x : D} {d : PyData} (s : SatH G B0 B H O) (r : Rp G B v x) (h : asPy O x = some d) (n : d.hasDict = false) : Dp G.K H v d := by
  cases x with
  | py e =>
    cases h
    exact (Dd.mono s.ex r).dp n
  | own a =>
    replace h : (O a).map PyData.list = some _ := h
    cases hO : O a with
    | none => rw [hO] at h; cases h
    | some ds =>
      rw [hO] at h
      cases h
      obtain ⟨_, vs, h2, h3⟩ := s.ow a ds hO
      cases (show v = V.ref a from r)
      exact .lst (sq_of h2) ((h3.mono s.ex).dp (by rw [PyData.hasDict] at n; exact n))
  | sc ns =>
    cases h
    obtain ⟨a, rfl, h1⟩ := r
    exact .lst (ex_l s.ex h1) (DpAll.of_ints ns)
  | rel ns => cases h
  | exc e dd x => cases h
  | raw u => cases h
theorem nd_sh {d : PyData} (h : SeqAt.shaped d = true) : d.hasDict = false := PyData.hasDict_of_canLay d (SeqAt.canLay_of_shaped h)
/-- the list that stands at it -/
theorem lst_of {v : V} {x : D} {ds : List PyData} (s : SatH G B0 B H O) (r : Rp G B v x) (h : asPy O x = some (.list ds)) : ∃ a vs, v = .ref a ∧ SqL G.K H a vs ∧ DdAll G.K B vs ds ∧ ((∃ ns, x = .sc ns) ∨ H a = some (.lst vs)) := by
  cases x with
  | py e =>
    cases h
    obtain ⟨a, vs, rfl, h1, h2⟩ := Dd.lst_inv r
    exact ⟨a, vs, rfl, sq_of (s.ex _ _ h1), h2, .inr (s.ex _ _ h1)⟩
  | own a =>
    replace h : (O a).map PyData.list = some _ := h
    cases hO : O a with
    | none => rw [hO] at h; cases h
    | some es =>
      rw [hO] at h
      cases h
      obtain ⟨_, vs, h2, h3⟩ := s.ow a _ hO
      cases (show v = V.ref a from r)
      exact ⟨a, vs, rfl, sq_of h2, h3, .inr h2⟩
  | sc ns =>
    cases h
    obtain ⟨a, rfl, h1⟩ := r
    exact ⟨a, _, rfl, ex_l s.ex h1, DdAll.of_ints ns, .inl ⟨ns, rfl⟩⟩
  | rel ns => cases h
  | exc e dd x => cases h
  | raw u => cases h
end
/-! ## operators on data -/
section
variable {G : Gs} {B0 : Hp} {O : Ow} {κ : D → Ow → Prop}
theorem lr_I0 {f : Int → Int → Int} {i j : Int} (k : κ (.py (.int (f i j))) O) : LR G B0 (rI0 fun i j => .int (f i j)) (.py (.int i)) (.py (.int j)) O κ := fun B H v w s r1 r2 Q q => by
  rw [Dd.int_inv r1, Dd.int_inv r2]
  exact ⟨i, j, rfl, rfl, q _ _ B H O k (Ex.refl B) s (show Dd _ _ _ _ from .int _)⟩
theorem lr_B0 {f : Int → Int → Bool} {i j : Int} (k : κ (.py (.bool (f i j))) O) : LR G B0 (rI0 fun i j => .bl (f i j)) (.py (.int i)) (.py (.int j)) O κ := fun B H v w s r1 r2 Q q => by
  rw [Dd.int_inv r1, Dd.int_inv r2]
  exact ⟨i, j, rfl, rfl, q _ _ B H O k (Ex.refl B) s (show Dd _ _ _ _ from .bl _)⟩
theorem lr_I {C : Int → Int → Prop} {f : Int → Int → Int} {i j : Int} (c : C i j) (k : κ (.py (.int (f i j))) O) : LR G B0 (rI C fun i j => .int (f i j)) (.py (.int i)) (.py (.int j)) O κ := fun B H v w s r1 r2 Q q => by
  rw [Dd.int_inv r1, Dd.int_inv r2]
  exact ⟨i, j, rfl, rfl, c, q _ _ B H O k (Ex.refl B) s (show Dd _ _ _ _ from .int _)⟩
theorem lr_orl {r r' : R2} {x y : D} (h : LR G B0 r x y O κ) : LR G B0 (fun x y H Q => r x y H Q ∨ r' x y H Q) x y O κ := fun B H v w s r1 r2 Q q => .inl (h B H v w s r1 r2 Q q)
theorem lr_orr {r r' : R2} {x y : D} (h : LR G B0 r' x y O κ) : LR G B0 (fun x y H Q => r x y H Q ∨ r' x y H Q) x y O κ := fun B H v w s r1 r2 Q q => .inr (h B H v w s r1 r2 Q q)
theorem lr_add {i j : Int} (k : κ (.py (.int (i + j))) O) : LR G B0 rAddU (.py (.int i)) (.py (.int j)) O κ := lr_orl (lr_I0 k)
theorem lr_sub {i j : Int} (k : κ (.py (.int (i - j))) O) : LR G B0 rSubU (.py (.int i)) (.py (.int j)) O κ := lr_I0 k
theorem lr_mul {i j : Int} (c : CMulW i j) (k : κ (.py (.int (i * j))) O) : LR G B0 rMulU (.py (.int i)) (.py (.int j)) O κ := lr_orl (lr_I c k)
theorem lr_fdiv {i j : Int} (c : CDivU i j) (k : κ (.py (.int (i.fdiv j))) O) : LR G B0 rFdivU (.py (.int i)) (.py (.int j)) O κ := lr_I c k
theorem lr_mod {i j : Int} (c : j ≠ 0) (k : κ (.py (.int (i.fmod j))) O) : LR G B0 rModU (.py (.int i)) (.py (.int j)) O κ := lr_I (C := fun _ j => j ≠ 0) c k
theorem lr_pow {i j : Int} (c : CPowU i j) (k : κ (.py (.int (i ^ j.toNat))) O) : LR G B0 rPowU (.py (.int i)) (.py (.int j)) O κ := lr_I c k
theorem lr_lt {i j : Int} (k : κ (.py (.bool (decide (i < j)))) O) : LR G B0 rLt (.py (.int i)) (.py (.int j)) O κ := lr_B0 k
theorem lr_le {i j : Int} (k : κ (.py (.bool (decide (i ≤ j)))) O) : LR G B0 rLe (.py (.int i)) (.py (.int j)) O κ := lr_B0 k
theorem lr_gt {i j : Int} (k : κ (.py (.bool (decide (j < i)))) O) : LR G B0 rGt (.py (.int i)) (.py (.int j)) O κ := lr_B0 (f := fun i j => decide (j < i)) k
theorem lr_ge {i j : Int} (k : κ (.py (.bool (decide (j ≤ i)))) O) : LR G B0 rGe (.py (.int i)) (.py (.int j)) O κ := lr_B0 (f := fun i j => decide (j ≤ i)) k
/-- lists in a row: a new one -/
theorem lr_cat {x y : D} {ds es : List PyData} (hx : asPy O x = some (.list ds)) (hy : asPy O y = some (.list es)) (nx : ∀ ns, x ≠ .sc ns) (ny : ∀ ns, y ≠ .sc ns) (hl : ds.length + es.length ≤ 100000) (k : κ (.py (.list (ds ++ es))) O) : LR G B0 rAddU x y O κ := fun B H v w s r1 r2 Q q => by
  obtain ⟨a, vs, rfl, h1, h2, h3⟩ := lst_of s r1 hx
  obtain ⟨b, ws, rfl, h4, h5, h6⟩ := lst_of s r2 hy
  refine .inr (.inl ⟨a, b, vs, ws, rfl, rfl, h3.resolve_left (fun ⟨ns, e⟩ => nx ns e), h6.resolve_left (fun ⟨ns, e⟩ => ny ns e), sz_of (by rw [h2.len, h5.len]; exact hl), fun p hp => ?_⟩)
  obtain ⟨e2, s2⟩ := s.newB (o := .lst (vs ++ ws)) hp
  exact q _ _ _ _ O k e2 s2 (show Dd _ _ _ _ from .lst upd_same ((h2.append h5).mono e2))
theorem dd_rep {K : PySem.W.Frag} {H : Hp} {vs : List V} {ds : List PyData} (h : DdAll K H vs ds) : ∀ n : Nat, DdAll K H (List.replicate n vs).flatten (List.replicate n ds).flatten
  | 0 => .nil
  | n + 1 => by
    rw [List.replicate_succ, List.replicate_succ, List.flatten_cons, List.flatten_cons]
    exact h.append (dd_rep h n)
theorem lr_rep {x : D} {ds : List PyData} {n : Int} (hx : asPy O x = some (.list ds)) (nx : ∀ ns, x ≠ .sc ns) (hn : -1000000 < n ∧ n < 1000000) (hl : ds.length * n.toNat ≤ 100000) (k : κ (.py (.list (List.replicate n.toNat ds).flatten)) O) : LR G B0 rMulU x (.py (.int n)) O κ := fun B H v w s r1 r2 Q q => by
  obtain ⟨a, vs, rfl, h1, h2, h3⟩ := lst_of s r1 hx
  rw [Dd.int_inv r2]
  refine .inr ⟨a, n, vs, rfl, rfl, h3.resolve_left (fun ⟨ns, e⟩ => nx ns e), by omega, by omega, sz_of (by rw [h2.len]; exact hl), fun p hp => ?_⟩
  obtain ⟨e2, s2⟩ := s.newB (o := .lst (List.replicate n.toNat vs).flatten) hp
  exact q _ _ _ _ O k e2 s2 (show Dd _ _ _ _ from .lst upd_same ((dd_rep h2 _).mono e2))
theorem lr_adds {i j : Str} (hl : i.length + j.length ≤ sizeLine) (k : κ (.py (.str (i ++ j))) O) : LR G B0 rAddU (.py (.str i)) (.py (.str j)) O κ := fun B H v w s r1 r2 Q q => by
  rw [Dd.str_inv r1, Dd.str_inv r2]
  exact .inr (.inr ⟨i, j, rfl, rfl, hl, q _ _ B H O k (Ex.refl B) s (show Dd _ _ _ _ from .str _)⟩)
theorem lr_eqI {i j : Int} (k : κ (.py (.bool (decide (i = j)))) O) : LR G B0 (rEqU G.K) (.py (.int i)) (.py (.int j)) O κ := fun B H v w s r1 r2 Q q => by
  rw [Dd.int_inv r1, Dd.int_inv r2]
  refine .inl ⟨rfl, ?_⟩
  have e : decide (V.int i = V.int j) = decide (i = j) := by
    by_cases h : i = j
    · subst h; simp
    · rw [decide_eq_false h, decide_eq_false (fun z => h (V.int.inj z))]
  rw [e]
  exact q _ _ B H O k (Ex.refl B) s (show Dd _ _ _ _ from .bl _)
theorem lr_neI {i j : Int} (k : κ (.py (.bool (!decide (i = j)))) O) : LR G B0 (rNeU G.K) (.py (.int i)) (.py (.int j)) O κ := fun B H v w s r1 r2 Q q => by
  rw [Dd.int_inv r1, Dd.int_inv r2]
  refine .inl ⟨rfl, ?_⟩
  have e : decide (V.int i = V.int j) = decide (i = j) := by
    by_cases h : i = j
    · subst h; simp
    · rw [decide_eq_false h, decide_eq_false (fun z => h (V.int.inj z))]
  rw [e]
  exact q _ _ B H O k (Ex.refl B) s (show Dd _ _ _ _ from .bl _)
theorem lr_eqS {i j : Str} (k : κ (.py (.bool (decide (i = j)))) O) : LR G B0 (rEqU G.K) (.py (.str i)) (.py (.str j)) O κ := fun B H v w s r1 r2 Q q => by
  rw [Dd.str_inv r1, Dd.str_inv r2]
  refine .inl ⟨rfl, ?_⟩
  have e : decide (V.str i = V.str j) = decide (i = j) := by
    by_cases h : i = j
    · subst h; simp
    · rw [decide_eq_false h, decide_eq_false (fun z => h (V.str.inj z))]
  rw [e]
  exact q _ _ B H O k (Ex.refl B) s (show Dd _ _ _ _ from .bl _)
theorem lr_neS {i j : Str} (k : κ (.py (.bool (!decide (i = j)))) O) : LR G B0 (rNeU G.K) (.py (.str i)) (.py (.str j)) O κ := fun B H v w s r1 r2 Q q => by
  rw [Dd.str_inv r1, Dd.str_inv r2]
  refine .inl ⟨rfl, ?_⟩
  have e : decide (V.str i = V.str j) = decide (i = j) := by
    by_cases h : i = j
    · subst h; simp
    · rw [decide_eq_false h, decide_eq_false (fun z => h (V.str.inj z))]
  rw [e]
  exact q _ _ B H O k (Ex.refl B) s (show Dd _ _ _ _ from .bl _)
theorem lr_eq {x y : D} {d e : PyData} (hx : asPy O x = some d) (hy : asPy O y = some e) (sd : SeqAt.shaped d = true) (se : SeqAt.shaped e = true) (k : κ (.py (.bool (PyData.eqv d e))) O) : LR G B0 (rEqU G.K) x y O κ := fun B H v w s r1 r2 Q q =>
  .inr ⟨d, e, dp_of s r1 hx (nd_sh sd), dp_of s r2 hy (nd_sh se), sd, se, q _ _ B H O k (Ex.refl B) s (show Dd _ _ _ _ from .bl _)⟩
theorem lr_ne {x y : D} {d e : PyData} (hx : asPy O x = some d) (hy : asPy O y = some e) (sd : SeqAt.shaped d = true) (se : SeqAt.shaped e = true) (k : κ (.py (.bool (!PyData.eqv d e))) O) : LR G B0 (rNeU G.K) x y O κ := fun B H v w s r1 r2 Q q =>
  .inr ⟨d, e, dp_of s r1 hx (nd_sh sd), dp_of s r2 hy (nd_sh se), sd, se, q _ _ B H O k (Ex.refl B) s (show Dd _ _ _ _ from .bl _)⟩
/-- o[i] -/
theorem lr_ix {x : D} {ds : List PyData} {i : Int} {d : PyData} (hx : asPy O x = some (.list ds)) (hi : atI ds i = some d) (k : κ (.py d) O) : LR G B0 (rIx G.K) x (.py (.int i)) O κ := fun B H v w s r1 r2 Q q => by
  obtain ⟨a, vs, rfl, h1, h2, _⟩ := lst_of s r1 hx
  rw [Dd.int_inv r2]
  unfold atI at hi
  cases hj : ixN ds.length i with
  | none => rw [hj] at hi; cases hi
  | some j =>
    rw [hj] at hi
    obtain ⟨w, hw, rw'⟩ := h2.get (i := j) hi
    refine .inl ⟨a, vs, i, w, rfl, rfl, h1, ?_, q _ _ B H O k (Ex.refl B) s rw'⟩
    unfold atI
    rw [h2.len, hj]
    exact hw
theorem lr_ixT {ds : List PyData} {i : Int} {d : PyData} (hi : atI ds i = some d) (k : κ (.py d) O) : LR G B0 (rIx G.K) (.py (.tuple ds)) (.py (.int i)) O κ := fun B H v w s r1 r2 Q q => by
  obtain ⟨a, vs, rfl, h1, h2⟩ := Dd.tup_inv r1
  rw [Dd.int_inv r2]
  unfold atI at hi
  cases hj : ixN ds.length i with
  | none => rw [hj] at hi; cases hi
  | some j =>
    rw [hj] at hi
    obtain ⟨w, hw, rw'⟩ := h2.get (i := j) hi
    refine .inr (.inl ⟨a, vs, i, w, rfl, rfl, ex_t s.ex h1, ?_, q _ _ B H O k (Ex.refl B) s rw'⟩)
    unfold atI
    rw [h2.len, hj]
    exact hw
def rInU (K : PySem.W.Frag) : R2 := rInD K
def rNiU (K : PySem.W.Frag) : R2 := rNotInD K
theorem lr_in {x y : D} {d : PyData} {ds : List PyData} (hx : asPy O x = some d) (hy : asPy O y = some (.list ds)) (sd : SeqAt.shaped d = true) (se : SeqAt.shaped (.list ds) = true) (k : κ (.py (.bool (ds.any fun z => PyData.eqv z d))) O) : LR G B0 (rInU G.K) x y O κ := fun B H v w s r1 r2 Q q =>
  ⟨d, ds, dp_of s r1 hx (nd_sh sd), dp_of s r2 hy (nd_sh se), sd, se, q _ _ B H O k (Ex.refl B) s (show Dd _ _ _ _ from .bl _)⟩
theorem lr_ni {x y : D} {d : PyData} {ds : List PyData} (hx : asPy O x = some d) (hy : asPy O y = some (.list ds)) (sd : SeqAt.shaped d = true) (se : SeqAt.shaped (.list ds) = true) (k : κ (.py (.bool (!ds.any fun z => PyData.eqv z d))) O) : LR G B0 (rNiU G.K) x y O κ := fun B H v w s r1 r2 Q q =>
  ⟨d, ds, dp_of s r1 hx (nd_sh sd), dp_of s r2 hy (nd_sh se), sd, se, q _ _ B H O k (Ex.refl B) s (show Dd _ _ _ _ from .bl _)⟩
theorem lr_isB {b c : Bool} (k : κ (.py (.bool (decide (b = c)))) O) : LR G B0 rIsB (.py (.bool b)) (.py (.bool c)) O κ := fun B H v w s r1 r2 Q q => by
  rw [Dd.bl_inv r1, Dd.bl_inv r2]
  exact ⟨b, c, rfl, rfl, q _ _ B H O k (Ex.refl B) s (show Dd _ _ _ _ from .bl _)⟩
theorem lr_notB {b c : Bool} (k : κ (.py (.bool (!decide (b = c)))) O) : LR G B0 rNotB (.py (.bool b)) (.py (.bool c)) O κ := fun B H v w s r1 r2 Q q => by
  rw [Dd.bl_inv r1, Dd.bl_inv r2]
  exact ⟨b, c, rfl, rfl, q _ _ B H O k (Ex.refl B) s (show Dd _ _ _ _ from .bl _)⟩
def rNeg : V → Hp → VK → Prop := rU fun i => .int (-i)
theorem un_negU {X : Cx} : UnR X (unaryOp .USub) rNeg := un_neg
theorem lu_neg {i : Int} (k : κ (.py (.int (-i))) O) : LU G B0 rNeg (.py (.int i)) O κ := fun B H v s r1 Q q => by
  rw [Dd.int_inv r1]
  exact ⟨i, rfl, q _ _ B H O k (Ex.refl B) s (show Dd _ _ _ _ from .int _)⟩
/-! ## slices -/
def cutD (xs : List PyData) (lo hi : Option Int) : List PyData := (xs.drop (HT.sIx xs.length 0 lo)).take (HT.sIx xs.length xs.length hi - HT.sIx xs.length 0 lo)
variable {ρ : Ro}
theorem lo_none {κ : Option Int → Ow → Prop} (k : κ none O) : LO G B0 tNoPart ρ O κ := fun B H σ s t Q q => q none B H O k (Ex.refl B) s
theorem lo_some {te : TE} {κ : Option Int → Ow → Prop} (h : LE G B0 te ρ O fun x O1 => ∃ i, x = .py (.int i) ∧ κ (some i) O1) : LO G B0 (tPart te) ρ O κ := fun B H σ s t Q q =>
  h B H σ s t _ fun v x B1 H1 O1 ⟨i, ex, k⟩ e1 s1 r1 => by
    subst ex
    exact ⟨i, Dd.int_inv r1, q _ B1 H1 O1 k e1 s1⟩
theorem le_sl {te : TE} {tl th : TO} (h : LE G B0 te ρ O fun x O1 => LO G B0 tl ρ O1 fun lo O2 => LO G B0 th ρ O2 fun hi O3 => ∃ ds, asPy O3 x = some (.list ds) ∧ κ (.py (.list (cutD ds lo hi))) O3) : LE G B0 (tSl (rSlL G.K) te tl th) ρ O κ := fun B H σ s t Q q =>
  h B H σ s t _ fun v x B1 H1 O1 h1 e1 s1 r1 => h1 B1 H1 σ s1 (t.mono e1) _ fun lo B2 H2 O2 h2 e2 s2 => h2 B2 H2 σ s2 (t.mono (e1.trans e2)) _ fun hi B3 H3 O3 ⟨ds, hx, k⟩ e3 s3 => by
    obtain ⟨a, vs, rfl, h4, h5, _⟩ := lst_of s3 (r1.mono (e2.trans e3)) hx
    refine ⟨a, vs, rfl, h4, fun p hp => ?_⟩
    obtain ⟨e4, s4⟩ := s3.newB (o := .lst (cutV vs lo hi)) hp
    refine q _ _ _ _ O3 k (((e1.trans e2).trans e3).trans e4) s4 (show Dd _ _ _ _ from .lst upd_same (DdAll.mono e4 ?_))
    unfold cutV cutD
    rw [h5.len]
    exact (h5.drop _).take _
/-! ## built-in functions -/
def rInt1 : List V → Hp → VK → Prop := fun xs H Q => (∃ i, xs = [.int i] ∧ Q (.int i) H) ∨ ∃ k, xs = [.bl k] ∧ Q (.int (if k then 1 else 0)) H
def rAbs : List V → Hp → VK → Prop := fun xs H Q => ∃ i, xs = [.int i] ∧ Q (.int (if i < 0 then -i else i)) H
def rMx : List V → Hp → VK → Prop := fun xs H Q => ∃ i j, xs = [.int i, .int j] ∧ Q (.int (if j > i then j else i)) H
def rMn : List V → Hp → VK → Prop := fun xs H Q => ∃ i j, xs = [.int i, .int j] ∧ Q (.int (if j < i then j else i)) H
def rLen (K : PySem.W.Frag) : List V → Hp → VK → Prop := fun xs H Q => ∃ x n, xs = [x] ∧ LenV K x H n ∧ Q (.int n) H
theorem cr_int {X : Cx} : CallR X (.type "int") rInt1 := call_int1
theorem cr_abs {X : Cx} : CallR X (.builtin "abs") rAbs := call_abs
theorem cr_mx {X : Cx} (hc : X.calm = true) : CallR X (.builtin "max") rMx := call_max2 hc
theorem cr_mn {X : Cx} (hc : X.calm = true) : CallR X (.builtin "min") rMn := call_min2 hc
theorem cr_len {X : Cx} : CallR X (.builtin "len") (rLen X.K) := call_len
theorem one_inv {B : Hp} {vs : List V} {x : D} (h : Rps G B vs [x]) : ∃ v, vs = [v] ∧ Rp G B v x := by
  cases h with
  | cons h t =>
    cases t
    exact ⟨_, rfl, h⟩
theorem two_inv {B : Hp} {vs : List V} {x y : D} (h : Rps G B vs [x, y]) : ∃ v w, vs = [v, w] ∧ Rp G B v x ∧ Rp G B w y := by
  cases h with
  | cons h t =>
    obtain ⟨w, rfl, hw⟩ := one_inv t
    exact ⟨_, _, rfl, h, hw⟩
theorem lc_int {i : Int} (k : κ (.py (.int i)) O) : LC G B0 rInt1 [.py (.int i)] O κ := fun B H vs s r Q q => by
  obtain ⟨v, rfl, r1⟩ := one_inv r
  rw [Dd.int_inv r1]
  exact .inl ⟨i, rfl, q _ _ B H O k (Ex.refl B) s (show Dd _ _ _ _ from .int _)⟩
theorem lc_intB {b : Bool} (k : κ (.py (.int (if b then 1 else 0))) O) : LC G B0 rInt1 [.py (.bool b)] O κ := fun B H vs s r Q q => by
  obtain ⟨v, rfl, r1⟩ := one_inv r
  rw [Dd.bl_inv r1]
  exact .inr ⟨b, rfl, q _ _ B H O k (Ex.refl B) s (show Dd _ _ _ _ from .int _)⟩
theorem lc_abs {i : Int} (k : κ (.py (.int (i.natAbs : Int))) O) : LC G B0 rAbs [.py (.int i)] O κ := fun B H vs s r Q q => by
  obtain ⟨v, rfl, r1⟩ := one_inv r
  rw [Dd.int_inv r1]
  have e : (if i < 0 then -i else i) = (i.natAbs : Int) := by split <;> omega
  exact ⟨i, rfl, by rw [e]; exact q _ _ B H O k (Ex.refl B) s (show Dd _ _ _ _ from .int _)⟩
theorem lc_mx {i j : Int} (k : κ (.py (.int (max i j))) O) : LC G B0 rMx [.py (.int i), .py (.int j)] O κ := fun B H vs s r Q q => by
  obtain ⟨v, w, rfl, r1, r2⟩ := two_inv r
  rw [Dd.int_inv r1, Dd.int_inv r2]
  have e : (if j > i then j else i) = max i j := by split <;> omega
  exact ⟨i, j, rfl, by rw [e]; exact q _ _ B H O k (Ex.refl B) s (show Dd _ _ _ _ from .int _)⟩
theorem lc_mn {i j : Int} (k : κ (.py (.int (min i j))) O) : LC G B0 rMn [.py (.int i), .py (.int j)] O κ := fun B H vs s r Q q => by
  obtain ⟨v, w, rfl, r1, r2⟩ := two_inv r
  rw [Dd.int_inv r1, Dd.int_inv r2]
  have e : (if j < i then j else i) = min i j := by split <;> omega
  exact ⟨i, j, rfl, by rw [e]; exact q _ _ B H O k (Ex.refl B) s (show Dd _ _ _ _ from .int _)⟩
theorem lc_len {x : D} {ds : List PyData} (hx : asPy O x = some (.list ds)) (k : κ (.py (.int (ds.length : Int))) O) : LC G B0 (rLen G.K) [x] O κ := fun B H vs s r Q q => by
  obtain ⟨v, rfl, r1⟩ := one_inv r
  obtain ⟨a, ws, rfl, h1, h2, _⟩ := lst_of s r1 hx
  exact ⟨_, ds.length, rfl, .inl ⟨ws, h1, h2.len.symm⟩, q _ _ B H O k (Ex.refl B) s (show Dd _ _ _ _ from .int _)⟩
theorem lc_lenT {ds : List PyData} (k : κ (.py (.int (ds.length : Int))) O) : LC G B0 (rLen G.K) [.py (.tuple ds)] O κ := fun B H vs s r Q q => by
  obtain ⟨v, rfl, r1⟩ := one_inv r
  obtain ⟨a, ws, rfl, h1, h2⟩ := Dd.tup_inv r1
  exact ⟨_, ds.length, rfl, .inr ⟨ws, ex_t s.ex h1, h2.len.symm⟩, q _ _ B H O k (Ex.refl B) s (show Dd _ _ _ _ from .int _)⟩
theorem lc_repr {x : D} {d : PyData} (hx : asPy O x = some d) (ok : okR d) (sz : szR d ≤ 10000000) (dp : d.depth ≤ 60) (k : κ (.py (.str d.shown)) O) : LC G B0 (rRepr G.K) [x] O κ := fun B H vs s r Q q => by
  obtain ⟨v, rfl, r1⟩ := one_inv r
  exact .inl ⟨v, d, rfl, dp_of s r1 hx (okR_nodict ok), ok, Nat.le_trans sz (by decide), dp, q _ _ B H O k (Ex.refl B) s (show Dd _ _ _ _ from .str _)⟩
theorem lc_reprD {ds : List (PyData × PyData)} (h1 : (PyData.dict ds).showable = true) (h2 : (PyData.dict ds).shown.length ≤ 10000000) (h3 : (PyData.dict ds).depth ≤ 60) (k : κ (.py (.str (PyData.dict ds).shown)) O) : LC G B0 (rRepr G.K) [.py (.dict ds)] O κ := fun B H vs s r Q q => by
  obtain ⟨v, rfl, r1⟩ := one_inv r
  cases r1 with
  | dct h kv => exact .inr ⟨_, _, ds, rfl, s.ex _ _ h, kv, h1, Nat.le_trans h2 (by decide), h3, q _ _ B H O k (Ex.refl B) s (show Dd _ _ _ _ from .str _)⟩
/-- {k: v} of written things -/
theorem le_disp1 {ρ : Ro} {k : Key} {v : V} {d : PyData} (hl : Lf v d) (h : κ (.py (.dict [(keyD k, d)])) O) : LE G B0 (tDisp [(tC (kV k), tC v)]) ρ O κ := fun B H σ s t Q q p hp => by
  refine ⟨upd_same, [(k, v)], rfl, (by show 1 ≤ 15; decide), ?_⟩
  rw [upd_upd]
  obtain ⟨e2, s2⟩ := s.newB (o := .dK (mergeK [] [(k, v)])) hp
  exact q _ _ _ _ O h e2 s2 (show Dd _ _ _ _ from .dct upd_same (.cons ⟨rfl, hl⟩ .nil))
theorem lc_gcd {i j : Int} (k : κ (.py (.int (Int.gcd i j : Int))) O) : LC G B0 rGcd [.py (.int i), .py (.int j)] O κ := fun B H vs s r Q q => by
  obtain ⟨v, w, rfl, r1, r2⟩ := two_inv r
  rw [Dd.int_inv r1, Dd.int_inv r2]
  exact ⟨i, j, rfl, q _ _ B H O k (Ex.refl B) s (show Dd _ _ _ _ from .int _)⟩
theorem lc_sum {x : D} {ns : List Int} (hx : asPy O x = some (.list (ns.map PyData.int))) (k : κ (.py (.int ns.sum)) O) : LC G B0 (rSum G.K) [x] O κ := fun B H vs s r Q q => by
  obtain ⟨v, rfl, r1⟩ := one_inv r
  obtain ⟨a, ws, rfl, h1, h2, _⟩ := lst_of s r1 hx
  rw [DdAll.ints h2] at h1
  exact ⟨a, ns, rfl, h1, q _ _ B H O k (Ex.refl B) s (show Dd _ _ _ _ from .int _)⟩
theorem lc_max {x : D} {ns : List Int} (hx : asPy O x = some (.list (ns.map PyData.int))) (h0 : 0 < ns.length) (k : ∀ m, m ∈ ns → (∀ y, y ∈ ns → y ≤ m) → κ (.py (.int m)) O) : LC G B0 (rMax G.K) [x] O κ := fun B H vs s r Q q => by
  obtain ⟨v, rfl, r1⟩ := one_inv r
  obtain ⟨a, ws, rfl, h1, h2, _⟩ := lst_of s r1 hx
  rw [DdAll.ints h2] at h1
  exact ⟨a, ns, rfl, h1, h0, fun m hm hy => q _ _ B H O (k m hm hy) (Ex.refl B) s (show Dd _ _ _ _ from .int _)⟩
/-- a type's name, for isinstance -/
def tyN : PyData → String
  | .none => "NoneType"
  | .bool _ => "bool"
  | .int _ => "int"
  | .str _ => "str"
  | .list _ => "list"
  | .tuple _ => "tuple"
  | .dict _ => "dict"
theorem tyx_of {K : PySem.W.Frag} {H : Hp} {v : V} {d : PyData} (h : Dd K H v d) : TyX K H v (.type (tyN d)) := by
  cases h with
  | non => exact .base .non
  | bl b => exact .base (.bl b)
  | int i => exact .base (.int i)
  | str x => exact .base (.str x)
  | lst h a => exact .base (.lst h)
  | dct h a => exact .base (.dK h)
  | tup h a =>
    rcases h with (h | ⟨o, h⟩) | ⟨o, its, n, h, c, _⟩
    · exact .base (.tup h)
    · exact .fTuple h
    · exact .kTuple h c
theorem lc_isi {d : PyData} {T : String} {b : Bool} (hk : kitB (tyN d) T = some b) (k : κ (.py (.bool b)) O) : LC G B0 (rIsi G.K) [.py d, .raw (.ty T)] O κ := fun B H vs s r Q q => by
  obtain ⟨v, w, rfl, r1, r2⟩ := two_inv r
  cases (show w = V.ty T from r2)
  exact ⟨v, _, _, _, b, rfl, .ty T, tyx_of (Dd.mono s.ex r1), kit_ty hk, q _ _ B H O k (Ex.refl B) s (show Dd _ _ _ _ from .bl _)⟩
end
end DL

namespace DL
open PySem PySem.Spec PyProof.Rows L2 Evl

/-! ## what a def promises, on data -/
abbrev DSp := List D → Ow → (D → Ow → Prop) → (Addr → PyData → Ow → Prop) → Prop
def spD (G : Gs) (F : DSp) : Sp := fun vs H Q E => ∃ (B : Hp) (ds : List D) (O : Ow) (κ : D → Ow → Prop) (ε : Addr → PyData → Ow → Prop), Rps G B vs ds ∧ SatH G B B H O ∧ F ds O κ ε ∧
  (∀ v d B' H' O', κ d O' → Ex B B' → SatH G B B' H' O' → Rp G B' v d → Q v H') ∧
  ∀ C dd x B' H' O', ε C x O' → Ex B B' → SatH G B B' H' O' → (∃ w, B' dd = some (.xd [("value", w)]) ∧ Dd G.K B' w x) → E (.ref C) (some dd) H'
def startR (N : List Str) (ds : List D) : Ro := ds.map some ++ List.replicate (N.length - ds.length) none
section
variable {G : Gs}
theorem SatH.base {B0 B H : Hp} {O : Ow} (s : SatH G B0 B H O) : SatH G B B H O := ⟨Ex.refl B, s.ex, s.ow⟩
theorem SatH.rebase {B0 B1 B H : Hp} {O : Ow} (s : SatH G B1 B H O) (e : Ex B0 B1) : SatH G B0 B H O := ⟨e.trans s.e0, s.ex, s.ow⟩
theorem slots_map {B : Hp} : ∀ {vs : List V} {ds : List D} (n : Nat), Rps G B vs ds → Slots G B (vs.map some ++ List.replicate n none) (ds.map some ++ List.replicate n none)
  | _, _, n, .nil => ⟨by simp, fun i d h => by
      rw [List.map_nil, List.nil_append, List.getElem?_replicate] at h
      split at h <;> cases h⟩
  | _, _, n, .cons h t => by
    have ih := slots_map n t
    refine ⟨by simpa using ih.len, fun i d hd => ?_⟩
    cases i with
    | zero =>
      cases hd
      exact ⟨_, rfl, h⟩
    | succ i => exact ih.get i d hd
theorem slots_start {B : Hp} {N : List Str} {vs : List V} {ds : List D} (r : Rps G B vs ds) : Slots G B (L2.start N vs) (startR N ds) := by
  unfold L2.start startR
  rw [r.len]
  exact slots_map _ r
/-- a body that lets nothing out -/
theorem body_of {F : DSp} {N : List Str} {t : TS} (h : ∀ (B0 : Hp) ds O κ ε, F ds O κ ε → LS G B0 t (startR N ds) O (fun _ O' => κ (.py .none) O') κ (fun _ _ => False) (fun _ _ => False))
    {vs : List V} {H : Hp} {Q : VK} {E : XK} (hp : spD G F vs H Q E) : t { nx := fun _ H' => Q .non H', rt := Q } (L2.start N vs) H := by
  obtain ⟨B, ds, O, κ, ε, r, s, hF, hq, _⟩ := hp
  refine h B ds O κ ε hF B H _ s (slots_start r) _ ?_ ?_ ?_ ?_
  · exact fun B' H' σ' ρ' O' k e s' t' => hq .non (.py .none) B' H' O' k e s' .non
  · exact fun v d B' H' O' k e s' r' => hq v d B' H' O' k e s' r'
  · exact fun B' H' σ' ρ' O' k e s' t' => False.elim k
  · exact fun B' H' σ' ρ' O' k e s' t' => False.elim k
/-- a body that may raise -/
theorem bodyX_of {F : DSp} {N : List Str} {t : XK → TS} (h : ∀ (B0 : Hp) (E : XK) ds O κ ε, F ds O κ ε → WOk G B0 (fun cls d _ H => E cls d H) (fun C x _ O => ε C x O) → LS G B0 (t E) (startR N ds) O (fun _ O' => κ (.py .none) O') κ (fun _ _ => False) (fun _ _ => False))
    {vs : List V} {H : Hp} {Q : VK} {E : XK} (hp : spD G F vs H Q E) : t E { nx := fun _ H' => Q .non H', rt := Q } (L2.start N vs) H := by
  obtain ⟨B, ds, O, κ, ε, r, s, hF, hq, hx⟩ := hp
  refine h B E ds O κ ε hF ?_ B H _ s (slots_start r) _ ?_ ?_ ?_ ?_
  · exact fun B' H' σ' ρ' O' C dd x s' t' k f => hx C dd x B' H' O' k s'.e0 s' f
  · exact fun B' H' σ' ρ' O' k e s' t' => hq .non (.py .none) B' H' O' k e s' .non
  · exact fun v d B' H' O' k e s' r' => hq v d B' H' O' k e s' r'
  · exact fun B' H' σ' ρ' O' k e s' t' => False.elim k
  · exact fun B' H' σ' ρ' O' k e s' t' => False.elim k
theorem spD_len {F : DSp} {n : Nat} (h : ∀ ds O κ ε, F ds O κ ε → ds.length = n) : ∀ vs H Q E, spD G F vs H Q E → vs.length = n := by
  rintro vs H Q E ⟨B, ds, O, κ, ε, r, s, hF, hq, hx⟩
  rw [r.len]
  exact h ds O κ ε hF
end
section
variable {G : Gs} {B0 : Hp} {ρ : Ro} {O : Ow} {κ : D → Ow → Prop} {F : DSp}
/-- f(e, ..) that lets nothing out -/
theorem le_call {E : XK} {ta : TA} (h : LA G B0 ta ρ O fun ds O1 => F ds O1 κ fun _ _ _ => False) : LE G B0 (tCall (spD G F) [] E ta) ρ O κ := fun B H σ s t Q q =>
  h B H σ s t _ fun vs ds B1 H1 O1 hF e1 s1 r1 => by
    refine ⟨B1, ds, O1, κ, _, by rw [List.append_nil]; exact r1, s1.base, hF, ?_, fun _ _ _ _ _ _ z => False.elim z⟩
    exact fun v d B' H' O' k e s' r' => q v d B' H' O' k (e1.trans e) (s'.rebase s1.e0) r'
/-- the same where what is raised is wished for -/
theorem le_callG {E : L2.St → XK} {ta : TA} (h : LA G B0 ta ρ O fun ds O1 => F ds O1 κ fun _ _ _ => False) : LE G B0 (tCallS (spD G F) E ta) ρ O κ := fun B H σ s t Q q =>
  h B H σ s t _ fun vs ds B1 H1 O1 hF e1 s1 r1 => by
    refine ⟨B1, ds, O1, κ, _, r1, s1.base, hF, ?_, fun _ _ _ _ _ _ z => False.elim z⟩
    exact fun v d B' H' O' k e s' r' => q v d B' H' O' k (e1.trans e) (s'.rebase s1.e0) r'
theorem le_callS {W : WX} {ε : Addr → PyData → Ro → Ow → Prop} {ta : TA} (hW : WOk G B0 W ε) (h : LA G B0 ta ρ O fun ds O1 => F ds O1 κ fun C x O2 => ε C x ρ O2) : LE G B0 (tCallS (spD G F) (WE W) ta) ρ O κ := fun B H σ s t Q q =>
  h B H σ s t _ fun vs ds B1 H1 O1 hF e1 s1 r1 => by
    refine ⟨B1, ds, O1, κ, _, r1, s1.base, hF, ?_, ?_⟩
    · exact fun v d B' H' O' k e s' r' => q v d B' H' O' k (e1.trans e) (s'.rebase s1.e0) r'
    · exact fun C dd x B' H' O' k e s' f => hW B' H' σ ρ O' C dd x (s'.rebase s1.e0) (t.mono (e1.trans e)) k f
end
/-- the places idx of a list -/
def pk {α : Type} (idx : List Nat) (l : List α) : List α := idx.filterMap fun i => l[i]?
theorem paired_at {α β : Type} {R : α → β → Prop} : ∀ {xs : List α} {ys : List β} (i : Nat), Paired R xs ys → (xs[i]? = none ∧ ys[i]? = none) ∨ ∃ x y, xs[i]? = some x ∧ ys[i]? = some y ∧ R x y
  | _, _, _, .nil => .inl ⟨rfl, rfl⟩
  | _, _, 0, .cons h t => .inr ⟨_, _, rfl, rfl, h⟩
  | _, _, i + 1, .cons h t => paired_at i t
theorem pk_paired {α β : Type} {R : α → β → Prop} {xs : List α} {ys : List β} (p : Paired R xs ys) : ∀ idx : List Nat, Paired R (pk idx xs) (pk idx ys)
  | [] => .nil
  | i :: r => by
    have ih := pk_paired p r
    unfold pk at ih ⊢
    rw [List.filterMap_cons, List.filterMap_cons]
    rcases paired_at i p with ⟨h1, h2⟩ | ⟨x, y, h1, h2, h3⟩
    · rw [h1, h2]
      exact ih
    · rw [h1, h2]
      exact .cons h3 ih
/-- how a call with keywords binds: the positional ones and the keywords' values behind one another, put in the parameters' order -/
abbrev KB (K : PySem.W.Frag) (fd : FuncData) (ps : List Str) (n : Nat) (ks : List Str) (idx : List Nat) : Prop := KBn K fd ps n ks (fun us ws => pk idx (us ++ ws)) (fun vs zs => pk idx (vs ++ zs))
theorem kb_mk {K : PySem.W.Frag} {fd : FuncData} {ps : List Str} {n : Nat} {ks : List Str} {idx : List Nat} (h : ∀ us ws : List Value, us.length = n → ws.length = ks.length → bindArgs fd ⟨us, ks.zip ws⟩ = pure (ps.zip (pk idx (us ++ ws)))) : KB K fd ps n ks idx :=
  ⟨fun s us ws _ h1 h2 => .of_eq (h us ws h1 h2), fun r1 r2 => pk_paired (r1.append r2) idx⟩
/-- f(.., k = v, ..), what is raised wished for -/
def tCallNS (n m : Nat) (sp : Sp) (idx : List Nat) (E : L2.St → XK) (t tk : TA) : TE := fun σ H Q => t σ H fun vs H1 => tk σ H1 fun zs H2 => vs.length = n ∧ zs.length = m ∧ sp (pk idx (vs ++ zs)) H2 Q (E σ)
section
variable {X : Cx} {CX : CXT} {k n : Nat} {f : Addr} {fd : FuncData} {ps ks : List Str} {sp : Sp} {E : L2.St → XK} {x : Str} {p pos : Pos} {kws : List Keyword} {tk : TA} {idx : List Nat}
theorem run_kw {pins : List (Addr × Obj)} {σ : L2.St} {H : Hp} {s : Shared} {Q : VK} {us ws : List Value} {vs zs : List V} (F : FnOk X.prog X.w X.K X.mg X.base CX k f fd ps sp) (hr : Room k X.A) (hb : KB X.K fd ps n ks idx) (hx : PassesAt CX X σ (E σ))
    (I : Inv X pins σ H s) (r : Vals vs us) (rz : Vals zs ws) (l1 : vs.length = n) (l2 : zs.length = ks.length) (h : sp (pk idx (vs ++ zs)) H Q (E σ)) : wpAny (model X.prog X.w) X.A (call (.ref f) us (ks.zip ws)) (EP X pins σ Q) X.xe s := by
  have b := hb.to s us ws I.kIn (by rw [← r.length]; exact l1) (by rw [← rz.length]; exact l2)
  refine wpAny_call (codeAny_mono (F.run X.A X.stack s H ⟨us, ks.zip ws⟩ _ _ Q (E σ) hr I.env0 b (hb.rel r rz) h) fun r s' hq => ?_)
  rcases r with e | fl
  · exact hx pins H s e s' I hq
  · rcases fl with _ | _ | _ | u
    all_goals first | exact False.elim hq | exact I.after hq
/-- f(k = v, ..) -/
theorem pe_kw0 (F : FnOk X.prog X.w X.K X.mg X.base CX k f fd ps sp) (hr : Room k X.A) (hg : Gl X x) (hm : X.mg x = some (.ref f)) (hk : PySem.W.keepIn X.K (.ref f) = true) (hb : KB X.K fd ps 0 ks idx) (hx : ∀ σ, PassesAt CX X σ (E σ))
    (hkw : PK X kws tk) (hall : (backToKw pos (keywordEach kws X.env)).all (·.1.isSome) = true := by rfl) (hks : (backToKw pos (keywordEach kws X.env)).filterMap (·.1) = ks := by rfl)
    (hdb : (x == ("__debug__" : Str)) = false := by decide)
    (hpl : ((backTo pos (starEach [] X.env)).any (·.1) || (backToKw pos (keywordEach kws X.env)).any (·.1.isNone)) = false := by rfl) :
    PE X (.Call (.Name x p) [] kws pos) (tCallNS 0 ks.length sp idx E tNil tk) := by
  refine ⟨fun pins s σ H Q I h => ?_⟩
  refine wpAny_Call_Name_kw (ld_glob I hg hm ?_ hdb)
  refine PySem.W.callWith_KW0 (h₀ := X.base) I.ok.mod.kin hk hall (thn (hkw.run pos pins s σ H _ I h) fun ws s2 ⟨zs, H2, I2, rz, l1, l2, q2⟩ => ⟨I2.kIn, ?_⟩) hpl
  rw [hks]
  exact run_kw (us := []) F hr hb (hx σ) I2 .nil rz l1 l2 q2
end
theorem passE {X : Cx} {σ : L2.St} : PassesAt CX0 X σ E0 := fun _ _ _ _ _ _ h => False.elim h
section
variable {G : Gs} {B0 : Hp} {ρ : Ro} {O : Ow} {κ : D → Ow → Prop} {F : DSp}
theorem le_kw0 {E : L2.St → XK} {m : Nat} {idx : List Nat} {tk : TA} (h : LA G B0 tk ρ O fun ds O1 => ds.length = m ∧ F (pk idx ds) O1 κ fun _ _ _ => False) : LE G B0 (tCallNS 0 m (spD G F) idx E tNil tk) ρ O κ := fun B H σ s t Q q =>
  h B H σ s t _ fun vs ds B1 H1 O1 ⟨hl, hF⟩ e1 s1 r1 => by
    refine ⟨rfl, by rw [r1.len]; exact hl, B1, pk idx ds, O1, κ, _, pk_paired r1 idx, s1.base, hF, ?_, fun _ _ _ _ _ _ z => False.elim z⟩
    exact fun v d B' H' O' k e s' r' => q v d B' H' O' k (e1.trans e) (s'.rebase s1.e0) r'
theorem le_kw0S {W : WX} {ε : Addr → PyData → Ro → Ow → Prop} {m : Nat} {idx : List Nat} {tk : TA} (hW : WOk G B0 W ε) (h : LA G B0 tk ρ O fun ds O1 => ds.length = m ∧ F (pk idx ds) O1 κ fun C x O2 => ε C x ρ O2) : LE G B0 (tCallNS 0 m (spD G F) idx (WE W) tNil tk) ρ O κ := fun B H σ s t Q q =>
  h B H σ s t _ fun vs ds B1 H1 O1 ⟨hl, hF⟩ e1 s1 r1 => by
    refine ⟨rfl, by rw [r1.len]; exact hl, B1, pk idx ds, O1, κ, _, pk_paired r1 idx, s1.base, hF, ?_, ?_⟩
    · exact fun v d B' H' O' k e s' r' => q v d B' H' O' k (e1.trans e) (s'.rebase s1.e0) r'
    · exact fun C dd x B' H' O' k e s' f => hW B' H' σ ρ O' C dd x (s'.rebase s1.e0) (t.mono (e1.trans e)) k f
end
/-! ## own errors with a value -/
/-- the promise of their __init__ -/
def spInit (K : PySem.W.Frag) : Sp := fun vs H Q _ => ∃ (a C : Addr) (y : V), vs = [.ref a, y] ∧ OexC K C ∧ PySem.W.findIn K (.ref C) "value" = some none ∧ H a = some (exo a C none) ∧
  ∀ dx, H dx = none → dx ≠ a → Q .non (upd (upd H dx (exd dx [("value", y)])) a (exo a C (some dx)))
theorem spInit_len {K : PySem.W.Frag} : ∀ vs H Q E, spInit K vs H Q E → vs.length = (["self", "value"] : List Str).length := by
  rintro vs H Q E ⟨a, C, y, rfl, _⟩
  rfl
def tInit (K : PySem.W.Frag) : TS := tOst K "value" (tVar 0) (tVar 1)
theorem run_init {K : PySem.W.Frag} {vs : List V} {H : Hp} {Q : VK} {E : XK} (h : spInit K vs H Q E) : tInit K { nx := fun _ H' => Q .non H', rt := Q } (L2.start ["self", "value"] vs) H := by
  obtain ⟨a, C, y, rfl, T, hn, ha, k⟩ := h
  exact ⟨_, rfl, _, rfl, a, C, rfl, T, hn, .inl ⟨ha, k⟩⟩
def tRaise1 (K : PySem.W.Frag) (C : Addr) (W : WX) (ta : TA) : TS := fun _ σ H => tMkO C (spInit K) [] ta σ H fun cls d H' => W cls d σ H'
theorem ls_raise {G : Gs} {B0 : Hp} {ρ : Ro} {O : Ow} {N : Ro → Ow → Prop} {R : D → Ow → Prop} {Bk Ct : Ro → Ow → Prop} {W : WX} {ε : Addr → PyData → Ro → Ow → Prop} {C : Addr} {ta : TA} (hW : WOk G B0 W ε) (T : OexC G.K C) (hn : PySem.W.findIn G.K (.ref C) "value" = some none)
    (h : LA G B0 ta ρ O fun ds O1 => ∃ x, ds = [.py x] ∧ ε C x ρ O1) : LS G B0 (tRaise1 G.K C W ta) ρ O N R Bk Ct := fun B H σ s t Dn a1 a2 a3 a4 =>
  h B H σ s t _ fun vs ds B1 H1 O1 ⟨x, ex, k⟩ e1 s1 r1 => by
    subst ex
    cases r1 with
    | cons rv rs =>
      rename_i v vs
      cases rs
      refine ⟨by simp, fun a ha => ⟨a, C, v, rfl, T, hn, upd_same, fun dx hdx hne => ?_⟩⟩
      have hd1 : H1 dx = none := by
        rw [upd_ne hne] at hdx
        exact hdx
      have key : upd (del (upd (upd (upd H1 a (exo a C none)) dx (exd dx [("value", v)])) a (exo a C (some dx))) a) dx (.xd [("value", v)]) = upd H1 dx (.xd [("value", v)]) := by
        funext b
        by_cases hb : b = dx
        · subst hb
          rw [upd_same, upd_same]
        · rw [upd_ne hb, upd_ne hb]
          by_cases hba : b = a
          · subst hba
            rw [del_same, ha]
          · rw [del_ne hba, upd_ne hba, upd_ne hb, upd_ne hba]
      refine ⟨rfl, dx, [("value", v)], upd_same, by rw [upd_ne hne, upd_same], hd1, ?_⟩
      rw [key]
      obtain ⟨e2, s2⟩ := s1.newB (o := .xd [("value", v)]) hd1
      exact hW _ _ σ ρ O1 C dx x s2 (t.mono (e1.trans e2)) k ⟨v, upd_same, Dd.mono e2 rv⟩
/-- try: .. except c as n: .. -/
def tTry (K : PySem.W.Frag) (c : Value) (i : Nat) (tb : WX → TS) (ts : Addr → Value → Option Addr → TS) (Wout : WX) : TS := fun D σ H => tb (wAs K c i ts Wout D) D σ H
theorem ls_try {G : Gs} {B0 : Hp} {ρ : Ro} {O : Ow} {N : Ro → Ow → Prop} {R : D → Ow → Prop} {Bk Ct : Ro → Ow → Prop} {Wout : WX} {ε : Addr → PyData → Ro → Ow → Prop} {c : Value} {i : Nat} {tb : WX → TS} {ts : Addr → Value → Option Addr → TS}
    (hb : ∀ (W : WX) (B1 : Hp), WOk G B1 W ε → LS G B1 (tb W) ρ O N R Bk Ct)
    (hs : ∀ (B1 : Hp) (C : Addr) (x : PyData) ρ' O' (a dd : Addr), ε C x ρ' O' → PySem.W.exmOne G.K (.ref C) c = some true ∧
      LS G B1 (ts a (.ref C) (some dd)) (ρ'.set i (some (.exc a dd x))) O' (fun ρ2 O2 => N (ρ2.set i none) O2) R (fun ρ2 O2 => Bk (ρ2.set i none) O2) (fun ρ2 O2 => Ct (ρ2.set i none) O2)) :
    LS G B0 (tTry G.K c i tb ts Wout) ρ O N R Bk Ct := fun B H σ s t Dn a1 a2 a3 a4 => by
  refine hb _ B ?_ B H σ s.base t Dn ?_ ?_ ?_ ?_
  · intro B' H' σ' ρ' O' C dd x s' t' hε hx
    obtain ⟨ex, _⟩ := hs B C x ρ' O' 0 dd hε
    refine ⟨true, ex, fun _ a ha => ?_, fun z => Bool.noConfusion z⟩
    obtain ⟨_, ls⟩ := hs B' C x ρ' O' a dd hε
    have t2 := t'.set i (show Rp G B' (.ref a) (.exc a dd x) from ⟨rfl, hx⟩)
    refine ls B' H' _ s'.base t2 _ ?_ ?_ ?_ ?_
    · exact fun B2 H2 σ2 ρ2 O2 k e2 s2 t2 => a1 B2 H2 _ _ O2 k (s'.e0.trans e2) ((s2.rebase s'.e0).rebase s.e0) (t2.setN i)
    · exact fun v d B2 H2 O2 k e2 s2 r2 => a2 v d B2 H2 O2 k (s'.e0.trans e2) ((s2.rebase s'.e0).rebase s.e0) r2
    · exact fun B2 H2 σ2 ρ2 O2 k e2 s2 t2 => a3 B2 H2 _ _ O2 k (s'.e0.trans e2) ((s2.rebase s'.e0).rebase s.e0) (t2.setN i)
    · exact fun B2 H2 σ2 ρ2 O2 k e2 s2 t2 => a4 B2 H2 _ _ O2 k (s'.e0.trans e2) ((s2.rebase s'.e0).rebase s.e0) (t2.setN i)
  · exact fun B2 H2 σ2 ρ2 O2 k e2 s2 t2 => a1 B2 H2 _ _ O2 k e2 (s2.rebase s.e0) t2
  · exact fun v d B2 H2 O2 k e2 s2 r2 => a2 v d B2 H2 O2 k e2 (s2.rebase s.e0) r2
  · exact fun B2 H2 σ2 ρ2 O2 k e2 s2 t2 => a3 B2 H2 _ _ O2 k e2 (s2.rebase s.e0) t2
  · exact fun B2 H2 σ2 ρ2 O2 k e2 s2 t2 => a4 B2 H2 _ _ O2 k e2 (s2.rebase s.e0) t2
/-- what a body under try, and the clause's suite, must be -/
def TryB (X : Cx) (body : List Stmt) (tb : WX → TS) : Prop := ∀ (V : WX) (ps : List (Addr × Obj)) (F : Value → Shared → Prop) (_ : Takes (X.tr ps F) V) (_ : PassesOwn (model X.prog X.w) X.A X.env F), PSs (X.tr ps F) body (tb V)
def TryS (X : Cx) (suite : List Stmt) (ts : Addr → Value → Option Addr → TS) : Prop := ∀ (b : Addr) (ob : Obj) (cl : Value) (dd : Option Addr) (ps : List (Addr × Obj)) (_ : Zc cl dd ob) (_ : ∃ vs, ob.data = .fields vs), PSs (X.suite b ((b, ob) :: ps)) suite (ts b cl dd)
theorem ps_tryT {X : Cx} {i : Nat} {n x : Str} {c : Value} {Wout : WX} {body suite : List Stmt} {s₁ : Stmt} {tb : WX → TS} {ts : Addr → Value → Option Addr → TS} {np pos pos' : Pos} (h1 : X.stack = X.env :: X.outer) (h2 : X.env.frame = some X.env.locals) (h3 : X.N.Nodup)
    (h4 : X.N[i]? = some n) (h5 : X.env.kindOf n = some .local) (h6 : Names X x c) (h7 : Takes X Wout) (h8 : TryB X body tb) (h9 : TryS X (s₁ :: suite) ts) :
    PS X (.Try body [.ExceptHandler (some (.Name x np)) (some n) (s₁ :: suite) pos'] [] [] pos) (tTry X.K c i tb ts Wout) := ps_try_as h1 h2 h3 h4 h5 h6 h7 h8 h9
/-- e.value of the error that a suite holds -/
def tXv (K : PySem.W.Frag) (a : Addr) (cls : Value) (d : Option Addr) (te : TE) : TE := fun σ H Q => ∃ C, cls = .ref C ∧ XfC K C ∧ PySem.W.findIn K (.ref C) "value" = some none ∧ tXf a cls d C "value" te σ H Q
theorem pe_xv {X : Cx} {a : Addr} {oe : Obj} {cls : Value} {d : Option Addr} {pn : List (Addr × Obj)} {e : Expr} {te : TE} {pos : Pos} (hz : Zc cls d oe) (hf : ∃ vs, oe.data = .fields vs) (he : PE (X.suite a ((a, oe) :: pn)) e te)
    (hb : attributeBase e "value" X.env (eval e X.env) = eval e X.env := by rfl) : PE (X.suite a ((a, oe) :: pn)) (.Attribute e "value" pos) (tXv X.K a cls d te) :=
  ⟨fun pins s σ H Q I ⟨C, ec, T, hn, h⟩ => (pe_xf T hn hz hf he hb).run pins s σ H Q I h⟩
theorem le_xv {G : Gs} {B0 : Hp} {ρ : Ro} {O : Ow} {κ : D → Ow → Prop} {a dd C : Addr} {te : TE} (T : XfC G.K C) (hn : PySem.W.findIn G.K (.ref C) "value" = some none)
    (h : LE G B0 te ρ O fun x O1 => ∃ d, x = .exc a dd d ∧ κ (.py d) O1) : LE G B0 (tXv G.K a (.ref C) (some dd) te) ρ O κ := fun B H σ s t Q q =>
  ⟨C, rfl, T, hn, h B H σ s t _ fun v x B1 H1 O1 ⟨d, ex, k⟩ e1 s1 r1 => by
    subst ex
    obtain ⟨rfl, w, hw, hd⟩ := r1
    refine ⟨rfl, rfl, dd, _, w, rfl, s1.ex _ _ hw, ?_, q _ _ B1 H1 O1 k e1 s1 hd⟩
    simp [List.lookup]⟩
/-- isinstance(e, c), isinstance(e, (c, ..)) of it -/
def rIsX (K : PySem.W.Frag) (cls : Value) (d : Option Addr) (a : Addr) : List V → Hp → VK → Prop := fun xs H Q => ∃ (D dd : Addr) (fs : List (Str × V)) (b : Bool), cls = .ref D ∧ d = some dd ∧ H dd = some (.xd fs) ∧ ExcC K D ∧
  ((∃ (c : V) (cv : Value), xs = [.ref a, c] ∧ ClsV c cv ∧ PySem.W.kitOne K (.ref D) cv = some b) ∨
    ∃ (tp : Addr) (cs : List V) (us : List Value), xs = [.ref a, .ref tp] ∧ H tp = some (.tup cs) ∧ Paired ClsV cs us ∧ PySem.W.kitAny K (.ref D) us = some b) ∧ Q (.bl b) H
theorem any_dct {K : PySem.W.Frag} {D : Addr} (h : PySem.W.hasDictIn K D = true) : (PySem.W.clsIn K D).isSome = true := by
  obtain ⟨cd, hc, _⟩ := PySem.W.any_some h
  rw [hc]
  rfl
theorem cr_isx {X : Cx} {a : Addr} {oe : Obj} {cls : Value} {d : Option Addr} {pn : List (Addr × Obj)} (hz : Zc cls d oe) (hf : ∃ vs, oe.data = .fields vs) : CallR (X.suite a ((a, oe) :: pn)) (.builtin "isinstance") (rIsX X.K cls d a) := by
  intro pins s σ H xs us Q I r h
  obtain ⟨D, dd, fs, b, rfl, rfl, hd, C, hc, q⟩ := h
  obtain ⟨hget, _⟩ := I.pin (a, oe) (List.mem_append.mpr (.inl List.mem_cons_self))
  obtain ⟨vs, hv⟩ := hf
  obtain ⟨mA, hns, _⟩ := (show ObjOk X.prog X.w H s.heap dd (.xd fs) from I.hok dd _ hd)
  obtain ⟨od, ho, _⟩ := lookIn_ns hns
  have J : PySem.W.InstAt s.heap a oe D (some od) := ⟨hget, hz.1, by unfold PySem.W.notCls; rw [hv] <;> rfl, by rw [hz.2]; exact ho⟩
  have Z : PySem.W.KitX X.K (.ref a) (.ref D) (fun h => PySem.W.InstAt h a oe D (some od)) := PySem.W.kitx_exc (any_dct C.hd) C.hg C.hk C.hs C.ha C.hn C.ht C.hm
  rcases hc with ⟨c, cv, rfl, hcv, e⟩ | ⟨tp, cs, ws, rfl, hT, hk, e⟩
  · obtain ⟨u1, u2, rfl, r1, r2⟩ := vals2 r
    cases r1
    rw [hcv.eq r2]
    exact PySem.W.kia_one Z I.kIn J e (fun z => nomatch z) fun tk => ⟨.bl b, H, I.tok tk, rfl, q⟩
  · obtain ⟨u1, u2, rfl, r1, r2⟩ := vals2 r
    cases r1
    cases (show u2 = Value.ref tp from r2)
    obtain ⟨_, its, rv, o, h1, h2, n, h3⟩ := (show ObjOk X.prog X.w H s.heap tp (.tup cs) from I.hok tp _ hT)
    rw [ClsV.all hk rv] at h3
    obtain ⟨oc, od2, dt, sl⟩ := o
    simp only at h2 h3
    subst h2 h3
    exact PySem.W.kia_tup Z I.kIn J h1 e (fun z => nomatch z) fun tk => ⟨.bl b, H, I.tok tk, rfl, q⟩
section
variable {G : Gs} {B0 : Hp} {ρ : Ro} {O : Ow} {κ : D → Ow → Prop}
theorem lc_isx {a dd C : Addr} {x : PyData} {c : V} {cv : Value} {b : Bool} (T : ExcC G.K C) (hc : ClsV c cv) (hk : PySem.W.kitOne G.K (.ref C) cv = some b) (k : κ (.py (.bool b)) O) : LC G B0 (rIsX G.K (.ref C) (some dd) a) [.exc a dd x, .raw c] O κ := fun B H vs s r Q q => by
  obtain ⟨v, w, rfl, r1, r2⟩ := two_inv r
  cases (show w = c from r2)
  obtain ⟨rfl, w, hw, hd⟩ := r1
  exact ⟨C, dd, _, b, rfl, rfl, s.ex _ _ hw, T, .inl ⟨_, cv, rfl, hc, hk⟩, q _ _ B H O k (Ex.refl B) s (show Dd _ _ _ _ from .bl _)⟩
/-- a written tuple of classes -/
def tCs : List V → TA
  | [] => tNil
  | c :: cs => tCons (tC c) (tCs cs)
theorem tCs_run : ∀ (cs : List V) (σ : L2.St) (H : Hp) (Q : List V → Hp → Prop), Q cs H → tCs cs σ H Q
  | [], _, _, _, h => h
  | c :: cs, σ, H, Q, h => tCs_run cs σ H (fun xs H2 => Q (c :: xs) H2) h
theorem le_isxT {a dd C : Addr} {te : TE} {cs : List V} {us : List Value} {b : Bool} (T : ExcC G.K C) (hc : Paired ClsV cs us) (hl : cs.length ≤ 1000) (hk : PySem.W.kitAny G.K (.ref C) us = some b) (h : LE G B0 te ρ O fun x O1 => ∃ d, x = .exc a dd d ∧ κ (.py (.bool b)) O1) :
    LE G B0 (tCB (rIsX G.K (.ref C) (some dd) a) (tCons te (tCons (tTup (tCs cs)) tNil))) ρ O κ := fun B H σ s t Q q =>
  h B H σ s t _ fun v x B1 H1 O1 ⟨d, ex, k⟩ e1 s1 r1 => by
    subst ex
    obtain ⟨rfl, w, hw, hd⟩ := r1
    refine tCs_run cs σ H1 _ ⟨sz_of (Nat.le_trans hl (by decide)), fun p hp => ?_⟩
    have s2 := s1.newF (o := .tup cs) hp
    exact ⟨C, dd, _, b, rfl, rfl, s2.ex _ _ hw, T, .inr ⟨p, cs, us, rfl, upd_same, hc, hk⟩, q _ _ B1 _ O1 k e1 s2 (show Dd _ _ _ _ from .bl _)⟩
end
/-- the class of own errors that are raised: what the written part says -/
structure ErrC (K : PySem.W.Frag) (C : Addr) : Prop where
  oex : OexC K C
  no : PySem.W.findIn K (.ref C) "value" = some none
  exc : ExcC K C
theorem ErrC.xf {K : PySem.W.Frag} {C : Addr} (h : ErrC K C) : XfC K C := ⟨h.exc.hg, h.exc.hk, h.exc.hs, h.exc.hd⟩
end DL

namespace DL
open PySem PySem.Spec PyProof.Rows L2 Evl

/-! ## defs that show things: nothing is being shown around them -/
structure FnG (P : Program) (w : World) (K : PySem.W.Frag) (mg : Str → Option Value) (base : Heap) (CX : CXT) (k : Nat) (f : Addr) (fd : FuncData) (ps : List Str) (sp : Sp) : Prop where
  wide : ∀ vs H Q E, sp vs H Q E → vs.length = ps.length
  go : ∀ (A : Around) (above : List Env) (s : Shared) (H : Hp) (args : Args) (us : List Value) (vs : List V) (Q : VK) (E : XK), A.guards = some [] → Room k A → Env0 P w K mg base A above s H →
    BindsTo s fd args (ps.zip us) → Vals vs us → sp vs H Q E → codeAny (model P w) A (.call (.ref f) args) (CR CX above P w H s Q E) s
section
variable {P : Program} {w : World} {K : PySem.W.Frag} {mg : Str → Option Value} {base : Heap} {CX : CXT} {k : Nat} {f : Addr}
theorem fnG_of {x qual : Str} {st : Stmt} {fd : FuncData} {N ps : List Str} {sp : Sp} (F : Fun K x qual st f fd) (S : FnScope N ps (defScope st)) (wide : ∀ vs H Q E, sp vs H Q E → vs.length = ps.length)
    (bd : ∀ (cdv : Value) (A : Around) (above : List Env) (s : Shared) (H : Hp) (vs : List V) (Q : VK) (E : XK), A.guards = some [] → Room k (A.deeper (envOfC qual (defScope st) s.heap.objs.size f cdv)) → sp vs H Q E →
      ∃ t, PSs (cxOf CX P w K mg base N qual (defScope st) f cdv A above s H E) (defBody st) t ∧ t { nx := fun _ H' => Q .non H', rt := Q } (L2.start N vs) H) : FnG P w K mg base CX (k + 1) f fd ps sp := by
  obtain ⟨oc, od, kV, doc, pm, an, cdv, ct, osl, rfl, lk, hcd⟩ := F.ex
  refine ⟨wide, fun A above s H args us vs Q E gd room ee bind rel want => ?_⟩
  have cnt := wide _ _ _ _ want
  have inK : K.In s.heap := ee.mod.kin.keeps fun b o q => (ee.bs b o q).1
  have noLim : s.heap.NoLimit := ee.mod.nolimit.keeps fun b o q => (ee.bs b o q).1
  have kinds : ∀ y ∈ ps.zip us, (defScope st).names.lookup y.1 = some .local ∨ ((defScope st).names.lookup y.1 = some .cell ∧ ((cellsFrom (s.heap.objs.size + 1) (defScope st).names []).lookup y.1).isSome = true) := by
    rintro ⟨n, v⟩ hy
    exact (S.par n (List.of_mem_zip hy).1).imp id fun q => ⟨q, PySem.W.cellsFrom_some _ _ _ (.inl q)⟩
  refine codeAny_call_function room.depth (inK _ _ lk) rfl S.co S.gen rfl (PySem.W.codeRec_of inK hcd) (bind _ _ _ _ (wpAny_newFunctionEnv_cells S.kind kinds fun env ev s1 inside => ?_))
  subst ev
  obtain ⟨t, ht, hq⟩ := bd cdv A above s H vs Q E gd (room.deeper _) want
  have at0 : Inv (cxOf CX P w K mg base N qual (defScope st) f cdv A above s H E) [] (L2.start N vs) H s1 := inv_start S room.hd ee cnt rel inside
  refine ⟨noLim.keeps inside.toInCall.keep, codeAny_func (wpAny_mono (ht.run [] s1 (L2.start N vs) H _ at0 hq) (fun fl s' hs => ?_) fun e s' hs => hs)⟩
  match fl, hs with
  | .ret u, ⟨v, σ', H', J, rv, q⟩ => exact ⟨v, H', J.os, J.bare, J.base, J.hok, rv, q⟩
  | .next, ⟨σ', H', J, q⟩ => exact ⟨V.non, H', J.os, J.bare, J.base, J.hok, rfl, q⟩
  | .brk, ⟨_, _, _, q⟩ => exact False.elim q
  | .cont, ⟨_, _, _, q⟩ => exact False.elim q
end
section
variable {X : Cx} {CX : CXT} {k : Nat} {f : Addr} {fd : FuncData} {ps : List Str} {sp : Sp} {E : L2.St → XK} {x : Str} {p pos : Pos} {e : Expr} {es : List Expr} {t : TA}
/-- f(e, ..) of such a def -/
theorem pe_callG (F : FnG X.prog X.w X.K X.mg X.base CX k f fd ps sp) (gd : X.A.guards = some []) (hr : Room k X.A) (hg : Gl X x) (hm : X.mg x = some (.ref f)) (hk : PySem.W.keepIn X.K (.ref f) = true) (hb : Binds X.K fd ps []) (hx : ∀ σ, PassesAt CX X σ (E σ))
    (ha : PA X (e :: es) t) (hdb : (x == ("__debug__" : Str)) = false := by decide) (he : starEach (e :: es) X.env = (false, eval e X.env) :: starEach es X.env := by rfl) (hpl : (backTo pos (starEach es X.env)).any (·.1) = false := by rfl) :
    PE X (.Call (.Name x p) (e :: es) [] pos) (tCallS sp E t) := by
  refine ⟨fun pins s σ H Q I h => wpAny_Call_Name_kw (ld_glob I hg hm ?_ hdb)⟩
  refine PySem.W.callWith_K (h₀ := X.base) I.ok.mod.kin hk (thn (ha.run pos pins s σ H _ I h) fun us s1 ⟨vs, H1, I1, r, q⟩ => ⟨I1.kIn, ?_⟩) he hpl
  have cnt : (us ++ []).length = ps.length := by
    rw [List.append_nil, ← r.length]
    exact F.wide _ _ _ _ q
  have b := hb s1 us I1.kIn cnt
  rw [List.append_nil] at b
  show wpAny _ _ (call (.ref f) us) _ _ _
  refine wpAny_call (codeAny_mono (F.go X.A X.stack s1 H1 ⟨us, []⟩ us vs Q (E σ) gd hr I1.env0 b r q) fun res s' hq => ?_)
  rcases res with e' | fl
  · exact hx σ pins H1 s1 e' s' I1 hq
  · rcases fl with _ | _ | _ | u
    all_goals first | exact False.elim hq | exact I1.after hq
end
/-- a def that shows nothing, as one of these -/
theorem FnG.ofOk {P : Program} {w : World} {K : PySem.W.Frag} {mg : Str → Option Value} {base : Heap} {CX : CXT} {k : Nat} {f : Addr} {fd : FuncData} {ps : List Str} {sp : Sp} (F : FnOk P w K mg base CX k f fd ps sp) : FnG P w K mg base CX k f fd ps sp :=
  ⟨F.len, fun A above s H args us vs Q E _ hr e0 b r h => F.run A above s H args us vs Q E hr e0 b r h⟩
/-! ## the law's call -/
section
variable {P : Program} {w : World} {K : PySem.W.Frag} {mg mb : Str → Option Value} {k : Nat} {fa a : Addr} {fd : FuncData} {x : Str} {sp : Sp} {t1 : Shared} {vs : List Value} {ns : List Int}
theorem hid_ns {H : Hp} (ha : t1.heap.get? a = some { cls := .type "list", data := .seq vs.toArray }) (only : ∀ b, H b ≠ none → b = a) {b : Addr} {m : Str → Option Value} (n : t1.heap.Ns b m) : (hidT t1.heap H).Ns b m := by
  obtain ⟨o, es, ep, e, d, r⟩ := n
  refine ⟨o, es, ep, hidT_get e ?_, d, r⟩
  cases q : H b with
  | none => rfl
  | some u =>
    have eb : b = a := only b (by rw [q]; exact fun z => nomatch z)
    rw [eb, ha] at e
    cases e
    cases (show Data.seq vs.toArray _ = Data.dict es ep from d)
theorem lawG (inK : K.In t1.heap) (hns : t1.heap.Ns mainGlobals mg) (hb : t1.heap.Ns builtinsNs mb) (hbb : ∀ x : Str, x ≠ "__name__" → mb x = bootBuiltins x) (hlim : t1.heap.NoLimit) (hg : t1.gens = #[])
    (ha : t1.heap.get? a = some { cls := .type "list", data := .seq vs.toArray }) (hi : IntsAre vs ns) (hl : ns.length ≤ sizeLine) (hr : Room k callerA)
    (F : ∀ base : Heap, K.In base → base.Ns mainGlobals mg → FnG P w K mg base CX0 k fa fd [x] sp) (bind : ∀ (s : Shared) (u : Value), BindsTo s fd ⟨[u], []⟩ [(x, u)])
    (want : ∀ H : Hp, Only H → SqL K H a (ns.map V.int) → sp [.ref a] H (fun v _ => v = .bl true) fun _ _ _ => False) :
    codeAny (model P w) callerA (.call (.ref fa) ⟨[.ref a], []⟩) (fun r s' => r = .ok (.ret (.bool true)) ∧ OldK t1.heap s'.heap ∧ s'.os = t1.os ∧ AllBare s'.gens) t1 := by
  have rv := vals_ints hi
  have main : ∀ H : Hp, Only H → SqL K H a (ns.map V.int) → HOk P w H t1.heap → (∀ b, H b ≠ none → b = a) → (H a ≠ none → K.lookup a = none) →
      codeAny (model P w) callerA (.call (.ref fa) ⟨[.ref a], []⟩) (fun r s' => r = .ok (.ret (.bool true)) ∧ OldK t1.heap s'.heap ∧ s'.os = t1.os ∧ AllBare s'.gens) t1 := by
    intro H hO hS hok only noK
    have inB : K.In (hidT t1.heap H) := fun b o e => hidT_get (inK b o e) (by
      cases q : H b with
      | none => rfl
      | some u =>
        have eb : b = a := only b (by rw [q]; exact fun z => nomatch z)
        subst eb
        rw [noK (by rw [q]; exact fun z => nomatch z)] at e
        cases e)
    have gB := hid_ns ha only hns
    have md : Mod K mg (hidT t1.heap H) := ⟨inB, gB, ⟨mb, hid_ns ha only hb, hbb⟩, by
      obtain ⟨mc, h1, h2⟩ := hlim
      exact ⟨mc, hid_ns ha only h1, h2⟩⟩
    have ee : Env0 P w K mg (hidT t1.heap H) callerA [] t1 H := ⟨rfl, md, fun b o e => of_hidT e, Nat.le_of_eq (hidT_size _ _), trivial, fun b z => absurd (show b ∈ ([] : List Addr) from z) List.not_mem_nil, hok, .of_eq hg⟩
    refine codeAny_mono ((F _ inB gB).go callerA [] t1 H ⟨[.ref a], []⟩ [.ref a] [.ref a] _ _ rfl hr ee (bind t1 (.ref a)) (.cons rfl .nil) (want H hO hS)) fun res s' h => ?_
    rcases res with e | fl
    · exact False.elim h
    · rcases fl with _ | _ | _ | u
      · exact False.elim h
      · exact False.elim h
      · exact False.elim h
      · obtain ⟨v, H', ho, hbr, un, hok', rv', ev⟩ := h
        subst ev
        cases rv'
        refine ⟨rfl, OldK.of_keep fun b o e => ?_, ho, hbr⟩
        cases z : H b with
        | none => exact un.keep b o e z (fun m => absurd (show b ∈ ([] : List Addr) from m) List.not_mem_nil) List.not_mem_nil
        | some y =>
          obtain y0 | ⟨ob, xs, y1⟩ := hO b
          · rw [y0] at z
            cases z
          · have kept := (hok' b _ (un.frzs b ob _ y1)).1
            have was := (hok b _ y1).1
            rw [e] at was
            cases was
            exact kept
  have cnt : vs.toArray.size ≤ sizeLine := by
    rw [List.size_toArray, hi.length]
    exact hl
  rcases hk : K.lookup a with _ | o
  · let H : Hp := fun b => if b = a then some (.frz { cls := .type "list", data := .seq vs.toArray } (.lst (ns.map V.int))) else none
    have hH : H a = some (.frz { cls := .type "list", data := .seq vs.toArray } (.lst (ns.map V.int))) := if_pos rfl
    have off : ∀ b, b ≠ a → H b = none := fun b hb => if_neg hb
    refine main H (fun b => ?_) (.inl (.inr ⟨_, hH⟩)) (fun b u z => ?_) (fun b z => ?_) fun _ => hk
    · by_cases e : b = a
      · exact .inr ⟨_, _, e ▸ hH⟩
      · exact .inl (off b e)
    · by_cases e : b = a
      · subst e
        rw [hH] at z
        cases z
        exact ⟨ha, by rw [List.length_map]; exact hl, vs, _, rv, ha⟩
      · rw [off b e] at z
        cases z
    · by_cases e : b = a
      · exact e
      · exact absurd (off b e) z
  · have same := inK a o hk
    rw [ha] at same
    cases same
    exact main (fun _ => none) (fun _ => .inl rfl) (.inr ⟨_, vs.toArray, _, hk, rfl, rfl, rfl, cnt, rv⟩) (fun b u z => nomatch z) (fun b z => absurd rfl z) fun z => absurd rfl z
end
theorem walkG {l : PySem.W.OpenLaw} {n k : Nat} {q : Program} {loose : List Str} {XP : (Str → Option Value) → Heap → Prop} {YP : World → Heap → Prop} {d : DefRec} {K : Params → PySem.W.Frag} {sp : World → Sp} {x : Str} (hn : l.most = some n) (hn2 : n ≤ sizeLine)
    (hdf : d.params.defaults = []) (hr : Room k callerA) (hY : ∀ (w : World) (h : Heap), YP w h → (K w.params).In h)
    (F : ∀ (w : World) (mg : Str → Option Value) (fa : Addr) (h : Heap), (K w.params).In h → h.Ns mainGlobals mg → mg d.name = some (.ref fa) → ∃ fd : FuncData, (∀ (s : Shared) (u : Value), BindsTo s fd ⟨[u], []⟩ [(x, u)]) ∧
      ∀ base : Heap, (K w.params).In base → base.Ns mainGlobals mg → FnG l.prog w (K w.params) mg base CX0 k fa fd [x] (sp w))
    (want : ∀ (w : World) (H : Hp) (a : Addr) (ns : List Int), ns.length ≤ n → Only H → SqL (K w.params) H a (ns.map V.int) → sp w [.ref a] H (fun v _ => v = .bl true) fun _ _ _ => False) :
    PySem.W.WalkO q loose XP YP l.row.toRowW d [] (fun f vs => PySem.call f vs) := by
  refine Att.attach_call hn hdf fun w s0 s1 mg mb fa o pm cd doc a vs ns gr y ho hd hcd hmg hobj hints hlen hg => ?_
  obtain ⟨fd, bind, hF⟩ := F w mg fa _ (hY w _ y) gr.T.g hmg
  exact lawG (hY w _ y) gr.T.g gr.T.b gr.T.builtins gr.T.nolimit hg hobj hints (Nat.le_trans hlen hn2) hr hF bind fun H hO hS => want w H a ns hlen hO hS
/-- from the law's promise on data: called with a script it gives True -/
theorem want_of {G : Gs} {F : DSp} (h : ∀ ns : List Int, ns.length ≤ 63 → F [.sc ns] (fun _ => none) (fun d _ => d = .py (.bool true)) fun _ _ _ => False) {H : Hp} {a : Addr} {ns : List Int} (hl : ns.length ≤ 63) (hS : SqL G.K H a (ns.map V.int)) :
    spD G F [.ref a] H (fun v _ => v = .bl true) fun _ _ _ => False := by
  refine ⟨H, [.sc ns], fun _ => none, _, _, .cons ⟨a, rfl, hS⟩ .nil, ⟨Ex.refl H, Ex.refl H, fun l ds z => nomatch z⟩, h ns hl, ?_, fun _ _ _ _ _ _ z => False.elim z⟩
  rintro v d B' H' O' rfl e s r
  exact Dd.bl_inv r
end DL

namespace DL
open PySem PySem.Spec PyProof.Rows L2 Evl
/-! ## where classes and constants stand -/
structure Ad where
  (c_ChainError c_InvalidNumber c_InvalidPoint c_Bent c_NotPair c_NotOne c_InvalidPrime c_TooFar c_NothingToUndo c_Unreadable c_Relation c_Walk c_ShortWalk c_ENDLESS : Addr)
theorem r65 {k : Nat} {A : Around} (r : Room k A) : A.units + 65 < cLine := by
  have := r.un
  omega
theorem passLE {X : Cx} {σ : L2.St} : PassesAt (L2.CX X.prog X.w) X σ E0 := fun pins H s e s' I h => passL pins σ H s e s' I h
theorem py_nil {P : List PyData → Prop} (h : P []) : ∃ ds, ([] : List D) = ds.map D.py ∧ P ds := ⟨[], rfl, h⟩
theorem py_cons {x : PyData} {xs : List D} {P : List PyData → Prop} (h : ∃ ds, xs = ds.map D.py ∧ P (x :: ds)) : ∃ ds, (D.py x :: xs) = ds.map D.py ∧ P ds := by
  obtain ⟨ds, e, h⟩ := h
  exact ⟨x :: ds, by rw [e]; rfl, h⟩
/-! ## arithmetic -/
theorem fmod_bd {x s : Int} (h : 0 < s) : 0 ≤ x.fmod s ∧ x.fmod s < s := by
  rw [Int.fmod_eq_emod_of_nonneg _ (by omega)]
  exact ⟨Int.emod_nonneg _ (by omega), Int.emod_lt_of_pos _ h⟩
theorem fdiv_nn {x s : Int} (hx : 0 ≤ x) (h : 0 < s) : 0 ≤ x.fdiv s := by
  rw [Int.fdiv_eq_ediv_of_nonneg _ (by omega)]
  exact Int.ediv_nonneg hx (by omega)
theorem log2_lt_of {n k : Nat} (h : n < 2 ^ (k + 1)) : n.log2 ≤ k := by
  by_cases h0 : n = 0
  · subst h0
    rw [Nat.log2_zero]
    exact Nat.zero_le _
  · have := (Nat.log2_lt h0).mpr h
    omega
/-- a number so great that nothing here reaches it -/
def Big : Nat := 2 ^ 8000
theorem big_log {n : Nat} (h : n < Big) : n.log2 ≤ 7999 := log2_lt_of (k := 7999) h
theorem divU {i j : Int} (h0 : j ≠ 0) (h : j.natAbs < Big) : CDivU i j := ⟨h0, by
  have := big_log h
  omega⟩
theorem mulW {i j : Int} (h1 : i.natAbs < Big) (h2 : j.natAbs < Big) : CMulW i j := by
  have a := big_log h1
  have b := big_log h2
  unfold CMulW
  omega
theorem bits_le {i : Int} (h : i.natAbs < Big) : Builtin.Int.intBits i ≤ 8000 := by
  unfold Builtin.Int.intBits
  split
  · exact Nat.zero_le _
  · have := big_log h
    omega
theorem powU {i j : Int} (h : i.natAbs < Big) (h0 : 0 ≤ j) (h1 : j ≤ 1000) : CPowU i j := ⟨h0, by
  have a := bits_le h
  have b : (Builtin.Int.intBits i : Int) * j ≤ 8000 * 1000 := Int.mul_le_mul (by omega) h1 h0 (by decide)
  exact Int.le_trans b (by decide)⟩
theorem big_of {n : Nat} (h : n < 10 ^ 2000) : n < Big := Nat.lt_of_lt_of_le h (by
  unfold Big
  decide +kernel)
theorem ok_int {i : Int} (h : i.natAbs < 10 ^ 570) : okR (.int i) := Nat.lt_of_lt_of_le h (by decide +kernel)
theorem if_dec {p A B : Prop} [Decidable p] (h1 : p → A) (h2 : ¬ p → B) : if decide p = true then A else B := by
  by_cases h : p
  · rw [decide_eq_true h, if_pos rfl]
    exact h1 h
  · rw [decide_eq_false h, if_neg Bool.false_ne_true]
    exact h2 h
theorem if_ndec {p A B : Prop} [Decidable p] (h1 : ¬ p → A) (h2 : p → B) : if (!decide p) = true then A else B := by
  by_cases h : p
  · rw [decide_eq_true h, Bool.not_true, if_neg Bool.false_ne_true]
    exact h2 h
  · rw [decide_eq_false h, Bool.not_false, if_pos rfl]
    exact h1 h
theorem if_b {b : Bool} {A B : Prop} (h1 : b = true → A) (h2 : b = false → B) : if b = true then A else B := by
  cases b
  · exact h2 rfl
  · exact h1 rfl
theorem lr_modr {G : Gs} {B0 : Hp} {O : Ow} {κ : D → Ow → Prop} {i j : Int} (h : 0 < j) (k : ∀ r, 0 ≤ r → r < j → κ (.py (.int r)) O) : LR G B0 rModU (.py (.int i)) (.py (.int j)) O κ :=
  lr_mod (by omega) (k _ (fmod_bd h).1 (fmod_bd h).2)
theorem asOwn {O : Ow} {p : Addr} {ds : List PyData} (h : O p = some ds) : asPy O (.own p) = some (.list ds) := by
  show (O p).map PyData.list = _
  rw [h]
  rfl
theorem lr_powL {G : Gs} {B0 : Hp} {O : Ow} {κ : D → Ow → Prop} {i : Int} {m : Nat} (c : CPowU i (@OfNat.ofNat Int m instOfNat)) (k : κ (.py (.int (i ^ (@OfNat.ofNat Nat m (instOfNatNat m))))) O) : LR G B0 rPowU (.py (.int i)) (.py (.int (@OfNat.ofNat Int m instOfNat))) O κ := lr_pow c k
end DL

namespace DL
open PySem PySem.Spec PyProof.Rows L2 Evl
/-! ## the law's pool of draws -/
def PoolL (q : List PyData) (n : Int) : Prop := ∃ x y c : Int, q = [.int x, .int y, .int c] ∧ 0 ≤ x ∧ 0 ≤ y ∧ y < 10 ^ 30 ∧ 0 ≤ c ∧ c ≤ n
theorem PoolL.mono {q : List PyData} {n m : Int} (h : PoolL q n) (e : n ≤ m) : PoolL q m := by
  obtain ⟨x, y, c, e1, h1, h2, h3, h4, h5⟩ := h
  exact ⟨x, y, c, e1, h1, h2, h3, h4, by omega⟩
/-! ## places of lists -/
theorem lenk {l : List PyData} (h : Nat.ble l.length 100000 = true) : l.length ≤ 100000 := Nat.le_of_ble_eq_true h
theorem ixN_nn {n : Nat} {i : Int} (h0 : 0 ≤ i) (h1 : i < n) : ixN n i = some i.toNat := by
  unfold ixN
  rw [if_pos h0, if_pos h1]
theorem atI_nn {α : Type} {xs : List α} {i : Int} (h0 : 0 ≤ i) (h1 : i < xs.length) : atI xs i = xs[i.toNat]? := by
  unfold atI
  rw [ixN_nn h0 h1]
  rfl
theorem atI_ints {ns : List Int} {i : Int} (h0 : 0 ≤ i) (h1 : i < ns.length) : ∃ n, atI (ns.map PyData.int) i = some (.int n) := by
  rw [atI_nn h0 (by rw [List.length_map]; exact h1), List.getElem?_map, List.getElem?_eq_getElem (by omega)]
  exact ⟨_, rfl⟩
theorem atI_mem {xs : List PyData} {i : Int} (h0 : 0 ≤ i) (h1 : i < xs.length) : ∃ d, atI xs i = some d ∧ d ∈ xs := by
  rw [atI_nn h0 h1, List.getElem?_eq_getElem (by omega)]
  exact ⟨_, rfl, List.getElem_mem _⟩
/-! ## quotients in lowest terms -/
def lowG (x y : Int) : Int := if 0 < y then (Int.gcd x y : Int) else -(Int.gcd x y : Int)
def lowA (x y : Int) : Int := if y = 0 then 1 else x.fdiv (lowG x y)
def lowB (x y : Int) : Int := if y = 0 then 0 else y.fdiv (lowG x y)
def lowD (x y : Int) : PyData := .tuple [.int (lowA x y), .int (lowB x y)]
theorem gcd_pos_r {x y : Int} (h : y ≠ 0) : 0 < Int.gcd x y := Int.gcd_pos_of_ne_zero_right x h
theorem lowG_ne {x y : Int} (h : y ≠ 0) : lowG x y ≠ 0 := by
  have := gcd_pos_r (x := x) h
  unfold lowG
  split <;> omega
theorem lowG_abs (x y : Int) : (lowG x y).natAbs = Int.gcd x y := by
  unfold lowG
  split <;> omega
theorem lowG_dvd_l (x y : Int) : lowG x y ∣ x := by
  unfold lowG
  split
  · exact Int.gcd_dvd_left ..
  · exact (Int.neg_dvd).mpr (Int.gcd_dvd_left ..)
theorem lowG_dvd_r (x y : Int) : lowG x y ∣ y := by
  unfold lowG
  split
  · exact Int.gcd_dvd_right ..
  · exact (Int.neg_dvd).mpr (Int.gcd_dvd_right ..)
theorem lowA_mul {x y : Int} (h : y ≠ 0) : lowA x y * lowG x y = x := by
  unfold lowA
  rw [if_neg h, Int.fdiv_eq_ediv_of_dvd (lowG_dvd_l x y)]
  exact Int.ediv_mul_cancel (lowG_dvd_l x y)
theorem lowB_mul {x y : Int} (h : y ≠ 0) : lowB x y * lowG x y = y := by
  unfold lowB
  rw [if_neg h, Int.fdiv_eq_ediv_of_dvd (lowG_dvd_r x y)]
  exact Int.ediv_mul_cancel (lowG_dvd_r x y)
theorem lowB_pos {x y : Int} (h : y ≠ 0) : 0 < lowB x y := by
  have e := lowB_mul (x := x) h
  have g := gcd_pos_r (x := x) h
  unfold lowG at e
  by_cases hy : 0 < y
  · rw [if_pos hy] at e
    by_cases hb : 0 < lowB x y
    · exact hb
    · have : lowB x y * (Int.gcd x y : Int) ≤ 0 := Int.mul_nonpos_of_nonpos_of_nonneg (by omega) (by omega)
      omega
  · rw [if_neg hy] at e
    by_cases hb : 0 < lowB x y
    · exact hb
    · have : 0 ≤ lowB x y * -(Int.gcd x y : Int) := Int.mul_nonneg_of_nonpos_of_nonpos (by omega) (by omega)
      omega
theorem low_cross {x y : Int} (h : y ≠ 0) : lowA x y * y = lowB x y * x := by
  have a := lowA_mul (x := x) h
  have b := lowB_mul (x := x) h
  have : lowA x y * (lowB x y * lowG x y) = lowB x y * (lowA x y * lowG x y) := by grind
  rw [b, a] at this
  exact this
theorem low_gcd {x y : Int} (h : y ≠ 0) : Int.gcd (lowA x y) (lowB x y) = 1 := by
  have a := lowA_mul (x := x) h
  have b := lowB_mul (x := x) h
  have e : Int.gcd x y = Int.gcd (lowA x y) (lowB x y) * (lowG x y).natAbs := by
    have e2 : Int.gcd (lowA x y * lowG x y) (lowB x y * lowG x y) = Int.gcd (lowA x y) (lowB x y) * (lowG x y).natAbs := Int.gcd_mul_right ..
    rw [a, b] at e2
    exact e2
  rw [lowG_abs] at e
  have g := gcd_pos_r (x := x) h
  exact (Nat.mul_eq_right (Nat.ne_of_gt g)).mp e.symm
theorem low_abs {x y : Int} (h : y ≠ 0) : (lowA x y).natAbs ≤ x.natAbs ∧ (lowB x y).natAbs ≤ y.natAbs := by
  have g : 0 < (lowG x y).natAbs := by rw [lowG_abs]; exact gcd_pos_r h
  refine ⟨?_, ?_⟩
  · have e := congrArg Int.natAbs (lowA_mul (x := x) h)
    rw [Int.natAbs_mul] at e
    rw [← e]
    exact Nat.le_mul_of_pos_right _ g
  · have e := congrArg Int.natAbs (lowB_mul (x := x) h)
    rw [Int.natAbs_mul] at e
    rw [← e]
    exact Nat.le_mul_of_pos_right _ g
theorem low_bound {x y : Int} {m : Nat} (hx : x.natAbs ≤ m) (hy : y.natAbs ≤ m) (h1 : 1 ≤ m) : (lowA x y).natAbs ≤ m ∧ (lowB x y).natAbs ≤ m := by
  by_cases h : y = 0
  · unfold lowA lowB
    rw [if_pos h, if_pos h]
    exact ⟨h1, Nat.zero_le _⟩
  · have := low_abs (x := x) h
    omega
/-- what is a point -/
def isPt : PyData → Bool
  | .tuple [.int x, .int y] => if y = 0 then decide (x = 1) else decide (0 < y) && decide ((Int.gcd x y : Int) = 1)
  | _ => false
theorem isPt_pair (x y : Int) : isPt (.tuple [.int x, .int y]) = if y = 0 then decide (x = 1) else decide (0 < y) && decide ((Int.gcd x y : Int) = 1) := rfl
theorem isPt_low (x y : Int) : isPt (lowD x y) = true := by
  unfold lowD
  rw [isPt_pair]
  by_cases h : y = 0
  · unfold lowA lowB
    rw [if_pos h, if_pos h]
    rfl
  · have p := lowB_pos (x := x) h
    have g := low_gcd (x := x) h
    rw [if_neg (by omega), decide_eq_true p, g]
    rfl
end DL
namespace DL
open PySem PySem.Spec PyProof.Rows L2 Evl
/-! ## kinds of data -/
def pyInt : PyData → Bool
  | .int _ => true
  | _ => false
def pyIntB : PyData → Bool
  | .int _ => true
  | .bool _ => true
  | _ => false
def pyBol : PyData → Bool
  | .bool _ => true
  | _ => false
def pyTup : PyData → Bool
  | .tuple _ => true
  | _ => false
theorem kit_int (d : PyData) : kitB (tyN d) "int" = some (pyIntB d) :=
  match d with
  | .none => (by decide +kernel : kitB "NoneType" "int" = some false)
  | .bool _ => (by decide +kernel : kitB "bool" "int" = some true)
  | .int _ => (by decide +kernel : kitB "int" "int" = some true)
  | .str _ => (by decide +kernel : kitB "str" "int" = some false)
  | .list _ => (by decide +kernel : kitB "list" "int" = some false)
  | .tuple _ => (by decide +kernel : kitB "tuple" "int" = some false)
  | .dict _ => (by decide +kernel : kitB "dict" "int" = some false)
theorem kit_bool (d : PyData) : kitB (tyN d) "bool" = some (pyBol d) :=
  match d with
  | .none => (by decide +kernel : kitB "NoneType" "bool" = some false)
  | .bool _ => (by decide +kernel : kitB "bool" "bool" = some true)
  | .int _ => (by decide +kernel : kitB "int" "bool" = some false)
  | .str _ => (by decide +kernel : kitB "str" "bool" = some false)
  | .list _ => (by decide +kernel : kitB "list" "bool" = some false)
  | .tuple _ => (by decide +kernel : kitB "tuple" "bool" = some false)
  | .dict _ => (by decide +kernel : kitB "dict" "bool" = some false)
theorem kit_tuple (d : PyData) : kitB (tyN d) "tuple" = some (pyTup d) :=
  match d with
  | .none => (by decide +kernel : kitB "NoneType" "tuple" = some false)
  | .bool _ => (by decide +kernel : kitB "bool" "tuple" = some false)
  | .int _ => (by decide +kernel : kitB "int" "tuple" = some false)
  | .str _ => (by decide +kernel : kitB "str" "tuple" = some false)
  | .list _ => (by decide +kernel : kitB "list" "tuple" = some false)
  | .tuple _ => (by decide +kernel : kitB "tuple" "tuple" = some true)
  | .dict _ => (by decide +kernel : kitB "dict" "tuple" = some false)
theorem ifT {A B : Prop} (h : A) : if true = true then A else B := by
  rw [if_pos rfl]
  exact h
theorem ifF {A B : Prop} (h : B) : if false = true then A else B := by
  rw [if_neg Bool.false_ne_true]
  exact h
theorem ifNT {A B : Prop} (h : A) : if (!false) = true then A else B := ifT h
theorem ifNF {A B : Prop} (h : B) : if (!true) = true then A else B := ifF h
theorem if_y {p A B : Prop} [Decidable p] (h : p) (k : A) : if decide p = true then A else B := by
  rw [decide_eq_true h, if_pos rfl]
  exact k
theorem if_n {p A B : Prop} [Decidable p] (h : ¬ p) (k : B) : if decide p = true then A else B := by
  rw [decide_eq_false h, if_neg Bool.false_ne_true]
  exact k
theorem if_ny {p A B : Prop} [Decidable p] (h : ¬ p) (k : A) : if (!decide p) = true then A else B := by
  rw [decide_eq_false h, Bool.not_false, if_pos rfl]
  exact k
theorem if_nn {p A B : Prop} [Decidable p] (h : p) (k : B) : if (!decide p) = true then A else B := by
  rw [decide_eq_true h, Bool.not_true, if_neg Bool.false_ne_true]
  exact k
end DL
namespace DL
open PySem PySem.Spec PyProof.Rows L2 Evl
theorem two_of {α : Type} {ds : List α} (h : (ds.length : Int) = 2) : ∃ x y, ds = [x, y] :=
  match ds, h with
  | [x, y], _ => ⟨x, y, rfl⟩
  | [], h => by
    simp only [List.length_nil] at h
    omega
  | [_], h => by
    simp only [List.length_cons, List.length_nil] at h
    omega
  | _ :: _ :: _ :: _, h => by
    simp only [List.length_cons] at h
    omega
theorem three_of {α : Type} {ds : List α} (h : (ds.length : Int) = 3) : ∃ x y z, ds = [x, y, z] :=
  match ds, h with
  | [x, y, z], _ => ⟨x, y, z, rfl⟩
  | [], h => by
    simp only [List.length_nil] at h
    omega
  | [_], h => by
    simp only [List.length_cons, List.length_nil] at h
    omega
  | [_, _], h => by
    simp only [List.length_cons, List.length_nil] at h
    omega
  | _ :: _ :: _ :: _ :: _, h => by
    simp only [List.length_cons] at h
    omega
theorem four_of {α : Type} {ds : List α} (h : ds.length = 4) : ∃ x y z w, ds = [x, y, z, w] :=
  match ds, h with
  | [x, y, z, w], _ => ⟨x, y, z, w, rfl⟩
theorem five_of {α : Type} {ds : List α} (h : ds.length = 5) : ∃ x y z w u, ds = [x, y, z, w, u] :=
  match ds, h with
  | [x, y, z, w, u], _ => ⟨x, y, z, w, u, rfl⟩
theorem six_of {α : Type} {ds : List α} (h : ds.length = 6) : ∃ x y z w u v, ds = [x, y, z, w, u, v] :=
  match ds, h with
  | [x, y, z, w, u, v], _ => ⟨x, y, z, w, u, v, rfl⟩
theorem int_of {d : PyData} (h : pyInt d = true) : ∃ i, d = .int i := by
  cases d <;> first | exact ⟨_, rfl⟩ | cases h
theorem isPt_not {ds : List PyData} (h : ¬ (ds.length : Int) = 2) : isPt (.tuple ds) = false := by
  unfold isPt
  split
  · rename_i e
    cases e
    exact absurd rfl h
  · rfl
theorem isPt_x {x y : PyData} (h : pyInt x = false) : isPt (.tuple [x, y]) = false := by
  unfold isPt
  split
  · rename_i e
    cases e
    cases h
  · rfl
theorem isPt_y {x y : PyData} (h : pyInt y = false) : isPt (.tuple [x, y]) = false := by
  unfold isPt
  split
  · rename_i e
    cases e
    cases h
  · rfl
end DL
namespace DL
open PySem PySem.Spec PyProof.Rows L2 Evl
theorem kitF {K : PySem.W.Frag} {t c : Value} {cs : List Value} (h : PySem.W.kitOne K t c = some false) (r : PySem.W.kitAny K t cs = some false) : PySem.W.kitAny K t (c :: cs) = some false :=
  kitAny_cons h (fun _ => r) (fun z => Bool.noConfusion z)
theorem kitT {K : PySem.W.Frag} {t c : Value} {cs : List Value} (h : PySem.W.kitOne K t c = some true) : PySem.W.kitAny K t (c :: cs) = some true :=
  kitAny_cons h (fun z => Bool.noConfusion z) (fun _ => rfl)
/-- classes written in a row -/
def refs (l : List Addr) : List V := l.map V.ref
def refsU (l : List Addr) : List Value := l.map Value.ref
theorem refs_cls : ∀ l : List Addr, Paired ClsV (refs l) (refsU l)
  | [] => .nil
  | c :: l => .cons (.own c) (refs_cls l)
end DL

namespace DL
open PySem PySem.Spec PyProof.Rows L2 Evl
theorem oset_comm {O : Ow} {p r : Addr} {x y : List PyData} (h : p ≠ r) : oset (oset O p x) r y = oset (oset O r y) p x := by
  funext b
  unfold oset
  by_cases h1 : b = r
  · rw [if_pos h1, if_neg (by rw [h1]; exact h.symm), if_pos h1]
  · rw [if_neg h1, if_neg h1]
theorem oset_mid {O : Ow} {p r : Addr} {x y l : List PyData} (h : p ≠ r) : oset (oset (oset O p x) r l) p y = oset (oset O p y) r l := by
  rw [oset_comm h, oset_oset, oset_comm h.symm, oset_comm h]
theorem own_ne {O : Ow} {p r : Addr} {x : List PyData} (h : O p = some x) (h' : O r = none) : p ≠ r := fun e => by
  rw [e, h'] at h
  cases h
theorem rngD_get {lo : Int} {n i : Nat} {d : D} (h : (rngD lo n)[i]? = some d) : d = .py (.int (lo + (i : Int))) ∧ i < n := by
  unfold rngD at h
  rw [List.getElem?_map] at h
  by_cases hn : i < n
  · rw [List.getElem?_range hn] at h
    cases h
    exact ⟨rfl, hn⟩
  · rw [List.getElem?_eq_none (by rw [List.length_range]; omega)] at h
    cases h
theorem rngD_len (lo : Int) (n : Nat) : (rngD lo n).length = n := by
  unfold rngD
  rw [List.length_map, List.length_range]
/-- what an expression that draws c times gives -/
def Drs (G : Gs) (B0 : Hp) (te : TE) (ρ : Ro) (p : Addr) (c : Int) (P : PyData → Prop) : Prop :=
  ∀ (O : Ow) q n, O p = some q → PoolL q n → n ≤ 900000 → LE G B0 te ρ O fun d O2 => ∃ e q2, d = .py e ∧ P e ∧ PoolL q2 (n + c) ∧ O2 = oset O p q2
section
variable {G : Gs} {B0 : Hp} {ρ : Ro} {O : Ow} {κ : D → Ow → Prop}
theorem Drs.le {te : TE} {p : Addr} {c : Int} {P : PyData → Prop} {q : List PyData} {n : Int} (h : Drs G B0 te ρ p c P) (hp : O p = some q) (hq : PoolL q n) (hn : n ≤ 900000) (k : ∀ e q2, P e → PoolL q2 (n + c) → κ (.py e) (oset O p q2)) : LE G B0 te ρ O κ :=
  (h O q n hp hq hn).imp fun d O2 ⟨e, q2, ed, he, hq2, eO⟩ => by
    rw [ed, eO]
    exact k e q2 he hq2
/-- [te for j in range(..)], te drawing -/
theorem le_draws {ta : TA} {te : TE} {j : Nat} {p : Addr} {c : Int} {P : PyData → Prop} (hc : 0 ≤ c) (hc2 : c ≤ 100)
    (h : LA G B0 ta ρ O fun xs O1 => ∃ (k : Int) (q : List PyData) (n : Int), xs = [.py (.int k)] ∧ 0 ≤ k ∧ k ≤ 1000 ∧ O1 p = some q ∧ PoolL q n ∧ n ≤ 500000 ∧ (∀ x : Int, 0 ≤ x → x < k → Drs G B0 te ((wipeR ρ [j]).set j (some (.py (.int x)))) p c P) ∧
      ∀ ds q', (ds.length : Int) = k → (∀ e ∈ ds, P e) → PoolL q' (n + k * c) → κ (.py (.list ds)) (oset O1 p q')) :
    LE G B0 (tLc (iRng1 ta) (gName j) tYes te [j]) ρ O κ := by
  refine le_freeze (le_lc (gin_name List.mem_cons_self) (li_rng1 ?_))
  refine h.imp ?_
  rintro xs O1 ⟨k, q, n, rfl, k0, k1, hp, hq, hn, hte, fin⟩
  refine ⟨k, rfl, by omega, by omega, fun r hr => ?_⟩
  have ne := own_ne hp hr
  refine ⟨fun i O' => ∃ ds q', ds.length = i ∧ (∀ e ∈ ds, P e) ∧ PoolL q' (n + (i : Int) * c) ∧ O' = oset (oset O1 p q') r ds, ⟨[], q, rfl, fun e z => absurd z List.not_mem_nil, by rw [Int.natCast_zero, Int.zero_mul, Int.add_zero]; exact hq, ?_⟩, ?_, ?_⟩
  · funext b
    unfold oset
    by_cases h1 : b = r
    · rw [if_pos h1, if_pos h1]
    · rw [if_neg h1, if_neg h1]
      by_cases h2 : b = p
      · rw [if_pos h2, h2, hp]
      · rw [if_neg h2]
  · rintro i d O' hd ⟨ds, q', hl, hP, hq', rfl⟩
    obtain ⟨rfl, hi⟩ := rngD_get hd
    refine lg_name (lt_yes (ifT ?_))
    have hop : oset (oset O1 p q') r ds p = some q' := by rw [oset_ne ne, oset_same]
    have hi2 : (i : Int) * c ≤ 1000 * 100 := Int.mul_le_mul (by omega) hc2 hc (by decide)
    have hi0 : 0 ≤ (i : Int) * c := Int.mul_nonneg (by omega) hc
    rw [Int.zero_add]
    refine (hte (i : Int) (by omega) (by omega)).le hop hq' (by omega) fun e q2 he hq2 => ⟨ds, e, rfl, by rw [oset_ne ne.symm, oset_same], by omega, ds ++ [e], q2, by rw [List.length_append, hl]; rfl, ?_, ?_, ?_⟩
    · intro x hx
      rcases List.mem_append.mp hx with hx | hx
      · exact hP x hx
      · rw [List.mem_singleton.mp hx]
        exact he
    · have e3 : n + ((i + 1 : Nat) : Int) * c = n + (i : Int) * c + c := by
        rw [Int.natCast_add, Int.add_mul]
        show n + ((i : Int) * c + 1 * c) = _
        omega
      rw [e3]
      exact hq2
    · rw [oset_comm ne, oset_oset, oset_comm ne.symm, oset_oset]
  · rintro O' ⟨ds, q', hl, hP, hq', rfl⟩
    rw [rngD_len] at hl hq'
    have ek : ((k.toNat : Nat) : Int) = k := Int.toNat_of_nonneg k0
    refine ⟨r, ds, rfl, oset_same, ?_⟩
    rw [odel_oset (by rw [oset_ne ne.symm]; exact hr)]
    refine fin ds q' (by omega) hP ?_
    rw [ek] at hq'
    exact hq'
/-- [te for g in wi if tt], nothing drawn -/
theorem le_map {wi : TI} {g : TG} {tt : TT} {te : TE} {vs : List Nat} (f : D → PyData) (sel : D → Bool) (hg : GIn g vs)
    (h : LI G B0 wi ρ O fun ds O1 => ds.length < 100000 ∧ (∀ d ∈ ds, ∀ r acc, O1 r = none → LG G B0 g d (wipeR ρ vs) (oset O1 r acc) fun ρ2 O2 => O2 = oset O1 r acc ∧ LT G B0 tt ρ2 O2 fun b O3 => O3 = oset O1 r acc ∧ b = sel d ∧
      (b = true → LE G B0 te ρ2 O3 fun y O4 => O4 = oset O1 r acc ∧ y = .py (f d))) ∧ κ (.py (.list ((ds.filter sel).map f))) O1) : LE G B0 (tLc wi g tt te vs) ρ O κ := by
  refine le_freeze (le_lc hg ?_)
  intro B H σ s t Q q
  refine h B H σ s t Q ?_
  rintro J ds B1 H1 O1 ⟨hl, hs, fin⟩ e1 s1 y
  refine q J ds B1 H1 O1 (fun r hr => ?_) e1 s1 y
  refine ⟨fun i O' => O' = oset O1 r (((ds.take i).filter sel).map f), by simp, ?_, ?_⟩
  · rintro i d O' hd rfl
    have hm : d ∈ ds := List.mem_of_getElem? hd
    have et : ds.take (i + 1) = ds.take i ++ [d] := by
      rw [List.take_add_one, hd]
      rfl
    have lt : (((ds.take i).filter sel).map f).length < 100000 := by
      rw [List.length_map]
      have a1 := List.length_filter_le sel (ds.take i)
      have a2 : (ds.take i).length ≤ ds.length := by
        rw [List.length_take]
        exact Nat.min_le_right _ _
      omega
    intro B2 H2 σ2 v s2 t2 r2 Q2 q2
    refine hs d hm r _ hr B2 H2 σ2 v s2 t2 r2 Q2 ?_
    rintro B3 H3 σ3 ρ3 O3 ⟨rfl, hLT⟩ e3 s3 t3
    refine q2 B3 H3 σ3 ρ3 _ (hLT.imp ?_) e3 s3 t3
    rintro b O4 ⟨rfl, rfl, hte⟩
    cases hb : sel d with
    | true =>
      rw [if_pos rfl]
      refine (hte hb).imp ?_
      rintro d' O5 ⟨rfl, rfl⟩
      refine ⟨_, f d, rfl, oset_same, lt, ?_⟩
      show _ = oset O1 r (((ds.take (i + 1)).filter sel).map f)
      rw [oset_oset, et, List.filter_append, List.map_append, List.filter_cons, if_pos hb]
      rfl
    | false =>
      rw [if_neg Bool.false_ne_true]
      show _ = oset O1 r (((ds.take (i + 1)).filter sel).map f)
      rw [et, List.filter_append, List.filter_cons, if_neg (by rw [hb]; exact Bool.false_ne_true)]
      show _ = oset O1 r (((ds.take i).filter sel ++ []).map f)
      rw [List.append_nil]
  · rintro O' rfl
    refine ⟨r, _, rfl, oset_same, ?_⟩
    rw [odel_oset hr, List.take_length]
    exact fin
end
end DL
namespace DL
open PySem PySem.Spec PyProof.Rows L2 Evl
/-! ## the law's promise, said without data -/
def spLaw (K : PySem.W.Frag) : Sp := fun vs H Q _ => ∃ (a : Addr) (ns : List Int), vs = [.ref a] ∧ SqL K H a (ns.map V.int) ∧ ns.length ≤ 63 ∧ ∀ H', Q (.bl true) H'
theorem FnG.law {P : Program} {w : World} {G : Gs} {mg : Str → Option Value} {base : Heap} {CX : CXT} {k : Nat} {f : Addr} {fd : FuncData} {x : Str} {F : DSp} (O : FnG P w G.K mg base CX k f fd [x] (spD G F))
    (h : ∀ ns : List Int, ns.length ≤ 63 → F [.sc ns] (fun _ => none) (fun d _ => d = .py (.bool true)) fun _ _ _ => False) : FnG P w G.K mg base CX k f fd [x] (spLaw G.K) where
  wide := by
    rintro vs H Q E ⟨a, ns, rfl, _⟩
    rfl
  go := by
    rintro A above s H args us vs Q E gd hr e0 b r ⟨a, ns, rfl, hS, hl, k⟩
    refine O.go A above s H args us _ Q E gd hr e0 b r ⟨H, [.sc ns], fun _ => none, fun d _ => d = .py (.bool true), fun _ _ _ => False, .cons ⟨a, rfl, hS⟩ .nil, ⟨Ex.refl H, Ex.refl H, fun l ds z => nomatch z⟩, h ns hl, ?_, fun _ _ _ _ _ _ z => False.elim z⟩
    rintro v d B' H' O' rfl e s r
    rw [Dd.bl_inv r]
    exact k H'
theorem spLaw_want {K : PySem.W.Frag} {H : Hp} {a : Addr} {ns : List Int} (hl : ns.length ≤ 63) (hS : SqL K H a (ns.map V.int)) : spLaw K [.ref a] H (fun v _ => v = .bl true) fun _ _ _ => False := ⟨a, ns, rfl, hS, hl, fun _ => rfl⟩
theorem cls_ok {K : PySem.W.Frag} {D : Addr} (h2 : PySem.W.isClsIn K D = true) (h3 : PySem.W.typeIn K (.ref D) = some (.type "type")) : ((PySem.W.clsIn K D).isSome && PySem.W.typeIn K (.ref D) == some (.type "type")) = true := by
  have h2' : (PySem.W.clsIn K D).isSome = true := h2
  rw [h2', h3] <;> rfl
theorem exm_of {K : PySem.W.Frag} {C D : Addr} {b : Bool} (h1 : PySem.W.subIn K (.ref D) (.type "BaseException") = some true) (h2 : PySem.W.isClsIn K D = true) (h3 : PySem.W.typeIn K (.ref D) = some (.type "type")) (h4 : PySem.W.subIn K (.ref C) (.ref D) = some b) : PySem.W.exmOne K (.ref C) (.ref D) = some b := by
  have e1 : (PySem.W.subIn K (.ref D) (.type "BaseException") == some true) = true := by rw [h1] <;> rfl
  show (if (PySem.W.subIn K (.ref D) (.type "BaseException") == some true) = true then (if ((PySem.W.clsIn K D).isSome && PySem.W.typeIn K (.ref D) == some (.type "type")) = true then PySem.W.subIn K (.ref C) (.ref D) else none) else none) = some b
  rw [if_pos e1, if_pos (cls_ok h2 h3)]
  exact h4
theorem kit_of {K : PySem.W.Frag} {C D : Addr} {b : Bool} (hb : (Value.ref C == Value.ref D) = false) (h2 : PySem.W.isClsIn K D = true) (h3 : PySem.W.typeIn K (.ref D) = some (.type "type")) (h4 : PySem.W.subIn K (.ref C) (.ref D) = some b) : PySem.W.kitOne K (.ref C) (.ref D) = some b := by
  show (if (Value.ref C == Value.ref D) = true then some true else (if ((PySem.W.clsIn K D).isSome && PySem.W.typeIn K (.ref D) == some (.type "type")) = true then PySem.W.subIn K (.ref C) (.ref D) else none)) = some b
  rw [if_neg (by rw [hb]; exact Bool.false_ne_true), if_pos (cls_ok h2 h3)]
  exact h4
theorem kit_self {K : PySem.W.Frag} {C : Addr} : PySem.W.kitOne K (.ref C) (.ref C) = some true := by
  show (if (Value.ref C == Value.ref C) = true then some true else _) = some true
  rw [if_pos (by simp)]
/-- a written pair of numbers -/
theorem dd_pair {K : PySem.W.Frag} {a : Addr} {o : Obj} {n : Nat} {i j : Int} {t u : Nat} (h : K.lookup a = some o) (hc : o.cls = .type "tuple") (hd : o.data = .seq #[.int i t, .int j u] n) (B : Hp) : Dd K B (.ref a) (.tuple [.int i, .int j]) :=
  .tup (xs := [.int i, .int j]) (.inr ⟨o, _, n, h, hc, hd, by show 2 ≤ _; decide, .cons ⟨t, rfl⟩ (.cons ⟨u, rfl⟩ .nil)⟩) (.cons (.int i) (.cons (.int j) .nil))
end DL

namespace DL
open PySem PySem.Spec PyProof.Rows L2 Evl
/-! ## methods of lists that are changed in place -/
def rIns : V → List V → Hp → VK → Prop := fun x vs H Q => ∃ (l : Addr) (xs : List V) (i : Int) (y : V), x = .ref l ∧ vs = [.int i, y] ∧ H l = some (.lst xs) ∧ xs.length < sizeLine ∧ 0 ≤ i ∧ i < 2 ^ 63 ∧
    Q .non (upd H l (.lst (xs.take i.toNat ++ [y] ++ xs.drop i.toNat)))
theorem mt_ins {X : Cx} : MtR X "list.insert" rIns := mt_insert
section
variable {G : Gs} {B0 : Hp} {ρ : Ro} {O : Ow} {κ : D → Ow → Prop}
theorem le_append {to : TE} {t : TA} (h : LE G B0 to ρ O fun x O1 => ∃ p, x = .own p ∧ (∃ es, O1 p = some es) ∧ LA G B0 t ρ O1 fun xs O2 => ∃ d, xs = [.py d] ∧ ∃ ds, O2 p = some ds ∧ ds.length < 100000 ∧ κ (.py .none) (oset O2 p (ds ++ [d]))) :
    LE G B0 (tBM G.K "list" rAppend to t) ρ O κ := fun B H σ s t Q q =>
  h B H σ s t _ fun v x B1 H1 O1 ⟨p, ex, ⟨es, he⟩, h2⟩ e1 s1 r1 => by
    subst ex
    cases (show v = V.ref p from r1)
    obtain ⟨_, ws, hw, _⟩ := s1.ow p es he
    refine ⟨.inl ⟨rfl, ws, sq_of hw⟩, h2 B1 H1 σ s1 (t.mono e1) _ fun vs xs B2 H2 O2 ⟨d, ex, ds, ho, hl, k⟩ e2 s2 r2 => ?_⟩
    subst ex
    obtain ⟨y, rfl, ry⟩ := one_inv r2
    obtain ⟨_, us, hu, hd⟩ := s2.ow p ds ho
    exact ⟨p, us, y, rfl, rfl, hu, sz_lt (by rw [hd.len]; exact hl), q .non (.py .none) B2 _ _ k (e1.trans e2) (s2.chg ho (hd.append (DdAll.one ry))) (show Dd _ _ _ _ from .non)⟩
theorem le_insert {to : TE} {t : TA} (h : LE G B0 to ρ O fun x O1 => ∃ p, x = .own p ∧ (∃ es, O1 p = some es) ∧ LA G B0 t ρ O1 fun xs O2 => ∃ (i : Int) (d : PyData), xs = [.py (.int i), .py d] ∧ ∃ ds, O2 p = some ds ∧ ds.length < 100000 ∧ 0 ≤ i ∧ i < 100000 ∧
    κ (.py .none) (oset O2 p (ds.take i.toNat ++ [d] ++ ds.drop i.toNat))) :
    LE G B0 (tBM G.K "list" rIns to t) ρ O κ := fun B H σ s t Q q =>
  h B H σ s t _ fun v x B1 H1 O1 ⟨p, ex, ⟨es, he⟩, h2⟩ e1 s1 r1 => by
    subst ex
    cases (show v = V.ref p from r1)
    obtain ⟨_, ws, hw, _⟩ := s1.ow p es he
    refine ⟨.inl ⟨rfl, ws, sq_of hw⟩, h2 B1 H1 σ s1 (t.mono e1) _ fun vs xs B2 H2 O2 ⟨i, d, ex, ds, ho, hl, h0, h1, k⟩ e2 s2 r2 => ?_⟩
    subst ex
    obtain ⟨w, y, rfl, rw', ry⟩ := two_inv r2
    rw [Dd.int_inv rw']
    obtain ⟨_, us, hu, hd⟩ := s2.ow p ds ho
    refine ⟨p, us, i, y, rfl, rfl, hu, sz_lt (by rw [hd.len]; exact hl), h0, by omega, q .non (.py .none) B2 _ _ k (e1.trans e2) (s2.chg ho ?_) (show Dd _ _ _ _ from .non)⟩
    exact ((hd.take _).append (DdAll.one ry)).append (hd.drop _)
end
/-! ## pairs of numbers, compared -/
theorem eqv_pair (x y u v : Int) : PyData.eqv (.tuple [.int x, .int y]) (.tuple [.int u, .int v]) = (decide (x = u) && decide (y = v)) := by
  simp only [PyData.eqv, PyData.eqvAll, Bool.and_true]
  rfl
theorem isPt_by_low (x y : Int) : (!PyData.eqv (.tuple [.int x, .int y]) (.tuple [.int 0, .int 0]) && PyData.eqv (lowD x y) (.tuple [.int x, .int y])) = isPt (.tuple [.int x, .int y]) := by
  unfold lowD
  rw [eqv_pair, eqv_pair, isPt_pair]
  by_cases hy : y = 0
  · subst hy
    unfold lowA lowB
    rw [if_pos rfl, if_pos rfl, if_pos rfl]
    by_cases hx : x = 1
    · subst hx
      rfl
    · have h1 : decide ((1 : Int) = x) = false := decide_eq_false fun z => hx z.symm
      rw [h1, decide_eq_false hx, Bool.false_and, Bool.and_false]
  · rw [if_neg hy, decide_eq_false hy, Bool.and_false, Bool.not_false, Bool.true_and]
    by_cases hp : 0 < y
    · rw [decide_eq_true hp, Bool.true_and]
      have hB := lowB_mul (x := x) hy
      have hA := lowA_mul (x := x) hy
      have hg : lowG x y = (Int.gcd x y : Int) := by
        unfold lowG
        rw [if_pos hp]
      rw [hg] at hA hB
      by_cases h1 : (Int.gcd x y : Int) = 1
      · rw [h1, Int.mul_one] at hA hB
        rw [hA, hB, decide_eq_true rfl, decide_eq_true rfl, decide_eq_true h1]
        rfl
      · rw [decide_eq_false h1]
        have : ¬ lowB x y = y := fun e => by
          rw [e] at hB
          have e2 : y * ((Int.gcd x y : Int) - 1) = 0 := by rw [Int.mul_sub, hB]; omega
          rcases Int.mul_eq_zero.mp e2 with e3 | e3 <;> omega
        rw [decide_eq_false this, Bool.and_false]
    · rw [decide_eq_false hp, Bool.false_and]
      have := lowB_pos (x := x) hy
      rw [decide_eq_false (show ¬ lowB x y = y by omega), Bool.and_false]
/-! ## what can be shown -/
theorem okR_tup {xs : List PyData} (h : okRs xs) : okR (.tuple xs) := h
theorem okR_lst {xs : List PyData} (h : okRs xs) : okR (.list xs) := h
theorem okR_str {x : Str} : okR (.str x) := trivial
theorem okR_bool {x : Bool} : okR (.bool x) := trivial
theorem okR_none : okR .none := trivial
theorem okRs_nil : okRs [] := trivial
theorem okRs_cons {x : PyData} {xs : List PyData} (h : okR x) (t : okRs xs) : okRs (x :: xs) := ⟨h, t⟩
theorem szk {d : PyData} {n : Nat} (h : Nat.ble (szR d) n = true) : szR d ≤ n := Nat.le_of_ble_eq_true h
theorem dpk {d : PyData} {n : Nat} (h : Nat.ble d.depth n = true) : d.depth ≤ n := Nat.le_of_ble_eq_true h
/-- a thing that can be shown -/
def thOK (d : PyData) : Prop := (∃ ds, d = .dict ds ∧ (PyData.dict ds).showable = true ∧ (PyData.dict ds).shown.length ≤ 10000000 ∧ (PyData.dict ds).depth ≤ 60) ∨ (okR d ∧ szR d ≤ 1000000 ∧ d.depth ≤ 60)
theorem lc_reprT {G : Gs} {B0 : Hp} {O : Ow} {κ : D → Ow → Prop} {d : PyData} (h : thOK d) (k : κ (.py (.str d.shown)) O) : LC G B0 (rRepr G.K) [.py d] O κ := by
  rcases h with ⟨ds, rfl, h1, h2, h3⟩ | ⟨h1, h2, h3⟩
  · exact lc_reprD h1 h2 h3 k
  · exact lc_repr rfl h1 (by omega) h3 k
theorem eight_of {α : Type} {ds : List α} (h : ds.length = 8) : ∃ a b c d e f g k, ds = [a, b, c, d, e, f, g, k] :=
  match ds, h with
  | [a, b, c, d, e, f, g, k], _ => ⟨a, b, c, d, e, f, g, k, rfl⟩
/-! ## walks that treat all alike -/
theorem all_nil {P : PyData → Prop} : ∀ d ∈ ([] : List PyData), P d := fun _ h => absurd h List.not_mem_nil
theorem all_cons {P : PyData → Prop} {x : PyData} {xs : List PyData} (h : P x) (t : ∀ d ∈ xs, P d) : ∀ d ∈ x :: xs, P d := fun d m => by
  rcases List.mem_cons.mp m with rfl | m
  · exact h
  · exact t d m
theorem all_app {P : PyData → Prop} {xs ys : List PyData} (h : ∀ d ∈ xs, P d) (t : ∀ d ∈ ys, P d) : ∀ d ∈ xs ++ ys, P d := fun d m => by
  rcases List.mem_append.mp m with m | m
  · exact h d m
  · exact t d m
theorem ls_forP {G : Gs} {B0 : Hp} {ρ : Ro} {O : Ow} {N : Ro → Ow → Prop} {R : D → Ow → Prop} {Bk Ct : Ro → Ow → Prop} {te : TE} {g : TG} {tb : TS} (P : PyData → Prop) (I : Ro → Ow → Prop)
    (h : LE G B0 te ρ O fun x O1 => ∃ ds, x = .py (.list ds) ∧ (∀ d ∈ ds, P d) ∧ I ρ O1)
    (hs : ∀ d ρ' O', P d → I ρ' O' → LG G B0 g (.py d) ρ' O' fun ρ2 O2 => LS G B0 tb ρ2 O2 I R N I) (hd : ∀ ρ' O', I ρ' O' → N ρ' O') : LS G B0 (tFor (iList G.K te) g tb) ρ O N R Bk Ct := by
  refine ls_for (li_list (h.imp ?_))
  rintro x O1 ⟨ds, rfl, hP, h0⟩
  refine ⟨ds, rfl, fun _ => I, h0, ?_, fun ρ' O' => hd ρ' O'⟩
  intro i d ρ' O' hi hI
  rw [List.getElem?_map] at hi
  cases he : ds[i]? with
  | none =>
    rw [he] at hi
    cases hi
  | some e =>
    rw [he] at hi
    cases hi
    exact hs e ρ' O' (hP e (List.mem_of_getElem? he)) hI
end DL

namespace DL
open PySem PySem.Spec PyProof.Rows L2 Evl

local macro_rules | `(tactic| walk_at "le") => `(tactic| first
  | (with_reducible refine le_int ?_)
  | (with_reducible refine le_str ?_)
  | (with_reducible refine le_bl ?_)
  | (with_reducible refine le_non ?_)
  | ((with_reducible refine' le_var ?hv ?_); (case hv => exact rfl); all_goals skip)
  | (with_reducible refine le_raw ?_)
  | (with_reducible refine le_op ?_)
  | (with_reducible refine le_un ?_)
  | (with_reducible refine le_cb ?_)
  | (with_reducible refine la_cons ?_)
  | (with_reducible refine la_nil ?_)
  | (with_reducible refine le_tup ?_)
  | (with_reducible refine le_lst ?_)
  | (with_reducible refine le_if ?_)
  | (with_reducible refine lt_test ?_)
  | (with_reducible refine lt_and ?_)
  | (with_reducible refine lt_or ?_)
  | (with_reducible refine lt_not ?_)
  | (with_reducible refine lt_tr ?_)
  | (with_reducible refine lt_yes ?_)
  | (with_reducible refine le_andV ?_)
  | (with_reducible refine le_orV ?_)
  | (with_reducible refine le_notV ?_)
  | (with_reducible refine le_sl ?_)
  | (with_reducible refine lo_none ?_)
  | (with_reducible refine lo_some ?_)
  | (with_reducible refine lr_add ?_)
  | ((with_reducible refine' lr_cat ?hx ?hy ?nx ?ny ?hl ?_); (case hx => exact rfl); (case hy => exact rfl); (case nx => exact fun _ z => nomatch z); (case ny => exact fun _ z => nomatch z); (case hl => exact Nat.le_of_ble_eq_true rfl); all_goals skip)
  | ((with_reducible refine le_disp1 ?hs ?_); (case hs => first | exact .int _ | exact .str _ | exact .non | exact .bl _))
  | (with_reducible refine lr_sub ?_)
  | ((with_reducible refine lr_mul ?hs ?_); (case hs => first | exact mulW (big_of (by omega)) (big_of (by omega)) | exact mulW bd_big bd_big))
  | ((with_reducible refine lr_fdiv ?hs ?_); (case hs => exact divU (by omega) (big_of (by omega))))
  | ((with_reducible refine lr_powL ?hs ?_); (case hs => exact powU (big_of (by omega)) (by decide) (by decide)))
  | ((with_reducible refine lr_pow ?hs ?_); (case hs => exact powU (big_of (by omega)) (by decide) (by decide)))
  | (with_reducible refine lr_lt ?_)
  | (with_reducible refine lr_le ?_)
  | (with_reducible refine lr_gt ?_)
  | (with_reducible refine lr_ge ?_)
  | (with_reducible refine lr_eqI ?_)
  | (with_reducible refine lr_neI ?_)
  | (with_reducible refine lr_eqS ?_)
  | (with_reducible refine lr_neS ?_)
  | ((with_reducible refine' lr_ix ?hx ?hi ?_); (case hx => first | exact asOwn (by assumption) | exact asOwn oset_same | exact rfl); (case hi => exact rfl); all_goals skip)
  | ((with_reducible refine' lr_ixT ?hi ?_); (case hi => exact rfl); all_goals skip)
  | (with_reducible refine lu_neg ?_)
  | (with_reducible refine lc_int ?_)
  | (with_reducible refine lc_abs ?_)
  | (with_reducible refine lc_mx ?_)
  | (with_reducible refine lc_mn ?_)
  | (with_reducible refine lc_gcd ?_)
  | (with_reducible refine lc_lenT ?_)
  | ((with_reducible refine' lc_len ?hv ?_); (case hv => first | exact asOwn (by assumption) | exact asOwn oset_same | exact rfl); all_goals skip)
  | (with_reducible refine ls_seq ?_)
  | (with_reducible refine ls_set ?_)
  | (with_reducible refine ls_par ?_)
  | (with_reducible refine ls_par3 ?_)
  | (with_reducible refine ls_asg ?_)
  | (with_reducible refine ls_ret ?_)
  | (with_reducible refine ls_retN ?_)
  | (with_reducible refine ls_drop ?_)
  | (with_reducible refine ls_if ?_)
  | (with_reducible refine ls_next ?_)
  | (with_reducible refine lg_name ?_)
  | ((with_reducible refine lg_tup ?hn ?_); (case hn => exact rfl))
  | ((with_reducible refine lg_unl ?hn ?_); (case hn => exact rfl))
  | (with_reducible refine lg_sub ?_)
  | ((with_reducible show LGs _ _ _ _ _ _ _); first | refine lgs_cons ?_ | refine lgs_nil ?_)
  | (with_reducible refine le_call ?_)
  | (with_reducible refine le_callG ?_)
  | (with_reducible refine le_kw0 ?_)
  | (with_reducible refine ifT ?_)
  | (with_reducible refine ifF ?_)
  | (with_reducible refine ifNT ?_)
  | (with_reducible refine ifNF ?_)
  | (with_reducible refine py_cons ?_)
  | (with_reducible refine py_nil ⟨lenk rfl, ?_⟩)
  | (refine ⟨_, rfl, ?_⟩)
  | (refine ⟨_, _, rfl, ?_⟩)
  | (refine ⟨_, _, _, rfl, ?_⟩))
local macro_rules | `(tactic| walk_at "st") => `(tactic| (refine' ⟨_, _, _, _, _, rfl, rfl, rfl, ?hv, ?hw, ?_⟩; (case hv => first | assumption | exact oset_same); (case hw => exact rfl); all_goals skip))
local macro_rules | `(tactic| walk_at "l") => `(tactic| repeat walk_at "le")
local macro_rules | `(tactic| walk_at "k") => `(tactic| repeat ((fail_if_success (with_reducible refine le_if ?_)); (fail_if_success (with_reducible refine ls_if ?_)); walk_at "le"))
local macro_rules | `(tactic| walk_at "d") => `(tactic| (refine' ⟨_, _, _, _, rfl, ?hv, ?hw, ?h1, ?h2, ?h3, ?_⟩; (case hv => first | exact oset_same | assumption | (rw [oset_ne (by assumption)]; exact oset_same)); (case hw => assumption); (case h1 => omega); (case h2 => omega); (case h3 => omega); all_goals skip))
local macro_rules | `(tactic| walk_at "ok") => `(tactic| repeat' (first | (with_reducible refine okR_tup ?_) | (with_reducible refine okR_lst ?_) | (with_reducible exact okRs_nil) | (with_reducible refine okRs_cons ?_ ?_) | (with_reducible exact okR_str) | (with_reducible exact okR_bool) | (with_reducible exact okR_none) | exact ok_int (by omega)))
local macro_rules | `(tactic| walk_at "all") => `(tactic| repeat' (first | (refine all_app ?_ ?_) | (refine all_cons ?_ ?_) | (exact all_nil)))

/-! ### is_whole -/
abbrev N_is_whole : List Str := ["value"]
def t_is_whole (G : Gs) (a : Ad) : TS :=
  (tRet (tAndV (tCB (rIsi G.K) (tCons (tVar 0) (tCons (tC (.ty "int")) tNil))) (tNotV (tCB (rIsi G.K) (tCons (tVar 0) (tCons (tC (.ty "bool")) tNil))))))
def F_is_whole (a : Ad) : DSp := fun ds O κ _ => ∃ d : PyData, ds = [.py d] ∧ κ (.py (.bool (pyInt d))) O
theorem len_is_whole (a : Ad) : ∀ ds O κ ε, F_is_whole a ds O κ ε → ds.length = (["value"] : List Str).length := by
  rintro _ O κ ε ⟨d, rfl, _⟩
  rfl
theorem ls_is_whole {G : Gs} {a : Ad} : ∀ (B0 : Hp) ds O κ ε, F_is_whole a ds O κ ε → LS G B0 (t_is_whole G a) (startR N_is_whole ds) O (fun _ O' => κ (.py .none) O') κ (fun _ _ => False) (fun _ _ => False) := by
  rintro B0 _ O κ ε ⟨d, rfl, k⟩
  unfold t_is_whole
  walk_at "l"
  refine lc_isi (kit_int d) ?_
  walk_at "l"
  refine if_b (fun h => ?_) (fun h => ?_)
  · walk_at "l"
    refine lc_isi (kit_bool d) ?_
    walk_at "l"
    cases d <;> first | exact k | cases h
  · cases d <;> first | exact k | cases h

/-! ### is_point -/
abbrev N_is_point : List Str := ["value", "top", "bottom"]
def t_is_point (G : Gs) (a : Ad) : TS :=
  (tSeq (tIfS (tOr (tNot (tTr G.K (tCB (rIsi G.K) (tCons (tVar 0) (tCons (tC (.ty "tuple")) tNil))))) (tTest (tOp (rNeU G.K) (tCB (rLen G.K) (tCons (tVar 0) tNil)) (tC (.int 2))))) (tRet (tC (.bl false))) tNext)
    (tSeq (tAsg (tVar 0) (gTup G.K 2 (gCons (gName 1) (gCons (gName 2) gNil))))
    (tSeq (tIfS (tOr (tNot (tTr G.K (tCall (spD G (F_is_whole a)) [] E0 (tCons (tVar 1) tNil)))) (tNot (tTr G.K (tCall (spD G (F_is_whole a)) [] E0 (tCons (tVar 2) tNil))))) (tRet (tC (.bl false))) tNext)
    (tSeq (tIfS (tTest (tOp (rEqU G.K) (tVar 2) (tC (.int 0)))) (tRet (tOp (rEqU G.K) (tVar 1) (tC (.int 1)))) tNext)
    (tRet (tAndV (tOp rGt (tVar 2) (tC (.int 0))) (tOp (rEqU G.K) (tCB rGcd (tCons (tVar 1) (tCons (tVar 2) tNil))) (tC (.int 1)))))))))
def F_is_point (a : Ad) : DSp := fun ds O κ _ => ∃ d : PyData, ds = [.py d] ∧ κ (.py (.bool (isPt d))) O
theorem len_is_point (a : Ad) : ∀ ds O κ ε, F_is_point a ds O κ ε → ds.length = (["value"] : List Str).length := by
  rintro _ O κ ε ⟨d, rfl, _⟩
  rfl
theorem ls_is_point {G : Gs} {a : Ad} : ∀ (B0 : Hp) ds O κ ε, F_is_point a ds O κ ε → LS G B0 (t_is_point G a) (startR N_is_point ds) O (fun _ O' => κ (.py .none) O') κ (fun _ _ => False) (fun _ _ => False) := by
  rintro B0 _ O κ ε ⟨d, rfl, k⟩
  unfold t_is_point
  walk_at "l"
  refine lc_isi (kit_tuple d) ?_
  cases d with
  | none => walk_at "l"; refine ifNT ?_; walk_at "l"; exact k
  | bool b => walk_at "l"; refine ifNT ?_; walk_at "l"; exact k
  | int b => walk_at "l"; refine ifNT ?_; walk_at "l"; exact k
  | str b => walk_at "l"; refine ifNT ?_; walk_at "l"; exact k
  | list b => walk_at "l"; refine ifNT ?_; walk_at "l"; exact k
  | dict b => walk_at "l"; refine ifNT ?_; walk_at "l"; exact k
  | tuple ds =>
    walk_at "l"
    refine ifNF ?_
    walk_at "l"
    refine if_ndec (fun h => ?_) (fun h => ?_)
    · walk_at "l"
      rw [isPt_not h] at k
      exact k
    · obtain ⟨x, y, rfl⟩ := two_of h
      walk_at "l"
      refine if_b (fun hx => ?_) (fun hx => ?_)
      · walk_at "l"
        rw [isPt_x (by simpa using hx)] at k
        exact k
      · walk_at "l"
        refine if_b (fun hy => ?_) (fun hy => ?_)
        · walk_at "l"
          rw [isPt_y (by simpa using hy)] at k
          exact k
        · obtain ⟨i, rfl⟩ := int_of (d := x) (by simpa using hx)
          obtain ⟨j, rfl⟩ := int_of (d := y) (by simpa using hy)
          rw [isPt_pair] at k
          walk_at "l"
          refine if_dec (fun h0 => ?_) (fun h0 => ?_)
          · walk_at "l"
            rw [if_pos h0] at k
            exact k
          · rw [if_neg h0] at k
            walk_at "l"
            refine if_dec (fun h1 => ?_) (fun h1 => ?_)
            · walk_at "l"
              rw [decide_eq_true h1, Bool.true_and] at k
              exact k
            · rw [decide_eq_false h1, Bool.false_and] at k
              exact k

/-! ### law_pool -/
abbrev N_law_pool : List Str := ["script", "spot", "cell"]
def t_law_pool (G : Gs) (a : Ad) : TS :=
  (tSeq (tAsg (tC (.int 0)) (gName 2))
    (tSeq (tIfS (tTest (tOp rLt (tVar 1) (tCB (rLen G.K) (tCons (tVar 0) tNil)))) (tAsg (tOp (rIx G.K) (tVar 0) (tVar 1)) (gName 2)) tNext)
    (tRet (tLst (tCons (tCB rMx (tCons (tC (.int 0)) (tCons (tOp rSubU (tCB (rAbs) (tCons (tVar 2) tNil)) (tOp rPowU (tC (.int 10)) (tC (.int 18)))) tNil))) (tCons (tOp rAddU (tOp rModU (tCB (rInt1) (tCons (tVar 2) tNil)) (tC (.int 2305843009213693951))) (tOp rMulU (tC (.int 7368787)) (tOp rAddU (tVar 1) (tC (.int 1))))) (tCons (tC (.int 0)) tNil)))))))
def F_law_pool (a : Ad) : DSp := fun ds O κ _ => ∃ (ns : List Int) (spot : Int), ds = [.sc ns, .py (.int spot)] ∧ 0 ≤ spot ∧ spot ≤ 100 ∧ ∀ p q, O p = none → PoolL q 0 → κ (.own p) (oset O p q)
theorem len_law_pool (a : Ad) : ∀ ds O κ ε, F_law_pool a ds O κ ε → ds.length = (["script", "spot"] : List Str).length := by
  rintro _ O κ ε ⟨ns, spot, rfl, _⟩
  rfl
theorem pool_end {G : Gs} {B0 : Hp} {ρ : Ro} {O : Ow} {R : D → Ow → Prop} {N Bk Ct : Ro → Ow → Prop} {cell spot : Int} (h1 : ρ[1]? = some (some (.py (.int spot)))) (h2 : ρ[2]? = some (some (.py (.int cell)))) (h3 : 0 ≤ spot) (h4 : spot ≤ 100)
    (k : ∀ p q, O p = none → PoolL q 0 → R (.own p) (oset O p q)) : LS G B0 (tRet (tLst (tCons (tCB rMx (tCons (tC (.int 0)) (tCons (tOp rSubU (tCB (rAbs) (tCons (tVar 2) tNil)) (tOp rPowU (tC (.int 10)) (tC (.int 18)))) tNil)))
      (tCons (tOp rAddU (tOp rModU (tCB (rInt1) (tCons (tVar 2) tNil)) (tC (.int 2305843009213693951))) (tOp rMulU (tC (.int 7368787)) (tOp rAddU (tVar 1) (tC (.int 1))))) (tCons (tC (.int 0)) tNil))))) ρ O N R Bk Ct := by
  refine ls_ret (le_lstO ?_)
  walk_at "l"
  refine le_var h2 ?_
  walk_at "l"
  refine le_var h2 ?_
  walk_at "l"
  refine lr_modr (by omega) fun r h0 h1' => ?_
  walk_at "l"
  refine le_var h1 ?_
  walk_at "l"
  refine fun p hp => k p _ hp ⟨_, _, _, rfl, ?_, by omega, by omega, by omega, by omega⟩
  omega
theorem ls_law_pool {G : Gs} {a : Ad} : ∀ (B0 : Hp) ds O κ ε, F_law_pool a ds O κ ε → LS G B0 (t_law_pool G a) (startR N_law_pool ds) O (fun _ O' => κ (.py .none) O') κ (fun _ _ => False) (fun _ _ => False) := by
  rintro B0 _ O κ ε ⟨ns, spot, rfl, h0, h1, k⟩
  unfold t_law_pool
  walk_at "l"
  refine if_dec (fun h => ?_) (fun h => ?_)
  · obtain ⟨cell, hc⟩ := atI_ints (ns := ns) h0 (by rw [List.length_map] at h; exact h)
    walk_at "l"
    refine lr_ix rfl hc ?_
    refine pool_end (cell := cell) ?_ ?_ h0 h1 k
    all_goals rfl
  · walk_at "le"
    refine pool_end (cell := 0) ?_ ?_ h0 h1 k
    all_goals rfl

/-! ### law_draw -/
abbrev N_law_draw : List Str := ["pool", "span", "drawn", "mixed"]
def t_law_draw (G : Gs) (a : Ad) : TS :=
  (tSeq (tIfS (tTest (tOp rGt (tOp (rIx G.K) (tVar 0) (tC (.int 0))) (tC (.int 0)))) (tSeq (tAsg (tOp rModU (tCB (rInt1) (tCons (tOp (rIx G.K) (tVar 0) (tC (.int 0))) tNil)) (tVar 1)) (gName 2))
    (tSeq (tAsg (tOp rFdivU (tOp (rIx G.K) (tVar 0) (tC (.int 0))) (tVar 1)) (gSub (tVar 0) (tC (.int 0)) rSetL))
    (tRet (tVar 2)))) tNext)
    (tSeq (tAsg (tOp rAddU (tOp (rIx G.K) (tVar 0) (tC (.int 2))) (tC (.int 1))) (gSub (tVar 0) (tC (.int 2)) rSetL))
    (tSeq (tAsg (tOp rModU (tCB (rInt1) (tCons (tOp rPowU (tOp rAddU (tOp (rIx G.K) (tVar 0) (tC (.int 1))) (tOp rMulU (tC (.int 15485863)) (tOp (rIx G.K) (tVar 0) (tC (.int 2))))) (tC (.int 3))) tNil)) (tC (.int 162259276829213363391578010288127))) (gName 3))
    (tSeq (tAsg (tOp rModU (tCB (rInt1) (tCons (tOp rPowU (tOp rAddU (tVar 3) (tOp rMulU (tC (.int 32452843)) (tOp (rIx G.K) (tVar 0) (tC (.int 2))))) (tC (.int 3))) tNil)) (tC (.int 170141183460469231731687303715884105727))) (gName 3))
    (tRet (tOp rModU (tCB (rInt1) (tCons (tOp rFdivU (tVar 3) (tC (.int 1048576))) tNil)) (tVar 1)))))))
def F_law_draw (a : Ad) : DSp := fun ds O κ _ => ∃ (p : Addr) (span n : Int) (q : List PyData), ds = [.own p, .py (.int span)] ∧ O p = some q ∧ PoolL q n ∧ n ≤ 1000000 ∧ 1 ≤ span ∧ span ≤ 10 ^ 40 ∧
  ∀ (r : Int) q', 0 ≤ r → r < span → PoolL q' (n + 1) → κ (.py (.int r)) (oset O p q')
theorem len_law_draw (a : Ad) : ∀ ds O κ ε, F_law_draw a ds O κ ε → ds.length = (["pool", "span"] : List Str).length := by
  rintro _ O κ ε ⟨p, span, n, q, rfl, _⟩
  rfl
theorem ls_law_draw {G : Gs} {a : Ad} : ∀ (B0 : Hp) ds O κ ε, F_law_draw a ds O κ ε → LS G B0 (t_law_draw G a) (startR N_law_draw ds) O (fun _ O' => κ (.py .none) O') κ (fun _ _ => False) (fun _ _ => False) := by
  rintro B0 _ O κ ε ⟨p, span, n, q, rfl, hO, ⟨x, y, c, rfl, hx, hy, hy2, hc, hcn⟩, hn, hs, hs2, k⟩
  unfold t_law_draw
  walk_at "l"
  refine if_dec (fun h => ?_) (fun h => ?_)
  · walk_at "l"
    refine lr_modr (by omega) fun r h0 h1 => ?_
    walk_at "l"
    walk_at "st"
    walk_at "l"
    exact k r _ h0 h1 ⟨_, _, _, rfl, fdiv_nn (by omega) (by omega), by omega, by omega, by omega, by omega⟩
  · walk_at "l"
    walk_at "st"
    walk_at "l"
    refine lr_modr (by omega) fun m1 h0 h1 => ?_
    walk_at "l"
    refine lr_modr (by omega) fun m2 h2 h3 => ?_
    walk_at "l"
    refine lr_modr (by omega) fun r h4 h5 => ?_
    exact k r _ h4 h5 ⟨_, _, _, rfl, by omega, by omega, by omega, by omega, by omega⟩

/-! ### law_low -/
abbrev N_law_low : List Str := ["over", "under", "left", "right"]
def t_law_low (G : Gs) (a : Ad) : TS :=
  (tSeq (tIfS (tTest (tOp (rEqU G.K) (tVar 1) (tC (.int 0)))) (tRet (tTup (tCons (tC (.int 1)) (tCons (tC (.int 0)) tNil)))) tNext)
    (tSeq (tPar 2 3 (tCons (tCB (rAbs) (tCons (tVar 0) tNil)) (tCons (tCB (rAbs) (tCons (tVar 1) tNil)) tNil)))
    (tSeq (tWhile (tTest (tOp (rNeU G.K) (tVar 3) (tC (.int 0)))) (tPar 2 3 (tCons (tVar 3) (tCons (tOp rModU (tCB (rInt1) (tCons (tVar 2) tNil)) (tVar 3)) tNil))))
    (tSeq (tAsg (tIf (tTest (tOp rGt (tVar 1) (tC (.int 0)))) (tVar 2) (tOp rSubU (tC (.int 0)) (tVar 2))) (gName 2))
    (tRet (tTup (tCons (tOp rFdivU (tVar 0) (tVar 2)) (tCons (tOp rFdivU (tVar 1) (tVar 2)) tNil))))))))
def F_law_low (a : Ad) : DSp := fun ds O κ _ => ∃ x y : Int, ds = [.py (.int x), .py (.int y)] ∧ x.natAbs < 10 ^ 1700 ∧ y.natAbs < 10 ^ 1700 ∧ κ (.py (lowD x y)) O
theorem len_law_low (a : Ad) : ∀ ds O κ ε, F_law_low a ds O κ ε → ds.length = (["over", "under"] : List Str).length := by
  rintro _ O κ ε ⟨x, y, rfl, _⟩
  rfl
/-- one turn of Euclid's -/
theorem gcd_turn {l r : Int} (hl : 0 ≤ l) (hr : 0 ≤ r) (h : r ≠ 0) : Int.gcd r (l.fmod r) = Int.gcd l r ∧ 0 ≤ l.fmod r ∧ l.fmod r < r := by
  have b := fmod_bd (x := l) (s := r) (by omega)
  refine ⟨?_, b.1, b.2⟩
  rw [Int.fmod_eq_emod_of_nonneg _ (by omega), Int.gcd_comm l r]
  have e := Int.gcd_add_mul_left_right r (l % r) (l / r)
  rw [Int.emod_add_mul_ediv] at e
  exact e.symm
theorem ls_law_low {G : Gs} {a : Ad} : ∀ (B0 : Hp) ds O κ ε, F_law_low a ds O κ ε → LS G B0 (t_law_low G a) (startR N_law_low ds) O (fun _ O' => κ (.py .none) O') κ (fun _ _ => False) (fun _ _ => False) := by
  rintro B0 _ O κ ε ⟨x, y, rfl, hx, hy, k⟩
  unfold t_law_low
  walk_at "l"
  refine if_dec (fun h => ?_) (fun h => ?_)
  · walk_at "l"
    unfold lowD lowA lowB at k
    rw [if_pos h, if_pos h] at k
    exact k
  · walk_at "l"
    refine ls_while (fun m ρ' O' => ∃ l r : Int, ρ' = [some (.py (.int x)), some (.py (.int y)), some (.py (.int l)), some (.py (.int r))] ∧ O' = O ∧ m = r.toNat ∧ 0 ≤ l ∧ 0 ≤ r ∧ Int.gcd l r = Int.gcd x y) y.natAbs ⟨_, _, rfl, rfl, by omega, by omega, by omega, by rw [Int.gcd_eq_natAbs_gcd_natAbs, Int.gcd_eq_natAbs_gcd_natAbs]; rfl⟩ ?_
    rintro m ρ' O' ⟨l, r, rfl, rfl, rfl, hl, hr, hg⟩
    walk_at "l"
    refine if_ndec (fun h => ?_) (fun h => ?_)
    · obtain ⟨g1, g2, g3⟩ := gcd_turn hl hr h
      walk_at "l"
      refine lr_mod h ?_
      walk_at "l"
      exact ⟨_, by omega, r, l.fmod r, rfl, rfl, rfl, hr, g2, g1.trans hg⟩
    · subst h
      have e : l = (Int.gcd x y : Int) := by
        rw [Int.gcd_zero_right] at hg
        omega
      subst e
      have gp := gcd_pos_r (x := x) h
      have gb : (Int.gcd x y : Int).natAbs < 10 ^ 1700 := by
        have := Nat.le_of_dvd (by omega) (Int.gcd_dvd_natAbs_right x y)
        omega
      walk_at "l"
      refine if_dec (fun h' => ?_) (fun h' => ?_)
      · walk_at "l"
        unfold lowD lowA lowB lowG at k
        rw [if_neg h, if_neg h, if_pos h'] at k
        exact k
      · walk_at "l"
        unfold lowD lowA lowB lowG at k
        rw [if_neg h, if_neg h, if_neg h'] at k
        rw [Int.zero_sub]
        exact k

/-! ### law_any_point -/
abbrev N_law_any_point : List Str := ["pool", "some"]
def t_law_any_point (G : Gs) (a : Ad) : TS :=
  (tSeq (tAsg (tLst (tCons (tTup (tCons (tC (.int 1)) (tCons (tC (.int 0)) tNil))) (tCons (tTup (tCons (tC (.int 0)) (tCons (tC (.int 1)) tNil))) (tCons (tCall (spD G (F_law_low a)) [] E0 (tCons (tOp rSubU (tCall (spD G (F_law_draw a)) [] E0 (tCons (tVar 0) (tCons (tC (.int 19)) tNil))) (tC (.int 9))) (tCons (tOp rAddU (tC (.int 1)) (tCall (spD G (F_law_draw a)) [] E0 (tCons (tVar 0) (tCons (tC (.int 6)) tNil)))) tNil))) tNil)))) (gName 1))
    (tSeq (tDrop (tBM G.K "list" rAppend (tVar 1) (tCons (tCall (spD G (F_law_low a)) [] E0 (tCons (tOp rSubU (tCall (spD G (F_law_draw a)) [] E0 (tCons (tVar 0) (tCons (tOp rAddU (tOp rMulU (tC (.int 2)) (tOp rPowU (tC (.int 10)) (tC (.int 6)))) (tC (.int 1))) tNil))) (tOp rPowU (tC (.int 10)) (tC (.int 6)))) (tCons (tOp rAddU (tC (.int 1)) (tCall (spD G (F_law_draw a)) [] E0 (tCons (tVar 0) (tCons (tOp rPowU (tC (.int 10)) (tC (.int 6))) tNil)))) tNil))) tNil)))
    (tRet (tOp (rIx G.K) (tVar 1) (tCall (spD G (F_law_draw a)) [] E0 (tCons (tVar 0) (tCons (tC (.int 4)) tNil)))))))
def F_law_any_point (a : Ad) : DSp := fun ds O κ _ => ∃ (p : Addr) (q : List PyData) (n : Int), ds = [.own p] ∧ O p = some q ∧ PoolL q n ∧ n ≤ 900000 ∧
  ∀ (x y : Int) q', isPt (.tuple [.int x, .int y]) = true → x.natAbs ≤ 10 ^ 7 → y.natAbs ≤ 10 ^ 7 → PoolL q' (n + 5) → κ (.py (.tuple [.int x, .int y])) (oset O p q')
theorem len_law_any_point (a : Ad) : ∀ ds O κ ε, F_law_any_point a ds O κ ε → ds.length = (["pool"] : List Str).length := by
  rintro _ O κ ε ⟨p, q, n, rfl, _⟩
  rfl
theorem ls_law_any_point {G : Gs} {a : Ad} : ∀ (B0 : Hp) ds O κ ε, F_law_any_point a ds O κ ε → LS G B0 (t_law_any_point G a) (startR N_law_any_point ds) O (fun _ O' => κ (.py .none) O') κ (fun _ _ => False) (fun _ _ => False) := by
  rintro B0 _ O κ ε ⟨p, q, n, rfl, hO, hq, hn, k⟩
  unfold t_law_any_point
  walk_at "le"
  walk_at "le"
  refine le_lstO ?_
  walk_at "l"
  walk_at "d"
  intro r1 q1 a1 b1 c1
  walk_at "l"
  walk_at "d"
  intro r2 q2 a2 b2 c2
  rw [show oset (oset O p q1) p q2 = oset O p q2 from oset_oset]
  walk_at "l"
  refine ⟨by omega, by omega, ?_⟩
  walk_at "l"
  intro r hr
  have ne : p ≠ r := own_ne oset_same hr
  walk_at "le"
  refine ls_drop (le_append ?_)
  walk_at "l"
  refine ⟨⟨_, oset_same⟩, ?_⟩
  walk_at "l"
  walk_at "d"
  intro r3 q3 a3 b3 c3
  rw [oset_mid ne]
  walk_at "l"
  walk_at "d"
  intro r4 q4 a4 b4 c4
  rw [oset_mid ne]
  walk_at "l"
  refine ⟨by omega, by omega, ?_⟩
  walk_at "l"
  refine ⟨_, oset_same, (by show 3 < 100000; decide), ?_⟩
  rw [oset_oset]
  refine ls_freeze (i := 1) rfl oset_same ?_
  rw [odel_oset (by rw [oset_ne ne.symm]; rw [oset_ne ne.symm] at hr; exact hr)]
  walk_at "l"
  walk_at "d"
  intro r5 q5 a5 b5 c5
  rw [oset_oset]
  replace c5 : PoolL q5 (n + 5) := c5.mono (by omega)
  have l1 := low_bound (x := r1 - 9) (y := 1 + r2) (m := 10 ^ 7) (by omega) (by omega) (by decide)
  have l2 := low_bound (x := r3 - 10 ^ 6) (y := 1 + r4) (m := 10 ^ 7) (by omega) (by omega) (by decide)
  have : r5 = 0 ∨ r5 = 1 ∨ r5 = 2 ∨ r5 = 3 := by omega
  rcases this with rfl | rfl | rfl | rfl
  · refine lr_ix rfl rfl (k _ _ _ rfl (by decide) (by decide) c5)
  · refine lr_ix rfl rfl (k _ _ _ rfl (by decide) (by decide) c5)
  · refine lr_ix rfl rfl (k _ _ _ (isPt_low _ _) l1.1 l1.2 c5)
  · refine lr_ix rfl rfl (k _ _ _ (isPt_low _ _) l2.1 l2.2 c5)

/-! ### law_is_point -/
abbrev N_law_is_point : List Str := ["thing", "some"]
def t_law_is_point (G : Gs) (a : Ad) : TS :=
  (tSeq (tIfS (tOr (tNot (tTr G.K (tCB (rIsi G.K) (tCons (tVar 0) (tCons (tC (.ty "tuple")) tNil))))) (tTest (tOp (rNeU G.K) (tCB (rLen G.K) (tCons (tVar 0) tNil)) (tC (.int 2))))) (tRet (tC (.bl false))) tNext)
    (tSeq (tIfS (tTest (tOp (rNeU G.K) (tLc (iTup G.K (tVar 0)) (gName 1) (tOr (tNot (tTr G.K (tCB (rIsi G.K) (tCons (tVar 1) (tCons (tC (.ty "int")) tNil))))) (tTr G.K (tCB (rIsi G.K) (tCons (tVar 1) (tCons (tC (.ty "bool")) tNil))))) (tC (.int 1)) [1]) (tLst tNil))) (tRet (tC (.bl false))) tNext)
    (tRet (tAndV (tOp (rNeU G.K) (tVar 0) (tTup (tCons (tC (.int 0)) (tCons (tC (.int 0)) tNil)))) (tOp (rEqU G.K) (tCall (spD G (F_law_low a)) [] E0 (tCons (tOp (rIx G.K) (tVar 0) (tC (.int 0))) (tCons (tOp (rIx G.K) (tVar 0) (tC (.int 1))) tNil))) (tVar 0))))))
/-- a pair of numbers is of no more than so many digits -/
def smallPt (d : PyData) : Prop := ∀ x y : Int, d = .tuple [.int x, .int y] → x.natAbs < 10 ^ 1700 ∧ y.natAbs < 10 ^ 1700
def F_law_is_point (a : Ad) : DSp := fun ds O κ _ => ∃ d : PyData, ds = [.py d] ∧ smallPt d ∧ κ (.py (.bool (isPt d))) O
theorem len_law_is_point (a : Ad) : ∀ ds O κ ε, F_law_is_point a ds O κ ε → ds.length = (["thing"] : List Str).length := by
  rintro _ O κ ε ⟨d, rfl, _⟩
  rfl
def odd1 : D → Bool
  | .py d => !pyInt d
  | _ => true
theorem ls_law_is_point {G : Gs} {a : Ad} : ∀ (B0 : Hp) ds O κ ε, F_law_is_point a ds O κ ε → LS G B0 (t_law_is_point G a) (startR N_law_is_point ds) O (fun _ O' => κ (.py .none) O') κ (fun _ _ => False) (fun _ _ => False) := by
  rintro B0 _ O κ ε ⟨d, rfl, sm, k⟩
  unfold t_law_is_point
  walk_at "l"
  refine lc_isi (kit_tuple d) ?_
  cases d with
  | none => walk_at "l"; refine ifNT ?_; walk_at "l"; exact k
  | bool b => walk_at "l"; refine ifNT ?_; walk_at "l"; exact k
  | int b => walk_at "l"; refine ifNT ?_; walk_at "l"; exact k
  | str b => walk_at "l"; refine ifNT ?_; walk_at "l"; exact k
  | list b => walk_at "l"; refine ifNT ?_; walk_at "l"; exact k
  | dict b => walk_at "l"; refine ifNT ?_; walk_at "l"; exact k
  | tuple ds =>
    walk_at "l"
    refine ifNF ?_
    walk_at "l"
    refine if_ndec (fun h => ?_) (fun h => ?_)
    · walk_at "l"
      rw [isPt_not h] at k
      exact k
    · obtain ⟨x, y, rfl⟩ := two_of h
      walk_at "l"
      refine le_map (fun _ => .int 1) odd1 (gin_name List.mem_cons_self) (li_tup ?_)
      walk_at "l"
      refine ⟨by show 2 < 100000; decide, ?_, ?_⟩
      · intro e he r acc hr
        obtain ⟨e, rfl⟩ : ∃ e', e = .py e' := by
          simp only [List.map_cons, List.map_nil, List.mem_cons, List.not_mem_nil, or_false] at he
          rcases he with rfl | rfl <;> exact ⟨_, rfl⟩
        walk_at "l"
        refine ⟨rfl, ?_⟩
        walk_at "l"
        refine lc_isi (kit_int e) ?_
        walk_at "l"
        refine if_b (fun h1 => ?_) (fun h1 => ?_)
        · refine ⟨rfl, ?_, fun _ => ?_⟩
          · cases e <;> first | rfl | cases h1
          · walk_at "l"
            exact ⟨rfl, rfl⟩
        · walk_at "l"
          refine lc_isi (kit_bool e) ?_
          walk_at "l"
          refine ⟨rfl, ?_, fun _ => ?_⟩
          · cases e <;> first | rfl | cases h1
          · walk_at "l"
            exact ⟨rfl, rfl⟩
      · walk_at "l"
        cases hx : pyInt x with
        | false =>
          rw [isPt_x hx] at k
          cases hy : pyInt y with
          | false =>
            simp only [List.map, List.filter, odd1, hx, hy, Bool.not_false]
            refine lr_ne rfl rfl (by decide +kernel) (by decide +kernel) ?_
            walk_at "l"
            refine ifT ?_
            walk_at "l"
            exact k
          | true =>
            simp only [List.map, List.filter, odd1, hx, hy, Bool.not_false, Bool.not_true]
            refine lr_ne rfl rfl (by decide +kernel) (by decide +kernel) ?_
            walk_at "l"
            refine ifT ?_
            walk_at "l"
            exact k
        | true =>
          cases hy : pyInt y with
          | false =>
            rw [isPt_y hy] at k
            simp only [List.map, List.filter, odd1, hx, hy, Bool.not_false, Bool.not_true]
            refine lr_ne rfl rfl (by decide +kernel) (by decide +kernel) ?_
            walk_at "l"
            refine ifT ?_
            walk_at "l"
            exact k
          | true =>
            simp only [List.map, List.filter, odd1, hx, hy, Bool.not_false, Bool.not_true]
            refine lr_ne rfl rfl (by decide +kernel) (by decide +kernel) ?_
            walk_at "l"
            refine ifF ?_
            obtain ⟨i, rfl⟩ := int_of hx
            obtain ⟨j, rfl⟩ := int_of hy
            obtain ⟨b1, b2⟩ := sm i j rfl
            walk_at "l"
            refine lr_ne rfl rfl rfl rfl ?_
            rw [← isPt_by_low] at k
            walk_at "l"
            refine if_b (fun h0 => ?_) (fun h0 => ?_)
            · walk_at "l"
              refine ⟨b1, b2, ?_⟩
              walk_at "l"
              refine lr_eq rfl rfl rfl rfl ?_
              rw [h0, Bool.true_and] at k
              exact k
            · rw [h0, Bool.false_and] at k
              exact k

/-! ### law_right -/
abbrev N_law_right : List Str := ["pool", "top", "bottom", "factor", "things", "thing", "due", "kept"]
def t_law_right (G : Gs) (a : Ad) : TS :=
  (tSeq (tAsg (tCall (spD G (F_law_any_point a)) [] E0 (tCons (tVar 0) tNil)) (gTup G.K 2 (gCons (gName 1) (gCons (gName 2) gNil))))
    (tSeq (tAsg (tOp (rIx G.K) (tLst (tCons (tC (.int 2)) (tCons (tUn rNeg (tC (.int 1))) (tCons (tC (.int 3)) (tCons (tC (.int 0)) (tCons (tC (.int 7)) tNil)))))) (tCall (spD G (F_law_draw a)) [] E0 (tCons (tVar 0) (tCons (tC (.int 5)) tNil)))) (gName 3))
    (tSeq (tAsg (tLst (tCons (tTup (tCons (tVar 1) (tCons (tVar 2) tNil))) (tCons (tTup (tCons (tOp rMulU (tVar 1) (tVar 3)) (tCons (tOp rMulU (tVar 2) (tVar 3)) tNil))) (tCons (tTup (tCons (tVar 1) (tCons (tOp rSubU (tC (.int 0)) (tVar 2)) tNil))) (tCons (tTup (tCons (tOp rSubU (tC (.int 0)) (tVar 1)) (tCons (tVar 2) tNil))) (tCons (tTup (tCons (tVar 1) (tCons (tC (.int 0)) tNil))) (tCons (tTup (tCons (tC (.int 0)) (tCons (tVar 1) tNil))) tNil))))))) (gName 4))
    (tSeq (tAsg (tOp rAddU (tVar 4) (tLst (tCons (tTup (tCons (tC (.int 0)) (tCons (tC (.int 0)) tNil))) (tCons (tTup (tCons (tC (.int 0)) (tCons (tC (.int 1)) tNil))) (tCons (tTup (tCons (tC (.int 1)) (tCons (tC (.int 0)) tNil))) (tCons (tTup (tCons (tUn rNeg (tC (.int 1))) (tCons (tC (.int 0)) tNil))) (tCons (tTup (tCons (tC (.int 0)) (tCons (tC (.int 2)) tNil))) (tCons (tTup (tCons (tC (.int 2)) (tCons (tC (.int 0)) tNil))) (tCons (tTup (tCons (tC (.int 1)) (tCons (tC (.int 1)) tNil))) (tCons (tTup (tCons (tC (.int 1)) tNil)) (tCons (tTup tNil) (tCons (tTup (tCons (tC (.int 1)) (tCons (tC (.int 2)) (tCons (tC (.int 3)) tNil)))) tNil)))))))))))) (gName 4))
    (tSeq (tAsg (tOp rAddU (tVar 4) (tLst (tCons (tLst (tCons (tC (.int 1)) (tCons (tC (.int 2)) tNil))) (tCons (tC .non) (tCons (tC (.int 0)) (tCons (tC (.str "")) tNil)))))) (gName 4))
    (tSeq (tAsg (tOp rAddU (tVar 4) (tLst (tCons (tTup (tCons (tC (.bl true)) (tCons (tC (.int 1)) tNil))) (tCons (tTup (tCons (tC (.int 1)) (tCons (tC (.bl true)) tNil))) (tCons (tTup (tCons (tC (.int 1)) (tCons (tC (.bl false)) tNil))) (tCons (tTup (tCons (tC (.str "1")) (tCons (tC (.int 2)) tNil))) (tCons (tTup (tCons (tC (.int 1)) (tCons (tC .non) tNil))) (tCons (tTup (tCons (tTup (tCons (tC (.int 1)) (tCons (tC (.int 2)) tNil))) (tCons (tC (.int 1)) tNil))) (tCons (tC (.str "12")) (tCons (tDisp [(tC (kV (.inl 1)), (tC (.int 2)))]) (tCons (tOp rPowU (tC (.int 10)) (tC (.int 40))) tNil))))))))))) (gName 4))
    (tSeq (tAsg (tOp rAddU (tVar 4) (tLst (tCons (tTup (tCons (tOp rAddU (tOp rPowU (tC (.int 10)) (tC (.int 40))) (tC (.int 1))) (tCons (tOp rPowU (tC (.int 10)) (tC (.int 40))) tNil))) (tCons (tTup (tCons (tOp rAddU (tVar 1) (tC (.int 1))) (tCons (tVar 2) tNil))) (tCons (tTup (tCons (tVar 1) (tCons (tOp rAddU (tVar 2) (tC (.int 1))) tNil))) (tCons (tLst (tCons (tVar 1) (tCons (tVar 2) tNil))) tNil)))))) (gName 4))
    (tSeq (tFor (iList G.K (tVar 4)) (gName 5) (tSeq (tPar 6 7 (tCons (tCall (spD G (F_law_is_point a)) [] E0 (tCons (tVar 5) tNil)) (tCons (tCB (rRepr G.K) (tCons (tVar 5) tNil)) tNil)))
    (tIfS (tOr (tTest (tOp (rNeU G.K) (tCB (rRepr G.K) (tCons (tLst (tCons (tCall (spD G (F_is_point a)) [] E0 (tCons (tVar 5) tNil)) (tCons (tCallNS 0 1 (spD G (F_is_point a)) [0] (fun _ => E0) tNil (tCons (tVar 5) tNil)) tNil))) tNil)) (tCB (rRepr G.K) (tCons (tLst (tCons (tVar 6) (tCons (tVar 6) tNil))) tNil)))) (tTest (tOp (rNeU G.K) (tCB (rRepr G.K) (tCons (tVar 5) tNil)) (tVar 7)))) (tRet (tC (.bl false))) tNext)))
    (tRet (tC (.bl true)))))))))))
def F_law_right (a : Ad) : DSp := fun ds O κ _ => ∃ (p : Addr) (q : List PyData) (n : Int), ds = [.own p] ∧ O p = some q ∧ PoolL q n ∧ n ≤ 400000 ∧ ∀ q', PoolL q' (n + 6) → κ (.py (.bool true)) (oset O p q')
theorem len_law_right (a : Ad) : ∀ ds O κ ε, F_law_right a ds O κ ε → ds.length = (["pool"] : List Str).length := by
  rintro _ O κ ε ⟨p, q, n, rfl, _⟩
  rfl
theorem smallPt_of {d : PyData} (h : thOK d) : smallPt d := by
  rintro x y rfl
  rcases h with ⟨ds, e, _⟩ | ⟨⟨h1, h2, _⟩, _⟩
  · cases e
  · have e : (2 : Nat) ^ 1900 ≤ 10 ^ 1700 := by decide +kernel
    exact ⟨Nat.lt_of_lt_of_le h1 e, Nat.lt_of_lt_of_le h2 e⟩
theorem ls_law_right {G : Gs} {a : Ad} : ∀ (B0 : Hp) ds O κ ε, F_law_right a ds O κ ε → LS G B0 (t_law_right G a) (startR N_law_right ds) O (fun _ O' => κ (.py .none) O') κ (fun _ _ => False) (fun _ _ => False) := by
  rintro B0 _ O κ ε ⟨p, q, n, rfl, hO, hq, hn, k⟩
  unfold t_law_right
  walk_at "l"
  refine ⟨p, q, n, rfl, hO, hq, by omega, fun top bot q1 hpt ht hb hq1 => ?_⟩
  walk_at "l"
  walk_at "d"
  intro r q2 r0 r1 hq2
  rw [oset_oset]
  have hf : ∃ f : Int, atI [PyData.int 2, .int (-1), .int 3, .int 0, .int 7] r = some (.int f) ∧ f.natAbs ≤ 7 := by
    have : r = 0 ∨ r = 1 ∨ r = 2 ∨ r = 3 ∨ r = 4 := by omega
    rcases this with rfl | rfl | rfl | rfl | rfl <;> exact ⟨_, rfl, by decide⟩
  obtain ⟨f, hf, f7⟩ := hf
  have tf : (top * f).natAbs ≤ 10 ^ 8 := by
    rw [Int.natAbs_mul]
    exact Nat.le_trans (Nat.mul_le_mul ht f7) (by decide)
  have bf : (bot * f).natAbs ≤ 10 ^ 8 := by
    rw [Int.natAbs_mul]
    exact Nat.le_trans (Nat.mul_le_mul hb f7) (by decide)
  refine lr_ix rfl hf ?_
  walk_at "k"
  refine le_disp1 (.int _) ?_
  walk_at "k"
  refine ls_forP thOK (fun ρ' O' => ρ'.length = 8 ∧ O' = oset O p q2) ?_ ?_ ?_
  · walk_at "l"
    refine ⟨?_, rfl, rfl⟩
    walk_at "all"
    all_goals first
      | (refine .inl ⟨_, rfl, ?_, ?_, ?_⟩ <;> decide +kernel)
      | (refine .inr ⟨?tha, ?thb, dpk rfl⟩; (case thb => first | exact szk rfl | decide +kernel); (case tha => walk_at "ok"))
  · rintro d ρ' O' he ⟨hl, rfl⟩
    obtain ⟨x0, x1, x2, x3, x4, x5, x6, x7, rfl⟩ := eight_of hl
    walk_at "l"
    refine ⟨smallPt_of he, ?_⟩
    walk_at "l"
    refine lc_reprT he ?_
    walk_at "l"
    refine ⟨rfl, ?_⟩
    walk_at "l"
    refine lc_repr rfl (okR_lst (okRs_cons okR_bool (okRs_cons okR_bool okRs_nil))) (szk rfl) (dpk rfl) ?_
    walk_at "l"
    refine lc_repr rfl (okR_lst (okRs_cons okR_bool (okRs_cons okR_bool okRs_nil))) (szk rfl) (dpk rfl) ?_
    walk_at "l"
    refine if_nn rfl ?_
    walk_at "l"
    refine lc_reprT he ?_
    walk_at "l"
    refine if_nn rfl ?_
    walk_at "l"
    exact ⟨rfl, rfl⟩
  · rintro ρ' O' ⟨_, rfl⟩
    walk_at "l"
    exact k q2 (hq2.mono (by omega))

/-! ### law -/
abbrev N_law : List Str := ["script", "spot", "pool", "turn"]
def t_law (G : Gs) (a : Ad) : TS :=
  (tSeq (tFor (iRng1 (tCons (tCB rMx (tCons (tC (.int 1)) (tCons (tCB rMn (tCons (tC (.int 6)) (tCons (tCB (rLen G.K) (tCons (tVar 0) tNil)) tNil))) tNil))) tNil)) (gName 1) (tSeq (tAsg (tCall (spD G (F_law_pool a)) [] E0 (tCons (tVar 0) (tCons (tVar 1) tNil))) (gName 2))
    (tFor (iRng1 (tCons (tC (.int 4)) tNil)) (gName 3) (tIfS (tNot (tTr G.K (tCallS (spD G (F_law_right a)) (fun _ => E0) (tCons (tVar 2) tNil)))) (tRet (tC (.bl false))) tNext))))
    (tRet (tC (.bl true))))
def F_law (a : Ad) : DSp := fun ds O κ _ => ∃ ns : List Int, ds = [.sc ns] ∧ ns.length ≤ 63 ∧ ∀ O', κ (.py (.bool true)) O'
theorem len_law (a : Ad) : ∀ ds O κ ε, F_law a ds O κ ε → ds.length = (["script"] : List Str).length := by
  rintro _ O κ ε ⟨ns, rfl, _⟩
  rfl
theorem ls_law {G : Gs} {a : Ad} : ∀ (B0 : Hp) ds O κ ε, F_law a ds O κ ε → LS G B0 (t_law G a) (startR N_law ds) O (fun _ O' => κ (.py .none) O') κ (fun _ _ => False) (fun _ _ => False) := by
  rintro B0 _ O κ ε ⟨ns, rfl, hl, k⟩
  unfold t_law
  refine ls_seq ?_
  refine ls_for (li_rng1 ?_)
  walk_at "l"
  refine ⟨by omega, by omega, fun i ρ' _ => ρ'.length = 4 ∧ ρ'[0]? = some (some (.sc ns)), ⟨rfl, rfl⟩, ?_, ?_⟩
  · rintro i d ρ' O' hd ⟨hr, h0⟩
    obtain ⟨rfl, hi⟩ := rngD_get hd
    obtain ⟨a0, a1, a2, a3, rfl⟩ := four_of hr
    cases h0
    walk_at "k"
    refine ⟨by omega, by omega, fun p q hp hq => ?_⟩
    refine ls_for (li_rng1 ?_)
    walk_at "l"
    refine ⟨by decide, by decide, fun j ρ' O2 => ∃ q x, ρ' = [some (.sc ns), some (.py (.int (0 + (i : Int)))), some (.own p), x] ∧ O2 p = some q ∧ PoolL q ((j : Int) * 6), ⟨q, _, rfl, oset_same, by simpa using hq⟩, ?_, ?_⟩
    · rintro j d ρ' O2 hd2 ⟨q2, x, rfl, ho, hp2⟩
      obtain ⟨rfl, hj⟩ := rngD_get hd2
      have hj : j < 4 := hj
      walk_at "k"
      walk_at "le"
      walk_at "le"
      walk_at "le"
      refine le_callG ?_
      walk_at "l"
      refine ⟨p, q2, _, rfl, ho, hp2, by omega, fun q3 hq3 => ?_⟩
      walk_at "l"
      refine ⟨q3, _, rfl, oset_same, ?_⟩
      have e : ((j + 1 : Nat) : Int) * 6 = (j : Int) * 6 + 6 := by omega
      rw [e]
      exact hq3
    · rintro ρ' O2 ⟨q2, x, rfl, _⟩
      exact ⟨rfl, rfl⟩
  · intro ρ' O' h
    walk_at "l"
    exact k _



def topS (i : Nat) : Stmt := PySem.Challenge.pw_closechains_k02_what_is_a_point.main.body.getD i (.Pass ⟨0, 0, 0, 0⟩)
abbrev s_is_whole : Stmt := topS 3
theorem sc_is_whole : FnScope N_is_whole ["value"] (defScope s_is_whole) := ⟨rfl, rfl, rfl, by decide +kernel, rfl, by decide +kernel, by decide +kernel⟩
abbrev s_is_point : Stmt := topS 2
theorem sc_is_point : FnScope N_is_point ["value"] (defScope s_is_point) := ⟨rfl, rfl, rfl, by decide +kernel, rfl, by decide +kernel, by decide +kernel⟩
abbrev s_law_pool : Stmt := topS 5
theorem sc_law_pool : FnScope N_law_pool ["script", "spot"] (defScope s_law_pool) := ⟨rfl, rfl, rfl, by decide +kernel, rfl, by decide +kernel, by decide +kernel⟩
abbrev s_law_draw : Stmt := topS 6
theorem sc_law_draw : FnScope N_law_draw ["pool", "span"] (defScope s_law_draw) := ⟨rfl, rfl, rfl, by decide +kernel, rfl, by decide +kernel, by decide +kernel⟩
abbrev s_law_low : Stmt := topS 7
theorem sc_law_low : FnScope N_law_low ["over", "under"] (defScope s_law_low) := ⟨rfl, rfl, rfl, by decide +kernel, rfl, by decide +kernel, by decide +kernel⟩
abbrev s_law_any_point : Stmt := topS 8
theorem sc_law_any_point : FnScope N_law_any_point ["pool"] (defScope s_law_any_point) := ⟨rfl, rfl, rfl, by decide +kernel, rfl, by decide +kernel, by decide +kernel⟩
abbrev s_law_is_point : Stmt := topS 9
theorem sc_law_is_point : FnScope N_law_is_point ["thing"] (defScope s_law_is_point) := ⟨rfl, rfl, rfl, by decide +kernel, rfl, by decide +kernel, by decide +kernel⟩
abbrev s_law_right : Stmt := topS 10
theorem sc_law_right : FnScope N_law_right ["pool"] (defScope s_law_right) := ⟨rfl, rfl, rfl, by decide +kernel, rfl, by decide +kernel, by decide +kernel⟩
abbrev s_law : Stmt := topS 11
theorem sc_law : FnScope N_law ["script"] (defScope s_law) := ⟨rfl, rfl, rfl, by decide +kernel, rfl, by decide +kernel, by decide +kernel⟩
structure Fs where
  (f_is_whole f_is_point f_law_pool f_law_draw f_law_low f_law_any_point f_law_is_point f_law_right f_law : Addr)
structure Txt (K : PySem.W.Frag) (mg : Str → Option Value) (a : Ad) (q : Fs) : Prop where
  g_is_whole : mg "_is_whole" = some (.ref q.f_is_whole)
  k_is_whole : PySem.W.keepIn K (.ref q.f_is_whole) = true
  g_is_point : mg "is_point" = some (.ref q.f_is_point)
  k_is_point : PySem.W.keepIn K (.ref q.f_is_point) = true
  g_law_pool : mg "_law_pool" = some (.ref q.f_law_pool)
  k_law_pool : PySem.W.keepIn K (.ref q.f_law_pool) = true
  g_law_draw : mg "_law_draw" = some (.ref q.f_law_draw)
  k_law_draw : PySem.W.keepIn K (.ref q.f_law_draw) = true
  g_law_low : mg "_law_low" = some (.ref q.f_law_low)
  k_law_low : PySem.W.keepIn K (.ref q.f_law_low) = true
  g_law_any_point : mg "_law_any_point" = some (.ref q.f_law_any_point)
  k_law_any_point : PySem.W.keepIn K (.ref q.f_law_any_point) = true
  g_law_is_point : mg "_law_is_point" = some (.ref q.f_law_is_point)
  k_law_is_point : PySem.W.keepIn K (.ref q.f_law_is_point) = true
  g_law_right : mg "_law_right" = some (.ref q.f_law_right)
  k_law_right : PySem.W.keepIn K (.ref q.f_law_right) = true
  g_law : mg "law" = some (.ref q.f_law)
  k_law : PySem.W.keepIn K (.ref q.f_law) = true
  n_abs : mg "abs" = none
  n_bool : mg "bool" = none
  n_int : mg "int" = none
  n_isinstance : mg "isinstance" = none
  n_len : mg "len" = none
  n_max : mg "max" = none
  n_min : mg "min" = none
  n_range : mg "range" = none
  n_repr : mg "repr" = none
  n_tuple : mg "tuple" = none
  x_gcd : mg "gcd" = some (.builtin "math.gcd")
section
variable {P : Program} {w : World} {K : PySem.W.Frag} {mg : Str → Option Value} {base : Heap} {a : Ad} {q : Fs}
theorem ok_is_whole {fd : FuncData} (Fu : Fun K "_is_whole" "_is_whole" s_is_whole q.f_is_whole fd) (T : Txt K mg a q) : FnOk P w K mg base CX0 1 q.f_is_whole fd ["value"] (spD ⟨K, a.c_Relation⟩ (F_is_whole a)) := by
  refine Fu.ok sc_is_whole (spD_len (len_is_whole a)) (fun cdv A outer s H vs Q E hr h => ⟨t_is_whole ⟨K, a.c_Relation⟩ a, ?_, body_of (ls_is_whole (G := ⟨K, a.c_Relation⟩) (a := a)) h⟩)
  exact (pss_one (ps_ret (pe_and (pe_callB call_isi (by rfl) T.n_isinstance (by decide +kernel) (pa_cons (pv 0) (pa_cons (pe_bltn (by rfl) T.n_int (by decide +kernel) rfl) pa_nil))) (pe_one (pe_not (pe_callB call_isi (by rfl) T.n_isinstance (by decide +kernel) (pa_cons (pv 0) (pa_cons (pe_bltn (by rfl) T.n_bool (by decide +kernel) rfl) pa_nil))))))))
theorem ok_is_point {fd : FuncData} (Fu : Fun K "is_point" "is_point" s_is_point q.f_is_point fd) (T : Txt K mg a q)
    {fd_is_whole : FuncData} (O_is_whole : FnOk P w K mg base CX0 1 q.f_is_whole fd_is_whole ["value"] (spD ⟨K, a.c_Relation⟩ (F_is_whole a))) (b_is_whole : Binds K fd_is_whole ["value"] []) : FnOk P w K mg base CX0 2 q.f_is_point fd ["value"] (spD ⟨K, a.c_Relation⟩ (F_is_point a)) := by
  refine Fu.ok sc_is_point (spD_len (len_is_point a)) (fun cdv A outer s H vs Q E hr h => ⟨t_is_point ⟨K, a.c_Relation⟩ a, ?_, body_of (ls_is_point (G := ⟨K, a.c_Relation⟩) (a := a)) h⟩)
  exact (pss_cons (ps_if (PW.pt (pw_or (pt_not (pt_truth (pe_callB call_isi (by rfl) T.n_isinstance (by decide +kernel) (pa_cons (pv 0) (pa_cons (pe_bltn (by rfl) T.n_tuple (by decide +kernel) rfl) pa_nil))) (by intro _; rfl))) (pw_or1 (pt_cmpR (op_neU hr.units) (pe_callB cr_len (by rfl) T.n_len (by decide +kernel) (pa_cons (pv 0) pa_nil)) pe_int (nomark _))))) (pss_one (ps_ret pe_bl)) pss_nil)
    (pss_cons (ps_asg (pv 0) (pg_tup rfl (pgs_cons (pg_name (i := 1) sc_is_point.nd rfl (Or.inl rfl)) (pgs_cons (pg_name (i := 2) sc_is_point.nd rfl (Or.inl rfl)) pgs_nil))))
    (pss_cons (ps_if (PW.pt (pw_or (pt_not (pt_truth (pe_call O_is_whole (hr.mono (by decide)) rfl T.g_is_whole T.k_is_whole b_is_whole .nil pass0 (pa_cons (pv 1) pa_nil)) (by intro _; rfl))) (pw_or1 (pt_not (pt_truth (pe_call O_is_whole (hr.mono (by decide)) rfl T.g_is_whole T.k_is_whole b_is_whole .nil pass0 (pa_cons (pv 2) pa_nil)) (by intro _; rfl)))))) (pss_one (ps_ret pe_bl)) pss_nil)
    (pss_cons (ps_if (pt_cmpR (op_eqU hr.units) (pv 2) pe_int (nomark _)) (pss_one (ps_ret (pe_cmpR (op_eqU hr.units) (pv 1) pe_int (nomark _)))) pss_nil)
    (pss_one (ps_ret (pe_and (pe_cmpR op_gtU (pv 2) pe_int (nomark _)) (pe_one (pe_cmpR (op_eqU hr.units) (pe_callBfun cr_gcd rfl T.x_gcd (pa_cons (pv 1) (pa_cons (pv 2) pa_nil))) pe_int (nomark _))))))))))
theorem ok_law_pool {fd : FuncData} (Fu : Fun K "_law_pool" "_law_pool" s_law_pool q.f_law_pool fd) (T : Txt K mg a q) : FnOk P w K mg base CX0 1 q.f_law_pool fd ["script", "spot"] (spD ⟨K, a.c_Relation⟩ (F_law_pool a)) := by
  refine Fu.ok sc_law_pool (spD_len (len_law_pool a)) (fun cdv A outer s H vs Q E hr h => ⟨t_law_pool ⟨K, a.c_Relation⟩ a, ?_, body_of (ls_law_pool (G := ⟨K, a.c_Relation⟩) (a := a)) h⟩)
  exact (pss_cons (ps_set (i := 2) sc_law_pool.nd rfl (Or.inl rfl) pe_int)
    (pss_cons (ps_if (pt_cmpR op_ltU (pv 1) (pe_callB cr_len (by rfl) T.n_len (by decide +kernel) (pa_cons (pv 0) pa_nil)) (nomark _)) (pss_one (ps_set (i := 2) sc_law_pool.nd rfl (Or.inl rfl) (pe_ix ix_seq (pv 0) (pv 1) (fun _ _ => rfl)))) pss_nil)
    (pss_one (ps_ret (pe_lst (pa_cons (pe_callB (cr_mx rfl) (by rfl) T.n_max (by decide +kernel) (pa_cons pe_int (pa_cons (pe_op op_subU (pe_callB cr_abs (by rfl) T.n_abs (by decide +kernel) (pa_cons (pv 2) pa_nil)) (pe_op op_powU pe_int pe_int)) pa_nil))) (pa_cons (pe_op op_addU (pe_op op_modU (pe_callTy cr_int (by rfl) T.n_int (by decide +kernel) (pa_cons (pv 2) pa_nil)) pe_int) (pe_op op_mulU pe_int (pe_op op_addU (pv 1) pe_int))) (pa_cons pe_int pa_nil))))))))
theorem ok_law_draw {fd : FuncData} (Fu : Fun K "_law_draw" "_law_draw" s_law_draw q.f_law_draw fd) (T : Txt K mg a q) : FnOk P w K mg base CX0 1 q.f_law_draw fd ["pool", "span"] (spD ⟨K, a.c_Relation⟩ (F_law_draw a)) := by
  refine Fu.ok sc_law_draw (spD_len (len_law_draw a)) (fun cdv A outer s H vs Q E hr h => ⟨t_law_draw ⟨K, a.c_Relation⟩ a, ?_, body_of (ls_law_draw (G := ⟨K, a.c_Relation⟩) (a := a)) h⟩)
  exact (pss_cons (ps_if (pt_cmpR op_gtU (pe_ix ix_seq (pv 0) pe_int (fun _ _ => rfl)) pe_int (nomark _)) (pss_cons (ps_set (i := 2) sc_law_draw.nd rfl (Or.inl rfl) (pe_op op_modU (pe_callTy cr_int (by rfl) T.n_int (by decide +kernel) (pa_cons (pe_ix ix_seq (pv 0) pe_int (fun _ _ => rfl)) pa_nil)) (pv 1)))
    (pss_cons (ps_asg (pe_op op_fdivU (pe_ix ix_seq (pv 0) pe_int (fun _ _ => rfl)) (pv 1)) (pg_sub (pv 0) pe_int set_list))
    (pss_one (ps_ret (pv 2))))) pss_nil)
    (pss_cons (ps_asg (pe_op op_addU (pe_ix ix_seq (pv 0) pe_int (fun _ _ => rfl)) pe_int) (pg_sub (pv 0) pe_int set_list))
    (pss_cons (ps_set (i := 3) sc_law_draw.nd rfl (Or.inl rfl) (pe_op op_modU (pe_callTy cr_int (by rfl) T.n_int (by decide +kernel) (pa_cons (pe_op op_powU (pe_op op_addU (pe_ix ix_seq (pv 0) pe_int (fun _ _ => rfl)) (pe_op op_mulU pe_int (pe_ix ix_seq (pv 0) pe_int (fun _ _ => rfl)))) pe_int) pa_nil)) pe_int))
    (pss_cons (ps_set (i := 3) sc_law_draw.nd rfl (Or.inl rfl) (pe_op op_modU (pe_callTy cr_int (by rfl) T.n_int (by decide +kernel) (pa_cons (pe_op op_powU (pe_op op_addU (pv 3) (pe_op op_mulU pe_int (pe_ix ix_seq (pv 0) pe_int (fun _ _ => rfl)))) pe_int) pa_nil)) pe_int))
    (pss_one (ps_ret (pe_op op_modU (pe_callTy cr_int (by rfl) T.n_int (by decide +kernel) (pa_cons (pe_op op_fdivU (pv 3) pe_int) pa_nil)) (pv 1))))))))
theorem ok_law_low {fd : FuncData} (Fu : Fun K "_law_low" "_law_low" s_law_low q.f_law_low fd) (T : Txt K mg a q) : FnOk P w K mg base CX0 1 q.f_law_low fd ["over", "under"] (spD ⟨K, a.c_Relation⟩ (F_law_low a)) := by
  refine Fu.ok sc_law_low (spD_len (len_law_low a)) (fun cdv A outer s H vs Q E hr h => ⟨t_law_low ⟨K, a.c_Relation⟩ a, ?_, body_of (ls_law_low (G := ⟨K, a.c_Relation⟩) (a := a)) h⟩)
  exact (pss_cons (ps_if (pt_cmpR (op_eqU hr.units) (pv 1) pe_int (nomark _)) (pss_one (ps_ret (pe_tup (pa_cons pe_int (pa_cons pe_int pa_nil))))) pss_nil)
    (pss_cons (ps_par rfl sc_law_low.nd rfl rfl (by decide) rfl rfl (pa_cons (pe_callB cr_abs (by rfl) T.n_abs (by decide +kernel) (pa_cons (pv 0) pa_nil)) (pa_cons (pe_callB cr_abs (by rfl) T.n_abs (by decide +kernel) (pa_cons (pv 1) pa_nil)) pa_nil)) (by rfl))
    (pss_cons (ps_while PassesOwn.never (pt_cmpR (op_neU hr.units) (pv 3) pe_int (nomark _)) (pss_one (ps_par rfl sc_law_low.nd rfl rfl (by decide) rfl rfl (pa_cons (pv 3) (pa_cons (pe_op op_modU (pe_callTy cr_int (by rfl) T.n_int (by decide +kernel) (pa_cons (pv 2) pa_nil)) (pv 3)) pa_nil)) (by rfl))))
    (pss_cons (ps_set (i := 2) sc_law_low.nd rfl (Or.inl rfl) (pe_ifExp (pt_cmpR op_gtU (pv 1) pe_int (nomark _)) (pv 2) (pe_op op_subU pe_int (pv 2))))
    (pss_one (ps_ret (pe_tup (pa_cons (pe_op op_fdivU (pv 0) (pv 2)) (pa_cons (pe_op op_fdivU (pv 1) (pv 2)) pa_nil)))))))))
theorem ok_law_any_point {fd : FuncData} (Fu : Fun K "_law_any_point" "_law_any_point" s_law_any_point q.f_law_any_point fd) (T : Txt K mg a q)
    {fd_law_low : FuncData} (O_law_low : FnOk P w K mg base CX0 1 q.f_law_low fd_law_low ["over", "under"] (spD ⟨K, a.c_Relation⟩ (F_law_low a))) (b_law_low : Binds K fd_law_low ["over", "under"] [])
    {fd_law_draw : FuncData} (O_law_draw : FnOk P w K mg base CX0 1 q.f_law_draw fd_law_draw ["pool", "span"] (spD ⟨K, a.c_Relation⟩ (F_law_draw a))) (b_law_draw : Binds K fd_law_draw ["pool", "span"] []) : FnOk P w K mg base CX0 2 q.f_law_any_point fd ["pool"] (spD ⟨K, a.c_Relation⟩ (F_law_any_point a)) := by
  refine Fu.ok sc_law_any_point (spD_len (len_law_any_point a)) (fun cdv A outer s H vs Q E hr h => ⟨t_law_any_point ⟨K, a.c_Relation⟩ a, ?_, body_of (ls_law_any_point (G := ⟨K, a.c_Relation⟩) (a := a)) h⟩)
  exact (pss_cons (ps_set (i := 1) sc_law_any_point.nd rfl (Or.inl rfl) (pe_lst (pa_cons (pe_tup (pa_cons pe_int (pa_cons pe_int pa_nil))) (pa_cons (pe_tup (pa_cons pe_int (pa_cons pe_int pa_nil))) (pa_cons (pe_call O_law_low (hr.mono (by decide)) rfl T.g_law_low T.k_law_low b_law_low .nil pass0 (pa_cons (pe_op op_subU (pe_call O_law_draw (hr.mono (by decide)) rfl T.g_law_draw T.k_law_draw b_law_draw .nil pass0 (pa_cons (pv 0) (pa_cons pe_int pa_nil))) pe_int) (pa_cons (pe_op op_addU pe_int (pe_call O_law_draw (hr.mono (by decide)) rfl T.g_law_draw T.k_law_draw b_law_draw .nil pass0 (pa_cons (pv 0) (pa_cons pe_int pa_nil)))) pa_nil))) pa_nil)))))
    (pss_cons (ps_expr (pe_bm PySem.F.plainAttrs_list PySem.F.slot_list_append PySem.F.type_list_append mt_append (pv 1) (pa_cons (pe_call O_law_low (hr.mono (by decide)) rfl T.g_law_low T.k_law_low b_law_low .nil pass0 (pa_cons (pe_op op_subU (pe_call O_law_draw (hr.mono (by decide)) rfl T.g_law_draw T.k_law_draw b_law_draw .nil pass0 (pa_cons (pv 0) (pa_cons (pe_op op_addU (pe_op op_mulU pe_int (pe_op op_powU pe_int pe_int)) pe_int) pa_nil))) (pe_op op_powU pe_int pe_int)) (pa_cons (pe_op op_addU pe_int (pe_call O_law_draw (hr.mono (by decide)) rfl T.g_law_draw T.k_law_draw b_law_draw .nil pass0 (pa_cons (pv 0) (pa_cons (pe_op op_powU pe_int pe_int) pa_nil)))) pa_nil))) pa_nil)))
    (pss_one (ps_ret (pe_ix ix_seq (pv 1) (pe_call O_law_draw (hr.mono (by decide)) rfl T.g_law_draw T.k_law_draw b_law_draw .nil pass0 (pa_cons (pv 0) (pa_cons pe_int pa_nil))) (fun _ _ => rfl))))))
theorem ok_law_is_point {fd : FuncData} (Fu : Fun K "_law_is_point" "_law_is_point" s_law_is_point q.f_law_is_point fd) (T : Txt K mg a q)
    {fd_law_low : FuncData} (O_law_low : FnOk P w K mg base CX0 1 q.f_law_low fd_law_low ["over", "under"] (spD ⟨K, a.c_Relation⟩ (F_law_low a))) (b_law_low : Binds K fd_law_low ["over", "under"] []) : FnOk P w K mg base CX0 2 q.f_law_is_point fd ["thing"] (spD ⟨K, a.c_Relation⟩ (F_law_is_point a)) := by
  refine Fu.ok sc_law_is_point (spD_len (len_law_is_point a)) (fun cdv A outer s H vs Q E hr h => ⟨t_law_is_point ⟨K, a.c_Relation⟩ a, ?_, body_of (ls_law_is_point (G := ⟨K, a.c_Relation⟩) (a := a)) h⟩)
  exact (pss_cons (ps_if (PW.pt (pw_or (pt_not (pt_truth (pe_callB call_isi (by rfl) T.n_isinstance (by decide +kernel) (pa_cons (pv 0) (pa_cons (pe_bltn (by rfl) T.n_tuple (by decide +kernel) rfl) pa_nil))) (by intro _; rfl))) (pw_or1 (pt_cmpR (op_neU hr.units) (pe_callB cr_len (by rfl) T.n_len (by decide +kernel) (pa_cons (pv 0) pa_nil)) pe_int (nomark _))))) (pss_one (ps_ret pe_bl)) pss_nil)
    (pss_cons (ps_if (pt_cmpR (op_neU hr.units) (pe_lc (own := [("some", 1)]) (g := (gName 1)) (tt := _) rfl sc_law_is_point.nd (pi_tup (pv 0)) (blkOk_by (N := N_law_is_point) (sc := defScope s_law_is_point) (by decide +kernel)) (fun _ _ _ _ _ => (pg_name (i := 1) sc_law_is_point.nd rfl (by first | exact Or.inl rfl | exact Or.inr rfl))) (fun _ _ _ _ _ => (pts_one (PW.pt (pw_or (pt_not (pt_truth (pe_callB call_isi (by rfl) T.n_isinstance (by decide +kernel) (pa_cons (pv 1) (pa_cons (pe_bltn (by rfl) T.n_int (by decide +kernel) rfl) pa_nil))) (by intro _; rfl))) (pw_or1 (pt_truth (pe_callB call_isi (by rfl) T.n_isinstance (by decide +kernel) (pa_cons (pv 1) (pa_cons (pe_bltn (by rfl) T.n_bool (by decide +kernel) rfl) pa_nil))) (by intro _; rfl))))))) (fun _ _ _ _ _ => pe_int)) (pe_lst pa_nil) (nomark _)) (pss_one (ps_ret pe_bl)) pss_nil)
    (pss_one (ps_ret (pe_and (pe_cmpR (op_neU hr.units) (pv 0) (pe_tup (pa_cons pe_int (pa_cons pe_int pa_nil))) (nomark _)) (pe_one (pe_cmpR (op_eqU hr.units) (pe_call O_law_low (hr.mono (by decide)) rfl T.g_law_low T.k_law_low b_law_low .nil pass0 (pa_cons (pe_ix ix_seq (pv 0) pe_int (fun _ _ => rfl)) (pa_cons (pe_ix ix_seq (pv 0) pe_int (fun _ _ => rfl)) pa_nil))) (pv 0) (nomark _))))))))
theorem ok_law_right {fd : FuncData} (Fu : Fun K "_law_right" "_law_right" s_law_right q.f_law_right fd) (T : Txt K mg a q)
    {fd_law_any_point : FuncData} (O_law_any_point : FnOk P w K mg base CX0 2 q.f_law_any_point fd_law_any_point ["pool"] (spD ⟨K, a.c_Relation⟩ (F_law_any_point a))) (b_law_any_point : Binds K fd_law_any_point ["pool"] [])
    {fd_law_draw : FuncData} (O_law_draw : FnOk P w K mg base CX0 1 q.f_law_draw fd_law_draw ["pool", "span"] (spD ⟨K, a.c_Relation⟩ (F_law_draw a))) (b_law_draw : Binds K fd_law_draw ["pool", "span"] [])
    {fd_law_is_point : FuncData} (O_law_is_point : FnOk P w K mg base CX0 2 q.f_law_is_point fd_law_is_point ["thing"] (spD ⟨K, a.c_Relation⟩ (F_law_is_point a))) (b_law_is_point : Binds K fd_law_is_point ["thing"] [])
    {fd_is_point : FuncData} (O_is_point : FnOk P w K mg base CX0 2 q.f_is_point fd_is_point ["value"] (spD ⟨K, a.c_Relation⟩ (F_is_point a))) (b_is_point : Binds K fd_is_point ["value"] [])
    (kb_is_point_value : KB K fd_is_point ["value"] 0 ["value"] [0]) : FnG P w K mg base CX0 3 q.f_law_right fd ["pool"] (spD ⟨K, a.c_Relation⟩ (F_law_right a)) := by
  refine fnG_of Fu sc_law_right (spD_len (len_law_right a)) (fun cdv A outer s H vs Q E gd hr h => ⟨t_law_right ⟨K, a.c_Relation⟩ a, PSs.nox ?_, body_of (ls_law_right (G := ⟨K, a.c_Relation⟩) (a := a)) h⟩)
  exact (pss_cons (ps_asg (pe_call O_law_any_point (hr.mono (by decide)) rfl T.g_law_any_point T.k_law_any_point b_law_any_point .nil pass0 (pa_cons (pv 0) pa_nil)) (pg_tup rfl (pgs_cons (pg_name (i := 1) sc_law_right.nd rfl (Or.inl rfl)) (pgs_cons (pg_name (i := 2) sc_law_right.nd rfl (Or.inl rfl)) pgs_nil))))
    (pss_cons (ps_set (i := 3) sc_law_right.nd rfl (Or.inl rfl) (pe_ix ix_seq (pe_lst (pa_cons pe_int (pa_cons (pe_un un_negU pe_int) (pa_cons pe_int (pa_cons pe_int (pa_cons pe_int pa_nil)))))) (pe_call O_law_draw (hr.mono (by decide)) rfl T.g_law_draw T.k_law_draw b_law_draw .nil pass0 (pa_cons (pv 0) (pa_cons pe_int pa_nil))) (fun _ _ => rfl)))
    (pss_cons (ps_set (i := 4) sc_law_right.nd rfl (Or.inl rfl) (pe_lst (pa_cons (pe_tup (pa_cons (pv 1) (pa_cons (pv 2) pa_nil))) (pa_cons (pe_tup (pa_cons (pe_op op_mulU (pv 1) (pv 3)) (pa_cons (pe_op op_mulU (pv 2) (pv 3)) pa_nil))) (pa_cons (pe_tup (pa_cons (pv 1) (pa_cons (pe_op op_subU pe_int (pv 2)) pa_nil))) (pa_cons (pe_tup (pa_cons (pe_op op_subU pe_int (pv 1)) (pa_cons (pv 2) pa_nil))) (pa_cons (pe_tup (pa_cons (pv 1) (pa_cons pe_int pa_nil))) (pa_cons (pe_tup (pa_cons pe_int (pa_cons (pv 1) pa_nil))) pa_nil))))))))
    (pss_cons (ps_set (i := 4) sc_law_right.nd rfl (Or.inl rfl) (pe_op op_addU (pv 4) (pe_lst (pa_cons (pe_tup (pa_cons pe_int (pa_cons pe_int pa_nil))) (pa_cons (pe_tup (pa_cons pe_int (pa_cons pe_int pa_nil))) (pa_cons (pe_tup (pa_cons pe_int (pa_cons pe_int pa_nil))) (pa_cons (pe_tup (pa_cons (pe_un un_negU pe_int) (pa_cons pe_int pa_nil))) (pa_cons (pe_tup (pa_cons pe_int (pa_cons pe_int pa_nil))) (pa_cons (pe_tup (pa_cons pe_int (pa_cons pe_int pa_nil))) (pa_cons (pe_tup (pa_cons pe_int (pa_cons pe_int pa_nil))) (pa_cons (pe_tup (pa_cons pe_int pa_nil)) (pa_cons (pe_tup pa_nil) (pa_cons (pe_tup (pa_cons pe_int (pa_cons pe_int (pa_cons pe_int pa_nil)))) pa_nil)))))))))))))
    (pss_cons (ps_set (i := 4) sc_law_right.nd rfl (Or.inl rfl) (pe_op op_addU (pv 4) (pe_lst (pa_cons (pe_lst (pa_cons pe_int (pa_cons pe_int pa_nil))) (pa_cons pe_non (pa_cons pe_int (pa_cons pe_str pa_nil)))))))
    (pss_cons (ps_set (i := 4) sc_law_right.nd rfl (Or.inl rfl) (pe_op op_addU (pv 4) (pe_lst (pa_cons (pe_tup (pa_cons pe_bl (pa_cons pe_int pa_nil))) (pa_cons (pe_tup (pa_cons pe_int (pa_cons pe_bl pa_nil))) (pa_cons (pe_tup (pa_cons pe_int (pa_cons pe_bl pa_nil))) (pa_cons (pe_tup (pa_cons pe_str (pa_cons pe_int pa_nil))) (pa_cons (pe_tup (pa_cons pe_int (pa_cons pe_non pa_nil))) (pa_cons (pe_tup (pa_cons (pe_tup (pa_cons pe_int (pa_cons pe_int pa_nil))) (pa_cons pe_int pa_nil))) (pa_cons pe_str (pa_cons (pe_disp (pps_cons pe_int pe_int pps_nil) (by rfl) (by rfl) (by simp) (by decide)) (pa_cons (pe_op op_powU pe_int pe_int) pa_nil))))))))))))
    (pss_cons (ps_set (i := 4) sc_law_right.nd rfl (Or.inl rfl) (pe_op op_addU (pv 4) (pe_lst (pa_cons (pe_tup (pa_cons (pe_op op_addU (pe_op op_powU pe_int pe_int) pe_int) (pa_cons (pe_op op_powU pe_int pe_int) pa_nil))) (pa_cons (pe_tup (pa_cons (pe_op op_addU (pv 1) pe_int) (pa_cons (pv 2) pa_nil))) (pa_cons (pe_tup (pa_cons (pv 1) (pa_cons (pe_op op_addU (pv 2) pe_int) pa_nil))) (pa_cons (pe_lst (pa_cons (pv 1) (pa_cons (pv 2) pa_nil))) pa_nil)))))))
    (pss_cons (ps_for PassesOwn.never rfl (pi_list (pv 4)) (pg_name (i := 5) sc_law_right.nd rfl (Or.inl rfl)) (pss_cons (ps_par rfl sc_law_right.nd rfl rfl (by decide) rfl rfl (pa_cons (pe_call O_law_is_point (hr.mono (by decide)) rfl T.g_law_is_point T.k_law_is_point b_law_is_point .nil pass0 (pa_cons (pv 5) pa_nil)) (pa_cons (pe_callB (cr_repr hr.units gd) (by rfl) T.n_repr (by decide +kernel) (pa_cons (pv 5) pa_nil)) pa_nil)) (by rfl))
    (pss_one (ps_if (PW.pt (pw_or (pt_cmpR (op_neU hr.units) (pe_callB (cr_repr hr.units gd) (by rfl) T.n_repr (by decide +kernel) (pa_cons (pe_lst (pa_cons (pe_call O_is_point (hr.mono (by decide)) rfl T.g_is_point T.k_is_point b_is_point .nil pass0 (pa_cons (pv 5) pa_nil)) (pa_cons (pe_kw0 (ks := ["value"]) O_is_point (hr.mono (by decide)) rfl T.g_is_point T.k_is_point kb_is_point_value (fun _ => passE) (pk_cons (pv 5) pk_nil)) pa_nil))) pa_nil)) (pe_callB (cr_repr hr.units gd) (by rfl) T.n_repr (by decide +kernel) (pa_cons (pe_lst (pa_cons (pv 6) (pa_cons (pv 6) pa_nil))) pa_nil)) (nomark _)) (pw_or1 (pt_cmpR (op_neU hr.units) (pe_callB (cr_repr hr.units gd) (by rfl) T.n_repr (by decide +kernel) (pa_cons (pv 5) pa_nil)) (pv 7) (nomark _))))) (pss_one (ps_ret pe_bl)) pss_nil))))
    (pss_one (ps_ret pe_bl))))))))))
theorem ok_law {fd : FuncData} (Fu : Fun K "law" "law" s_law q.f_law fd) (T : Txt K mg a q)
    {fd_law_pool : FuncData} (O_law_pool : FnOk P w K mg base CX0 1 q.f_law_pool fd_law_pool ["script", "spot"] (spD ⟨K, a.c_Relation⟩ (F_law_pool a))) (b_law_pool : Binds K fd_law_pool ["script", "spot"] [])
    {fd_law_right : FuncData} (O_law_right : FnG P w K mg base CX0 3 q.f_law_right fd_law_right ["pool"] (spD ⟨K, a.c_Relation⟩ (F_law_right a))) (b_law_right : Binds K fd_law_right ["pool"] []) : FnG P w K mg base CX0 4 q.f_law fd ["script"] (spD ⟨K, a.c_Relation⟩ (F_law a)) := by
  refine fnG_of Fu sc_law (spD_len (len_law a)) (fun cdv A outer s H vs Q E gd hr h => ⟨t_law ⟨K, a.c_Relation⟩ a, PSs.nox ?_, body_of (ls_law (G := ⟨K, a.c_Relation⟩) (a := a)) h⟩)
  exact (pss_cons (ps_for PassesOwn.never rfl (pi_range1 rfl T.n_range (pa_cons (pe_callB (cr_mx rfl) (by rfl) T.n_max (by decide +kernel) (pa_cons pe_int (pa_cons (pe_callB (cr_mn rfl) (by rfl) T.n_min (by decide +kernel) (pa_cons pe_int (pa_cons (pe_callB cr_len (by rfl) T.n_len (by decide +kernel) (pa_cons (pv 0) pa_nil)) pa_nil))) pa_nil))) pa_nil)) (pg_name (i := 1) sc_law.nd rfl (Or.inl rfl)) (pss_cons (ps_set (i := 2) sc_law.nd rfl (Or.inl rfl) (pe_call O_law_pool (hr.mono (by decide)) rfl T.g_law_pool T.k_law_pool b_law_pool .nil pass0 (pa_cons (pv 0) (pa_cons (pv 1) pa_nil))))
    (pss_one (ps_for PassesOwn.never rfl (pi_range1 rfl T.n_range (pa_cons pe_int pa_nil)) (pg_name (i := 3) sc_law.nd rfl (Or.inl rfl)) (pss_one (ps_if (pt_not (pt_truth (pe_callG O_law_right gd (hr.mono (by decide)) rfl T.g_law_right T.k_law_right b_law_right (fun _ => passE) (pa_cons (pv 2) pa_nil)) (by intro _; rfl))) (pss_one (ps_ret pe_bl)) pss_nil))))))
    (pss_one (ps_ret pe_bl)))
end


theorem all_mk {l : PySem.W.OpenLaw} {w : World} {K : PySem.W.Frag} {h : Heap} {mg : Str → Option Value} {fa : Addr} (X : K.In h) (G : h.Ns mainGlobals mg) (hfa : mg "law" = some (.ref fa))
    {f_is_whole f_is_point f_law_pool f_law_draw f_law_low f_law_any_point f_law_is_point f_law_right f_law : Addr}
    {oc_is_whole kV_is_whole dc_is_whole pm_is_whole cd_is_whole ct_is_whole : Value} {od_is_whole an_is_whole : Option Addr} {sl_is_whole : Array (Option Value)}
    {oc_is_point kV_is_point dc_is_point pm_is_point cd_is_point ct_is_point : Value} {od_is_point an_is_point : Option Addr} {sl_is_point : Array (Option Value)}
    {oc_law_pool kV_law_pool dc_law_pool pm_law_pool cd_law_pool ct_law_pool : Value} {od_law_pool an_law_pool : Option Addr} {sl_law_pool : Array (Option Value)}
    {oc_law_draw kV_law_draw dc_law_draw pm_law_draw cd_law_draw ct_law_draw : Value} {od_law_draw an_law_draw : Option Addr} {sl_law_draw : Array (Option Value)}
    {oc_law_low kV_law_low dc_law_low pm_law_low cd_law_low ct_law_low : Value} {od_law_low an_law_low : Option Addr} {sl_law_low : Array (Option Value)}
    {oc_law_any_point kV_law_any_point dc_law_any_point pm_law_any_point cd_law_any_point ct_law_any_point : Value} {od_law_any_point an_law_any_point : Option Addr} {sl_law_any_point : Array (Option Value)}
    {oc_law_is_point kV_law_is_point dc_law_is_point pm_law_is_point cd_law_is_point ct_law_is_point : Value} {od_law_is_point an_law_is_point : Option Addr} {sl_law_is_point : Array (Option Value)}
    {oc_law_right kV_law_right dc_law_right pm_law_right cd_law_right ct_law_right : Value} {od_law_right an_law_right : Option Addr} {sl_law_right : Array (Option Value)}
    {oc_law kV_law dc_law pm_law cd_law ct_law : Value} {od_law an_law : Option Addr} {sl_law : Array (Option Value)}
    (a_is_whole : PySem.W.nsIn K mainGlobals "_is_whole" = some (some (.ref f_is_whole)))
    (l_is_whole : K.lookup f_is_whole = some ⟨oc_is_whole, od_is_whole, .func (PySem.W.fnOf "_is_whole" "_is_whole" (defArgs s_is_whole) (defBody s_is_whole) (defScope s_is_whole) .none kV_is_whole dc_is_whole pm_is_whole an_is_whole cd_is_whole ct_is_whole), sl_is_whole⟩)
    (cc_is_whole : PySem.W.codeIn K cd_is_whole "_is_whole" = true)
    (k_is_whole : PySem.W.keepIn K (.ref f_is_whole) = true)
    (a_is_point : PySem.W.nsIn K mainGlobals "is_point" = some (some (.ref f_is_point)))
    (l_is_point : K.lookup f_is_point = some ⟨oc_is_point, od_is_point, .func (PySem.W.fnOf "is_point" "is_point" (defArgs s_is_point) (defBody s_is_point) (defScope s_is_point) .none kV_is_point dc_is_point pm_is_point an_is_point cd_is_point ct_is_point), sl_is_point⟩)
    (cc_is_point : PySem.W.codeIn K cd_is_point "is_point" = true)
    (k_is_point : PySem.W.keepIn K (.ref f_is_point) = true)
    (a_law_pool : PySem.W.nsIn K mainGlobals "_law_pool" = some (some (.ref f_law_pool)))
    (l_law_pool : K.lookup f_law_pool = some ⟨oc_law_pool, od_law_pool, .func (PySem.W.fnOf "_law_pool" "_law_pool" (defArgs s_law_pool) (defBody s_law_pool) (defScope s_law_pool) .none kV_law_pool dc_law_pool pm_law_pool an_law_pool cd_law_pool ct_law_pool), sl_law_pool⟩)
    (cc_law_pool : PySem.W.codeIn K cd_law_pool "_law_pool" = true)
    (k_law_pool : PySem.W.keepIn K (.ref f_law_pool) = true)
    (a_law_draw : PySem.W.nsIn K mainGlobals "_law_draw" = some (some (.ref f_law_draw)))
    (l_law_draw : K.lookup f_law_draw = some ⟨oc_law_draw, od_law_draw, .func (PySem.W.fnOf "_law_draw" "_law_draw" (defArgs s_law_draw) (defBody s_law_draw) (defScope s_law_draw) .none kV_law_draw dc_law_draw pm_law_draw an_law_draw cd_law_draw ct_law_draw), sl_law_draw⟩)
    (cc_law_draw : PySem.W.codeIn K cd_law_draw "_law_draw" = true)
    (k_law_draw : PySem.W.keepIn K (.ref f_law_draw) = true)
    (a_law_low : PySem.W.nsIn K mainGlobals "_law_low" = some (some (.ref f_law_low)))
    (l_law_low : K.lookup f_law_low = some ⟨oc_law_low, od_law_low, .func (PySem.W.fnOf "_law_low" "_law_low" (defArgs s_law_low) (defBody s_law_low) (defScope s_law_low) .none kV_law_low dc_law_low pm_law_low an_law_low cd_law_low ct_law_low), sl_law_low⟩)
    (cc_law_low : PySem.W.codeIn K cd_law_low "_law_low" = true)
    (k_law_low : PySem.W.keepIn K (.ref f_law_low) = true)
    (a_law_any_point : PySem.W.nsIn K mainGlobals "_law_any_point" = some (some (.ref f_law_any_point)))
    (l_law_any_point : K.lookup f_law_any_point = some ⟨oc_law_any_point, od_law_any_point, .func (PySem.W.fnOf "_law_any_point" "_law_any_point" (defArgs s_law_any_point) (defBody s_law_any_point) (defScope s_law_any_point) .none kV_law_any_point dc_law_any_point pm_law_any_point an_law_any_point cd_law_any_point ct_law_any_point), sl_law_any_point⟩)
    (cc_law_any_point : PySem.W.codeIn K cd_law_any_point "_law_any_point" = true)
    (k_law_any_point : PySem.W.keepIn K (.ref f_law_any_point) = true)
    (a_law_is_point : PySem.W.nsIn K mainGlobals "_law_is_point" = some (some (.ref f_law_is_point)))
    (l_law_is_point : K.lookup f_law_is_point = some ⟨oc_law_is_point, od_law_is_point, .func (PySem.W.fnOf "_law_is_point" "_law_is_point" (defArgs s_law_is_point) (defBody s_law_is_point) (defScope s_law_is_point) .none kV_law_is_point dc_law_is_point pm_law_is_point an_law_is_point cd_law_is_point ct_law_is_point), sl_law_is_point⟩)
    (cc_law_is_point : PySem.W.codeIn K cd_law_is_point "_law_is_point" = true)
    (k_law_is_point : PySem.W.keepIn K (.ref f_law_is_point) = true)
    (a_law_right : PySem.W.nsIn K mainGlobals "_law_right" = some (some (.ref f_law_right)))
    (l_law_right : K.lookup f_law_right = some ⟨oc_law_right, od_law_right, .func (PySem.W.fnOf "_law_right" "_law_right" (defArgs s_law_right) (defBody s_law_right) (defScope s_law_right) .none kV_law_right dc_law_right pm_law_right an_law_right cd_law_right ct_law_right), sl_law_right⟩)
    (cc_law_right : PySem.W.codeIn K cd_law_right "_law_right" = true)
    (k_law_right : PySem.W.keepIn K (.ref f_law_right) = true)
    (a_law : PySem.W.nsIn K mainGlobals "law" = some (some (.ref f_law)))
    (l_law : K.lookup f_law = some ⟨oc_law, od_law, .func (PySem.W.fnOf "law" "law" (defArgs s_law) (defBody s_law) (defScope s_law) .none kV_law dc_law pm_law an_law cd_law ct_law), sl_law⟩)
    (cc_law : PySem.W.codeIn K cd_law "law" = true)
    (k_law : PySem.W.keepIn K (.ref f_law) = true)
    (n_abs : PySem.W.nsIn K mainGlobals "abs" = some none)
    (n_bool : PySem.W.nsIn K mainGlobals "bool" = some none)
    (n_int : PySem.W.nsIn K mainGlobals "int" = some none)
    (n_isinstance : PySem.W.nsIn K mainGlobals "isinstance" = some none)
    (n_len : PySem.W.nsIn K mainGlobals "len" = some none)
    (n_max : PySem.W.nsIn K mainGlobals "max" = some none)
    (n_min : PySem.W.nsIn K mainGlobals "min" = some none)
    (n_range : PySem.W.nsIn K mainGlobals "range" = some none)
    (n_repr : PySem.W.nsIn K mainGlobals "repr" = some none)
    (n_tuple : PySem.W.nsIn K mainGlobals "tuple" = some none)
    (x_gcd : PySem.W.nsIn K mainGlobals "gcd" = some (some (.builtin "math.gcd"))) :
    ∃ fd : FuncData, (∀ (s : Shared) (v : Value), BindsTo s fd ⟨[v], []⟩ [("script", v)]) ∧ ∀ base : Heap, K.In base → base.Ns mainGlobals mg → FnG l.prog w K mg base CX0 4 fa fd ["script"] (spLaw K) := by
  have e : f_law = fa := by
    have e := hfa.symm.trans (PySem.W.mg_of X G a_law)
    cases e
    rfl
  subst e
  let a : Ad := ⟨0, 0, 0, 0, 0, 0, 0, 0, 0, 0, 0, 0, 0, 0⟩
  let q : Fs := ⟨f_is_whole, f_is_point, f_law_pool, f_law_draw, f_law_low, f_law_any_point, f_law_is_point, f_law_right, f_law⟩
  have T : Txt K mg a q := { g_is_whole := PySem.W.mg_of X G a_is_whole, k_is_whole := k_is_whole, g_is_point := PySem.W.mg_of X G a_is_point, k_is_point := k_is_point, g_law_pool := PySem.W.mg_of X G a_law_pool, k_law_pool := k_law_pool, g_law_draw := PySem.W.mg_of X G a_law_draw, k_law_draw := k_law_draw, g_law_low := PySem.W.mg_of X G a_law_low, k_law_low := k_law_low, g_law_any_point := PySem.W.mg_of X G a_law_any_point, k_law_any_point := k_law_any_point, g_law_is_point := PySem.W.mg_of X G a_law_is_point, k_law_is_point := k_law_is_point, g_law_right := PySem.W.mg_of X G a_law_right, k_law_right := k_law_right, g_law := PySem.W.mg_of X G a_law, k_law := k_law, n_abs := PySem.W.mg_none_of X G n_abs, n_bool := PySem.W.mg_none_of X G n_bool, n_int := PySem.W.mg_none_of X G n_int, n_isinstance := PySem.W.mg_none_of X G n_isinstance, n_len := PySem.W.mg_none_of X G n_len, n_max := PySem.W.mg_none_of X G n_max, n_min := PySem.W.mg_none_of X G n_min, n_range := PySem.W.mg_none_of X G n_range, n_repr := PySem.W.mg_none_of X G n_repr, n_tuple := PySem.W.mg_none_of X G n_tuple, x_gcd := PySem.W.mg_of X G x_gcd }
  have F_is_whole := fun_mk (st := s_is_whole) l_is_whole cc_is_whole k_is_whole
  have F_is_point := fun_mk (st := s_is_point) l_is_point cc_is_point k_is_point
  have F_law_pool := fun_mk (st := s_law_pool) l_law_pool cc_law_pool k_law_pool
  have F_law_draw := fun_mk (st := s_law_draw) l_law_draw cc_law_draw k_law_draw
  have F_law_low := fun_mk (st := s_law_low) l_law_low cc_law_low k_law_low
  have F_law_any_point := fun_mk (st := s_law_any_point) l_law_any_point cc_law_any_point k_law_any_point
  have F_law_is_point := fun_mk (st := s_law_is_point) l_law_is_point cc_law_is_point k_law_is_point
  have F_law_right := fun_mk (st := s_law_right) l_law_right cc_law_right k_law_right
  have F_law := fun_mk (st := s_law) l_law cc_law k_law
  have b_is_whole := F_is_whole.binds (ps := ["value"]) fun _ _ _ _ _ _ us hl => match us, hl with | [_], _ => rfl
  have b_is_point := F_is_point.binds (ps := ["value"]) fun _ _ _ _ _ _ us hl => match us, hl with | [_], _ => rfl
  have kb_is_point_value := kb_mk (K := K) (fd := PySem.W.fnOf "is_point" "is_point" (defArgs s_is_point) (defBody s_is_point) (defScope s_is_point) .none kV_is_point dc_is_point pm_is_point an_is_point cd_is_point ct_is_point) (ps := ["value"]) (n := 0) (ks := ["value"]) (idx := [0]) fun us ws h1 h2 => match us, ws, h1, h2 with | [], [_], _, _ => rfl
  have b_law_pool := F_law_pool.binds (ps := ["script", "spot"]) fun _ _ _ _ _ _ us hl => match us, hl with | [_, _], _ => rfl
  have b_law_draw := F_law_draw.binds (ps := ["pool", "span"]) fun _ _ _ _ _ _ us hl => match us, hl with | [_, _], _ => rfl
  have b_law_low := F_law_low.binds (ps := ["over", "under"]) fun _ _ _ _ _ _ us hl => match us, hl with | [_, _], _ => rfl
  have b_law_any_point := F_law_any_point.binds (ps := ["pool"]) fun _ _ _ _ _ _ us hl => match us, hl with | [_], _ => rfl
  have b_law_is_point := F_law_is_point.binds (ps := ["thing"]) fun _ _ _ _ _ _ us hl => match us, hl with | [_], _ => rfl
  have b_law_right := F_law_right.binds (ps := ["pool"]) fun _ _ _ _ _ _ us hl => match us, hl with | [_], _ => rfl
  refine ⟨PySem.W.fnOf "law" "law" (defArgs s_law) (defBody s_law) (defScope s_law) .none kV_law dc_law pm_law an_law cd_law ct_law, fun s v => .of_eq rfl, fun base _ _ => ?_⟩
  have O_is_whole := ok_is_whole (P := l.prog) (w := w) (mg := mg) (base := base) (a := a) (q := q) F_is_whole T
  have O_is_point := ok_is_point (P := l.prog) (w := w) (mg := mg) (base := base) (a := a) (q := q) F_is_point T O_is_whole b_is_whole
  have O_law_pool := ok_law_pool (P := l.prog) (w := w) (mg := mg) (base := base) (a := a) (q := q) F_law_pool T
  have O_law_draw := ok_law_draw (P := l.prog) (w := w) (mg := mg) (base := base) (a := a) (q := q) F_law_draw T
  have O_law_low := ok_law_low (P := l.prog) (w := w) (mg := mg) (base := base) (a := a) (q := q) F_law_low T
  have O_law_any_point := ok_law_any_point (P := l.prog) (w := w) (mg := mg) (base := base) (a := a) (q := q) F_law_any_point T O_law_low b_law_low O_law_draw b_law_draw
  have O_law_is_point := ok_law_is_point (P := l.prog) (w := w) (mg := mg) (base := base) (a := a) (q := q) F_law_is_point T O_law_low b_law_low
  have O_law_right := ok_law_right (P := l.prog) (w := w) (mg := mg) (base := base) (a := a) (q := q) F_law_right T O_law_any_point b_law_any_point O_law_draw b_law_draw O_law_is_point b_law_is_point O_is_point b_is_point kb_is_point_value
  have O_law := ok_law (P := l.prog) (w := w) (mg := mg) (base := base) (a := a) (q := q) F_law T O_law_pool b_law_pool O_law_right b_law_right
  exact FnG.law (G := ⟨K, 0⟩) O_law (fun ns hl => ⟨ns, rfl, hl, fun _ => rfl⟩)
end DL
open PySem PySem.W PyProof.Rows in
set_option maxRecDepth 100000 in
set_option maxHeartbeats 0 in
theorem PySem.Challenge.cw_closechains_k02_what_is_a_point_holds : PySem.Challenge.rw_closechains_k02_what_is_a_point.Holds := by
  w_on; o_law; k_head; (case hw => w_witness2)
  k_fill
  refine DL.walkG (l := PySem.Challenge.rw_closechains_k02_what_is_a_point) (n := 63) (k := 4) (x := "script") (sp := fun w => DL.spLaw (_ : PySem.W.Frag)) rfl (by decide) rfl ⟨rfl, by decide, by decide⟩ (fun w h Y => PySem.W.kIn_of Y) ?F (fun _ _ a ns hl _ hS => DL.spLaw_want hl hS)
  case F =>
    intro w mg fa h KX G hmg
    refine' DL.all_mk KX G hmg ?a_is_whole ?l_is_whole ?cc_is_whole ?k_is_whole ?a_is_point ?l_is_point ?cc_is_point ?k_is_point ?a_law_pool ?l_law_pool ?cc_law_pool ?k_law_pool ?a_law_draw ?l_law_draw ?cc_law_draw ?k_law_draw ?a_law_low ?l_law_low ?cc_law_low ?k_law_low ?a_law_any_point ?l_law_any_point ?cc_law_any_point ?k_law_any_point ?a_law_is_point ?l_law_is_point ?cc_law_is_point ?k_law_is_point ?a_law_right ?l_law_right ?cc_law_right ?k_law_right ?a_law ?l_law ?cc_law ?k_law ?n_abs ?n_bool ?n_int ?n_isinstance ?n_len ?n_max ?n_min ?n_range ?n_repr ?n_tuple ?x_gcd
    (case a_is_whole => k_is)
    (case l_is_whole => k_is)
    (case cc_is_whole => k_is)
    (case k_is_whole => k_is)
    (case a_is_point => k_is)
    (case l_is_point => k_is)
    (case cc_is_point => k_is)
    (case k_is_point => k_is)
    (case a_law_pool => k_is)
    (case l_law_pool => k_is)
    (case cc_law_pool => k_is)
    (case k_law_pool => k_is)
    (case a_law_draw => k_is)
    (case l_law_draw => k_is)
    (case cc_law_draw => k_is)
    (case k_law_draw => k_is)
    (case a_law_low => k_is)
    (case l_law_low => k_is)
    (case cc_law_low => k_is)
    (case k_law_low => k_is)
    (case a_law_any_point => k_is)
    (case l_law_any_point => k_is)
    (case cc_law_any_point => k_is)
    (case k_law_any_point => k_is)
    (case a_law_is_point => k_is)
    (case l_law_is_point => k_is)
    (case cc_law_is_point => k_is)
    (case k_law_is_point => k_is)
    (case a_law_right => k_is)
    (case l_law_right => k_is)
    (case cc_law_right => k_is)
    (case k_law_right => k_is)
    (case a_law => k_is)
    (case l_law => k_is)
    (case cc_law => k_is)
    (case k_law => k_is)
    (case n_abs => k_is)
    (case n_bool => k_is)
    (case n_int => k_is)
    (case n_isinstance => k_is)
    (case n_len => k_is)
    (case n_max => k_is)
    (case n_min => k_is)
    (case n_range => k_is)
    (case n_repr => k_is)
    (case n_tuple => k_is)
    (case x_gcd => k_is)

