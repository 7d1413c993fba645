import PyProof.Rows.All
import Wide.All
import OpenK.AllK
import Wide.FinOn
import HandS.ForMost
import HandS.ForExc
import HandS.Evl
import HandS.Deep
import HandS.Wide
import HandS.Gcd
import HandS.Flow
import HandS.Style
import HandS.NoneIn
import HandS.IsInst
import HandS.ExcIs
import HandS.ExcInit
import HandS.Defaults
import HandS.Property
import HandS.OwnEq
import HandS.Lambda
import KE.KExcIs
import HandS.ExcField
import HandS.MakeKwOnly
import HandS.Ends
import HandS.More
import HandS.Conv
import HandS.MakeKw
import KE.DataMinMax
import HandS.SortKw
import HandS.Steps
import KE.DataAny
import PyProof.MaxThree
import HandS.Flt
import PyProof.InstNe
import KE.SortKeyHeap
import HandS.EndTab
import KE.KNestM
import HandS.TupSets
import KE.SortData
import HandS.WideBits
import PyProof.Rows.RuleM_int
import HandS.TryMany
import HandS.Iter
import PyProof.SeqIndex
import PySem.Challenge.RW_closechains_k25_steps_by_rows
set_option Elab.async false
set_option linter.all false
set_option maxRecDepth 100000
set_option maxHeartbeats 4000000
set_option exponentiation.threshold 20000
namespace DL
open PySem PySem.Spec PyProof.Rows L2 Evl

/-! ## what values mean as data -/
def keyD : Key → PyData
  | .inl i => .int i
  | .inr x => .str x
inductive Lf : V → PyData → Prop
  | non : Lf .non .none
  | bl (b : Bool) : Lf (.bl b) (.bool b)
  | int (i : Int) : Lf (.int i) (.int i)
  | str (x : Str) : Lf (.str x) (.str x)
abbrev KvD : List (Key × V) → List (PyData × PyData) → Prop := Paired fun p q => keyD p.1 = q.1 ∧ Lf p.2 q.2
mutual
inductive Dd (K : PySem.W.Frag) (H : Hp) : V → PyData → Prop
  | non : Dd K H .non .none
  | bl (b : Bool) : Dd K H (.bl b) (.bool b)
  | int (i : Int) : Dd K H (.int i) (.int i)
  | str (x : Str) : Dd K H (.str x) (.str x)
  | lst {a : Addr} {xs : List V} {ds : List PyData} : H a = some (.lst xs) → DdAll K H xs ds → Dd K H (.ref a) (.list ds)
  | tup {a : Addr} {xs : List V} {ds : List PyData} : SqT K H a xs → DdAll K H xs ds → Dd K H (.ref a) (.tuple ds)
  | dct {a : Addr} {kvs : List (Key × V)} {ds : List (PyData × PyData)} : H a = some (.dK kvs) → KvD kvs ds → Dd K H (.ref a) (.dict ds)
inductive DdAll (K : PySem.W.Frag) (H : Hp) : List V → List PyData → Prop
  | nil : DdAll K H [] []
  | cons {v : V} {vs : List V} {d : PyData} {ds : List PyData} : Dd K H v d → DdAll K H vs ds → DdAll K H (v :: vs) (d :: ds)
end
section
variable {K : PySem.W.Frag} {H H' : Hp}
mutual
theorem Dd.mono (e : Ex H H') : ∀ {v : V} {d : PyData}, Dd K H v d → Dd K H' v d
  | _, _, .non => .non
  | _, _, .bl b => .bl b
  | _, _, .int i => .int i
  | _, _, .str x => .str x
  | _, _, .lst h a => .lst (e _ _ h) (DdAll.mono e a)
  | _, _, .tup h a => .tup (ex_t e h) (DdAll.mono e a)
  | _, _, .dct h a => .dct (e _ _ h) a
theorem DdAll.mono (e : Ex H H') : ∀ {vs : List V} {ds : List PyData}, DdAll K H vs ds → DdAll K H' vs ds
  | _, _, .nil => .nil
  | _, _, .cons h t => .cons (Dd.mono e h) (DdAll.mono e t)
end
mutual
theorem Dd.dp : ∀ {v : V} {d : PyData}, Dd K H v d → d.hasDict = false → Dp K H v d
  | _, _, .non, _ => .non
  | _, _, .bl b, _ => .bl b
  | _, _, .int i, _ => .int i
  | _, _, .str x, _ => .str x
  | _, _, .lst h a, n => .lst (sq_of h) (DdAll.dp a (by rw [PyData.hasDict] at n; exact n))
  | _, _, .tup h a, n => .tup h (DdAll.dp a (by rw [PyData.hasDict] at n; exact n))
theorem DdAll.dp : ∀ {vs : List V} {ds : List PyData}, DdAll K H vs ds → PyData.hasDictAll ds = false → DpAll K H vs ds
  | _, _, .nil, _ => .nil
  | _, _, .cons h t, n => .cons (Dd.dp h (by rw [PyData.hasDictAll, Bool.or_eq_false_iff] at n; exact n.1)) (DdAll.dp t (by rw [PyData.hasDictAll, Bool.or_eq_false_iff] at n; exact n.2))
end
theorem DdAll.len : ∀ {vs : List V} {ds : List PyData}, DdAll K H vs ds → vs.length = ds.length
  | _, _, .nil => rfl
  | _, _, .cons _ t => by rw [List.length_cons, List.length_cons, DdAll.len t]
theorem DdAll.get : ∀ {vs : List V} {ds : List PyData} {i : Nat} {d : PyData}, DdAll K H vs ds → ds[i]? = some d → ∃ v, vs[i]? = some v ∧ Dd K H v d
  | _, _, 0, _, .cons h _, e => by
    cases e
    exact ⟨_, rfl, h⟩
  | _, _, i + 1, _, .cons _ t, e => by
    obtain ⟨v, hv, hd⟩ := DdAll.get (i := i) t e
    exact ⟨v, hv, hd⟩
theorem DdAll.set {v : V} {d : PyData} (h : Dd K H v d) : ∀ {vs : List V} {ds : List PyData} (i : Nat), DdAll K H vs ds → DdAll K H (vs.set i v) (ds.set i d)
  | _, _, _, .nil => .nil
  | _, _, 0, .cons _ t => .cons h t
  | _, _, i + 1, .cons a t => .cons a (DdAll.set h i t)
theorem DdAll.append : ∀ {vs ws : List V} {ds es : List PyData}, DdAll K H vs ds → DdAll K H ws es → DdAll K H (vs ++ ws) (ds ++ es)
  | _, _, _, _, .nil, b => b
  | _, _, _, _, .cons h t, b => .cons h (DdAll.append t b)
theorem DdAll.take : ∀ {vs : List V} {ds : List PyData} (n : Nat), DdAll K H vs ds → DdAll K H (vs.take n) (ds.take n)
  | _, _, 0, _ => by simp only [List.take_zero]; exact .nil
  | _, _, n + 1, .nil => .nil
  | _, _, n + 1, .cons h t => .cons h (DdAll.take n t)
theorem DdAll.drop : ∀ {vs : List V} {ds : List PyData} (n : Nat), DdAll K H vs ds → DdAll K H (vs.drop n) (ds.drop n)
  | _, _, 0, h => h
  | _, _, n + 1, .nil => .nil
  | _, _, n + 1, .cons h t => DdAll.drop n t
theorem DdAll.one {v : V} {d : PyData} (h : Dd K H v d) : DdAll K H [v] [d] := .cons h .nil
theorem Dd.int_inv {v : V} {i : Int} (h : Dd K H v (.int i)) : v = .int i := by cases h; rfl
theorem Dd.bl_inv {v : V} {i : Bool} (h : Dd K H v (.bool i)) : v = .bl i := by cases h; rfl
theorem Dd.str_inv {v : V} {i : Str} (h : Dd K H v (.str i)) : v = .str i := by cases h; rfl
theorem Dd.lst_inv {v : V} {ds : List PyData} (h : Dd K H v (.list ds)) : ∃ a xs, v = .ref a ∧ H a = some (.lst xs) ∧ DdAll K H xs ds := by
  cases h with
  | lst h a => exact ⟨_, _, rfl, h, a⟩
theorem Dd.tup_inv {v : V} {ds : List PyData} (h : Dd K H v (.tuple ds)) : ∃ a xs, v = .ref a ∧ SqT K H a xs ∧ DdAll K H xs ds := by
  cases h with
  | tup h a => exact ⟨_, _, rfl, h, a⟩
theorem DdAll.ints : ∀ {vs : List V} {ns : List Int}, DdAll K H vs (ns.map PyData.int) → vs = ns.map V.int
  | _, [], .nil => rfl
  | _, n :: ns, .cons h t => by
    rw [List.map_cons, Dd.int_inv h, DdAll.ints t]
theorem DdAll.of_ints : ∀ (ns : List Int), DdAll K H (ns.map V.int) (ns.map PyData.int)
  | [] => .nil
  | n :: ns => .cons (.int n) (DdAll.of_ints ns)
end

/-- data of a program: plain data; a list that is changed in place; the script; a relation; a caught error; a raw value -/
inductive D where
  | py (d : PyData)
  | own (a : Addr)
  | sc (ns : List Int)
  | rel (ns : List Int)
  | exc (e dd : Addr) (x : PyData)
  | raw (v : V)
abbrev Ow := Addr → Option (List PyData)
abbrev Ro := List (Option D)
def oset (O : Ow) (a : Addr) (ds : List PyData) : Ow := fun b => if b = a then some ds else O b
def odel (O : Ow) (a : Addr) : Ow := fun b => if b = a then none else O b
theorem oset_same {O : Ow} {a : Addr} {ds : List PyData} : oset O a ds a = some ds := if_pos rfl
theorem oset_ne {O : Ow} {a b : Addr} {ds : List PyData} (h : b ≠ a) : oset O a ds b = O b := if_neg h
theorem oset_oset {O : Ow} {a : Addr} {ds es : List PyData} : oset (oset O a ds) a es = oset O a es := by
  funext b
  unfold oset
  by_cases h : b = a
  · rw [if_pos h, if_pos h]
  · rw [if_neg h, if_neg h, if_neg h]
theorem odel_oset {O : Ow} {a : Addr} {ds : List PyData} (h : O a = none) : odel (oset O a ds) a = O := by
  funext b
  unfold odel oset
  by_cases h' : b = a
  · rw [if_pos h', h', h]
  · rw [if_neg h', if_neg h']
/-- the written part; the address of the class Relation; the tables of the codes of lambdas -/
structure Gs where
  K : PySem.W.Frag
  C : Addr
  T : List (Addr × Str)
def Rp (G : Gs) (B : Hp) (v : V) : D → Prop
  | .py d => Dd G.K B v d
  | .own a => v = .ref a
  | .sc ns => ∃ a, v = .ref a ∧ SqL G.K B a (ns.map V.int)
  | .rel ns => ∃ a dx t, v = .ref a ∧ B a = some (.ins G.C dx [("_numbers", .ref t)]) ∧ B dx = some (.own a) ∧ SqT G.K B t (ns.map V.int)
  | .exc e dd x => v = .ref e ∧ ∃ w, B dd = some (.xd [("value", w)]) ∧ Dd G.K B w x
  | .raw u => v = u
theorem Rp.mono {G : Gs} {B B' : Hp} (e : Ex B B') {v : V} : ∀ {d : D}, Rp G B v d → Rp G B' v d
  | .py _, h => Dd.mono e h
  | .own _, h => h
  | .sc _, ⟨a, h, s⟩ => ⟨a, h, ex_l e s⟩
  | .rel _, ⟨a, dx, t, h, i, o, s⟩ => ⟨a, dx, t, h, e _ _ i, e _ _ o, ex_t e s⟩
  | .exc _ _ _, ⟨h, w, x, s⟩ => ⟨h, w, e _ _ x, Dd.mono e s⟩
  | .raw _, h => h
/-- several -/
def Rps (G : Gs) (B : Hp) : List V → List D → Prop := Paired (Rp G B)
theorem Rps.mono {G : Gs} {B B' : Hp} (e : Ex B B') : ∀ {vs : List V} {ds : List D}, Rps G B vs ds → Rps G B' vs ds
  | _, _, .nil => .nil
  | _, _, .cons h t => .cons (Rp.mono e h) (Rps.mono e t)
theorem Rps.len {G : Gs} {B : Hp} : ∀ {vs : List V} {ds : List D}, Rps G B vs ds → vs.length = ds.length
  | _, _, .nil => rfl
  | _, _, .cons _ t => by rw [List.length_cons, List.length_cons, Rps.len t]
theorem Rps.ofDd {G : Gs} {B : Hp} : ∀ {vs : List V} {ds : List PyData}, DdAll G.K B vs ds → Rps G B vs (ds.map D.py)
  | _, _, .nil => .nil
  | _, _, .cons h t => .cons h (Rps.ofDd t)
theorem Rps.toDd {G : Gs} {B : Hp} : ∀ {vs : List V} {ds : List PyData}, Rps G B vs (ds.map D.py) → DdAll G.K B vs ds
  | _, [], .nil => .nil
  | _, d :: ds, .cons h t => .cons h (Rps.toDd t)

structure SatH (G : Gs) (B0 B H : Hp) (O : Ow) : Prop where
  e0 : Ex B0 B
  ex : Ex B H
  ow : ∀ l ds, O l = some ds → B l = none ∧ ∃ vs, H l = some (.lst vs) ∧ DdAll G.K B vs ds
  tb : LamX.Tabs G.T H
  nt : ∀ a ps, B a ≠ some (.tbl ps)
theorem tabs_new {T : List (Addr × Str)} {H : Hp} {p : Addr} {o : HO} (t : LamX.Tabs T H) (hp : H p = none) : LamX.Tabs T (upd H p o) := t.ext fun b u e => by
  rw [upd_ne (ne_of_none e hp)]
  exact e
/-- tables stay where something else changes -/
theorem tabs_but {T : List (Addr × Str)} {H H' : Hp} (t : LamX.Tabs T H) (k : ∀ b u, H b = some u → ((∃ ps, u = .tbl ps) ∨ ∃ φ, u = .ext φ) → H' b = some u) : LamX.Tabs T H' := fun q hq => by
  obtain ⟨ps, h1, h2, h3⟩ := t q hq
  refine ⟨ps, k _ _ h1 (.inl ⟨ps, rfl⟩), h2, fun pos cv hc => ?_⟩
  obtain ⟨c, e1, e2⟩ := h3 pos cv hc
  exact ⟨c, e1, k _ _ e2 (.inr ⟨_, rfl⟩)⟩
theorem tabs_chg {T : List (Addr × Str)} {H : Hp} {p : Addr} {o u : HO} (t : LamX.Tabs T H) (hp : H p = some o) (n1 : ∀ ps, o ≠ .tbl ps) (n2 : ∀ φ, o ≠ .ext φ) : LamX.Tabs T (upd H p u) := tabs_but t fun b v e hv => by
  have ne : b ≠ p := fun z => by
    rw [z, hp] at e
    cases e
    rcases hv with ⟨ps, z⟩ | ⟨φ, z⟩
    · exact n1 ps z
    · exact n2 φ z
  rw [upd_ne ne]
  exact e
theorem nt_new {B : Hp} {p : Addr} {o : HO} (n : ∀ a ps, B a ≠ some (.tbl ps)) (ho : ∀ ps, o ≠ .tbl ps) : ∀ a ps, upd B p o a ≠ some (.tbl ps) := fun a ps h => by
  by_cases ha : a = p
  · rw [ha, upd_same] at h
    exact ho ps (Option.some.inj h)
  · rw [upd_ne ha] at h
    exact n a ps h
structure Slots (G : Gs) (B : Hp) (σ : L2.St) (ρ : Ro) : Prop where
  len : σ.length = ρ.length
  get : ∀ (i : Nat) (d : D), ρ[i]? = some (some d) → ∃ v, σ[i]? = some (some v) ∧ Rp G B v d
section
variable {G : Gs} {B0 B B' H H' : Hp} {O : Ow} {σ : L2.St} {ρ : Ro}
theorem Slots.mono (e : Ex B B') (s : Slots G B σ ρ) : Slots G B' σ ρ := ⟨s.len, fun i d h => by
  obtain ⟨v, hv, r⟩ := s.get i d h
  exact ⟨v, hv, r.mono e⟩⟩
theorem Slots.set {v : V} {d : D} (s : Slots G B σ ρ) (i : Nat) (r : Rp G B v d) : Slots G B (σ.set i (some v)) (ρ.set i (some d)) := ⟨by rw [List.length_set, List.length_set, s.len], fun j e h => by
  rw [List.getElem?_set] at h
  by_cases hj : i = j
  · rw [if_pos hj] at h
    split at h
    · rename_i hl
      cases h
      refine ⟨v, ?_, r⟩
      rw [List.getElem?_set, if_pos hj, if_pos (by rw [s.len]; exact hl)]
    · cases h
  · rw [if_neg hj] at h
    obtain ⟨w, hw, rw'⟩ := s.get j e h
    exact ⟨w, by rw [List.getElem?_set, if_neg hj]; exact hw, rw'⟩⟩
theorem Slots.setN (s : Slots G B σ ρ) (i : Nat) : Slots G B (σ.set i none) (ρ.set i none) := ⟨by rw [List.length_set, List.length_set, s.len], fun j e h => by
  rw [List.getElem?_set] at h
  by_cases hj : i = j
  · rw [if_pos hj] at h
    split at h <;> cases h
  · rw [if_neg hj] at h
    obtain ⟨w, hw, rw'⟩ := s.get j e h
    exact ⟨w, by rw [List.getElem?_set, if_neg hj]; exact hw, rw'⟩⟩
/-- a new object becomes known -/
theorem SatH.newB {p : Addr} {o : HO} (s : SatH G B0 B H O) (hp : H p = none) (ho : ∀ ps, o ≠ .tbl ps := by exact fun _ z => nomatch z) : Ex B (upd B p o) ∧ SatH G B0 (upd B p o) (upd H p o) O := by
  have bp : B p = none := fresh_back s.ex hp
  have e : Ex B (upd B p o) := Ex.new bp
  refine ⟨e, s.e0.trans e, fun a u h => ?_, fun l ds h => ?_, tabs_new s.tb hp, nt_new s.nt ho⟩
  · by_cases ha : a = p
    · subst ha
      rw [upd_same] at h ⊢
      exact h
    · rw [upd_ne ha] at h ⊢
      exact s.ex a u h
  · obtain ⟨h1, vs, h2, h3⟩ := s.ow l ds h
    have hl : l ≠ p := ne_of_none h2 hp
    exact ⟨by rw [upd_ne hl]; exact h1, vs, by rw [upd_ne hl]; exact h2, h3.mono e⟩
/-- a new object, forgotten -/
theorem SatH.newF {p : Addr} {o : HO} (s : SatH G B0 B H O) (hp : H p = none) : SatH G B0 B (upd H p o) O :=
  ⟨s.e0, fun a u h => by
    have q := s.ex a u h
    rw [upd_ne (ne_of_none q hp)]
    exact q, fun l ds h => by
    obtain ⟨h1, vs, h2, h3⟩ := s.ow l ds h
    exact ⟨h1, vs, by rw [upd_ne (ne_of_none h2 hp)]; exact h2, h3⟩, tabs_new s.tb hp, s.nt⟩
/-- a new list that may change -/
theorem SatH.newO {p : Addr} {vs : List V} {ds : List PyData} (s : SatH G B0 B H O) (hp : H p = none) (hd : DdAll G.K B vs ds) : SatH G B0 B (upd H p (.lst vs)) (oset O p ds) :=
  ⟨s.e0, fun a u h => by
    have q := s.ex a u h
    rw [upd_ne (ne_of_none q hp)]
    exact q, fun l es h => by
    by_cases hl : l = p
    · subst hl
      rw [oset_same] at h
      cases h
      exact ⟨fresh_back s.ex hp, vs, upd_same, hd⟩
    · rw [oset_ne hl] at h
      obtain ⟨h1, ws, h2, h3⟩ := s.ow l es h
      exact ⟨h1, ws, by rw [upd_ne hl]; exact h2, h3⟩, tabs_new s.tb hp, s.nt⟩
/-- such a list changes -/
theorem SatH.chg {p : Addr} {vs : List V} {ds es : List PyData} (s : SatH G B0 B H O) (hp : O p = some es) (hd : DdAll G.K B vs ds) : SatH G B0 B (upd H p (.lst vs)) (oset O p ds) := by
  obtain ⟨bp, _, hpl, _⟩ := s.ow p es hp
  exact ⟨s.e0, fun a u h => by
    have q := s.ex a u h
    have ha : a ≠ p := fun z => by
      rw [z, bp] at h
      cases h
    rw [upd_ne ha]
    exact q, fun l fs h => by
    by_cases hl : l = p
    · subst hl
      rw [oset_same] at h
      cases h
      exact ⟨bp, vs, upd_same, hd⟩
    · rw [oset_ne hl] at h
      obtain ⟨h1, ws, h2, h3⟩ := s.ow l fs h
      exact ⟨h1, ws, by rw [upd_ne hl]; exact h2, h3⟩, tabs_chg s.tb hpl (fun _ z => nomatch z) (fun _ z => nomatch z), s.nt⟩
/-- such a list becomes known -/
theorem SatH.freeze {p : Addr} {ds : List PyData} (s : SatH G B0 B H O) (hp : O p = some ds) : ∃ B', Ex B B' ∧ SatH G B0 B' H (odel O p) ∧ Dd G.K B' (.ref p) (.list ds) := by
  obtain ⟨bp, vs, h2, h3⟩ := s.ow p ds hp
  have e : Ex B (upd B p (.lst vs)) := Ex.new bp
  refine ⟨upd B p (.lst vs), e, ⟨s.e0.trans e, fun a u h => ?_, fun l es h => ?_, s.tb, nt_new s.nt fun _ z => nomatch z⟩, .lst upd_same (h3.mono e)⟩
  · by_cases ha : a = p
    · subst ha
      rw [upd_same] at h
      rw [← h]
      exact h2
    · rw [upd_ne ha] at h
      exact s.ex a u h
  · by_cases hl : l = p
    · subst hl
      unfold odel at h
      rw [if_pos rfl] at h
      cases h
    · unfold odel at h
      rw [if_neg hl] at h
      obtain ⟨h1, ws, h2, h3⟩ := s.ow l es h
      exact ⟨by rw [upd_ne hl]; exact h1, ws, h2, h3.mono e⟩
end
/-! ## what a reading does with data -/
section
variable (G : Gs) (B0 : Hp)
def LE (te : TE) (ρ : Ro) (O : Ow) (κ : D → Ow → Prop) : Prop :=
  ∀ B H σ, SatH G B0 B H O → Slots G B σ ρ → ∀ Q : VK, (∀ v d B' H' O', κ d O' → Ex B B' → SatH G B0 B' H' O' → Rp G B' v d → Q v H') → te σ H Q
def LT (tt : TT) (ρ : Ro) (O : Ow) (κ : Bool → Ow → Prop) : Prop :=
  ∀ B H σ, SatH G B0 B H O → Slots G B σ ρ → ∀ Q : Bool → Hp → Prop, (∀ b B' H' O', κ b O' → Ex B B' → SatH G B0 B' H' O' → Q b H') → tt σ H Q
def LA (ta : TA) (ρ : Ro) (O : Ow) (κ : List D → Ow → Prop) : Prop :=
  ∀ B H σ, SatH G B0 B H O → Slots G B σ ρ → ∀ Q : List V → Hp → Prop, (∀ vs ds B' H' O', κ ds O' → Ex B B' → SatH G B0 B' H' O' → Rps G B' vs ds → Q vs H') → ta σ H Q
def LO (to : TO) (ρ : Ro) (O : Ow) (κ : Option Int → Ow → Prop) : Prop :=
  ∀ B H σ, SatH G B0 B H O → Slots G B σ ρ → ∀ Q : Option Int → Hp → Prop, (∀ o B' H' O', κ o O' → Ex B B' → SatH G B0 B' H' O' → Q o H') → to σ H Q
/-- operations by values -/
def LR (r : R2) (x y : D) (O : Ow) (κ : D → Ow → Prop) : Prop :=
  ∀ B H v w, SatH G B0 B H O → Rp G B v x → Rp G B w y → ∀ Q : VK, (∀ u d B' H' O', κ d O' → Ex B B' → SatH G B0 B' H' O' → Rp G B' u d → Q u H') → r v w H Q
def LU (r : V → Hp → VK → Prop) (x : D) (O : Ow) (κ : D → Ow → Prop) : Prop :=
  ∀ B H v, SatH G B0 B H O → Rp G B v x → ∀ Q : VK, (∀ u d B' H' O', κ d O' → Ex B B' → SatH G B0 B' H' O' → Rp G B' u d → Q u H') → r v H Q
def LC (r : List V → Hp → VK → Prop) (xs : List D) (O : Ow) (κ : D → Ow → Prop) : Prop :=
  ∀ B H vs, SatH G B0 B H O → Rps G B vs xs → ∀ Q : VK, (∀ u d B' H' O', κ d O' → Ex B B' → SatH G B0 B' H' O' → Rp G B' u d → Q u H') → r vs H Q
def LS (ts : TS) (ρ : Ro) (O : Ow) (N : Ro → Ow → Prop) (R : D → Ow → Prop) (Bk Ct : Ro → Ow → Prop) : Prop :=
  ∀ B H σ, SatH G B0 B H O → Slots G B σ ρ → ∀ Dn : Ends,
    (∀ B' H' σ' ρ' O', N ρ' O' → Ex B B' → SatH G B0 B' H' O' → Slots G B' σ' ρ' → Dn.nx σ' H') →
    (∀ v d B' H' O', R d O' → Ex B B' → SatH G B0 B' H' O' → Rp G B' v d → Dn.rt v H') →
    (∀ B' H' σ' ρ' O', Bk ρ' O' → Ex B B' → SatH G B0 B' H' O' → Slots G B' σ' ρ' → Dn.bk σ' H') →
    (∀ B' H' σ' ρ' O', Ct ρ' O' → Ex B B' → SatH G B0 B' H' O' → Slots G B' σ' ρ' → Dn.ct σ' H') → ts Dn σ H
def LG (g : TG) (d : D) (ρ : Ro) (O : Ow) (N : Ro → Ow → Prop) : Prop :=
  ∀ B H σ v, SatH G B0 B H O → Slots G B σ ρ → Rp G B v d → ∀ Q : L2.St → Hp → Prop, (∀ B' H' σ' ρ' O', N ρ' O' → Ex B B' → SatH G B0 B' H' O' → Slots G B' σ' ρ' → Q σ' H') → g v σ H Q
def LGs (g : TGs) (ds : List D) (ρ : Ro) (O : Ow) (N : Ro → Ow → Prop) : Prop :=
  ∀ B H σ vs, SatH G B0 B H O → Slots G B σ ρ → Rps G B vs ds → ∀ Q : L2.St → Hp → Prop, (∀ B' H' σ' ρ' O', N ρ' O' → Ex B B' → SatH G B0 B' H' O' → Slots G B' σ' ρ' → Q σ' H') → g vs σ H Q
/-- what a raise wishes -/
def WOk (W : WX) (ε : Addr → PyData → Ro → Ow → Prop) : Prop :=
  ∀ B H σ ρ O C dd x, SatH G B0 B H O → Slots G B σ ρ → ε C x ρ O → (∃ w, B dd = some (.xd [("value", w)]) ∧ Dd G.K B w x) → W (.ref C) (some dd) σ H
end
end DL

namespace DL
open PySem PySem.Spec PyProof.Rows L2 Evl
theorem nt_tup {xs : List V} : ∀ ps, HO.tup xs ≠ .tbl ps := fun _ z => nomatch z

section
variable {G : Gs} {B0 : Hp} {ρ : Ro} {O : Ow} {κ : D → Ow → Prop}
/-! ## expressions -/
theorem le_var {i : Nat} {d : D} (h : ρ[i]? = some (some d)) (k : κ d O) : LE G B0 (tVar i) ρ O κ := fun B H σ s t Q q => by
  obtain ⟨v, hv, r⟩ := t.get i d h
  exact ⟨v, hv, q v d B H O k (Ex.refl B) s r⟩
theorem le_con {v : V} {d : D} (r : ∀ B, Rp G B v d) (k : κ d O) : LE G B0 (tC v) ρ O κ := fun B H σ s t Q q => q v d B H O k (Ex.refl B) s (r B)
theorem le_int {i : Int} (k : κ (.py (.int i)) O) : LE G B0 (tC (.int i)) ρ O κ := le_con (d := .py (.int i)) (fun _ => Dd.int i) k
theorem le_str {i : Str} (k : κ (.py (.str i)) O) : LE G B0 (tC (.str i)) ρ O κ := le_con (d := .py (.str i)) (fun _ => Dd.str i) k
theorem le_bl {i : Bool} (k : κ (.py (.bool i)) O) : LE G B0 (tC (.bl i)) ρ O κ := le_con (d := .py (.bool i)) (fun _ => Dd.bl i) k
theorem le_non (k : κ (.py .none) O) : LE G B0 (tC .non) ρ O κ := le_con (d := .py .none) (fun _ => Dd.non) k
theorem le_raw {v : V} (k : κ (.raw v) O) : LE G B0 (tC v) ρ O κ := le_con (d := .raw v) (fun _ => rfl) k
theorem le_op {r : R2} {ta tb : TE} (h : LE G B0 ta ρ O fun x O1 => LE G B0 tb ρ O1 fun y O2 => LR G B0 r x y O2 κ) : LE G B0 (tOp r ta tb) ρ O κ := fun B H σ s t Q q =>
  h B H σ s t _ fun v x B1 H1 O1 h1 e1 s1 r1 => h1 B1 H1 σ s1 (t.mono e1) _ fun w y B2 H2 O2 h2 e2 s2 r2 =>
    h2 B2 H2 v w s2 (r1.mono e2) r2 Q fun u d B3 H3 O3 k e3 s3 r3 => q u d B3 H3 O3 k ((e1.trans e2).trans e3) s3 r3
theorem le_un {r : V → Hp → VK → Prop} {ta : TE} (h : LE G B0 ta ρ O fun x O1 => LU G B0 r x O1 κ) : LE G B0 (tUn r ta) ρ O κ := fun B H σ s t Q q =>
  h B H σ s t _ fun v x B1 H1 O1 h1 e1 s1 r1 => h1 B1 H1 v s1 r1 Q fun u d B3 H3 O3 k e3 s3 r3 => q u d B3 H3 O3 k (e1.trans e3) s3 r3
theorem la_nil {κ : List D → Ow → Prop} (k : κ [] O) : LA G B0 tNil ρ O κ := fun B H σ s t Q q => q [] [] B H O k (Ex.refl B) s .nil
theorem la_cons {κ : List D → Ow → Prop} {ta : TE} {tr : TA} (h : LE G B0 ta ρ O fun x O1 => LA G B0 tr ρ O1 fun xs O2 => κ (x :: xs) O2) : LA G B0 (tCons ta tr) ρ O κ := fun B H σ s t Q q =>
  h B H σ s t _ fun v x B1 H1 O1 h1 e1 s1 r1 => h1 B1 H1 σ s1 (t.mono e1) _ fun vs xs B2 H2 O2 k e2 s2 r2 => q (v :: vs) (x :: xs) B2 H2 O2 k (e1.trans e2) s2 (.cons (r1.mono e2) r2)
theorem le_tup {ta : TA} (h : LA G B0 ta ρ O fun xs O1 => ∃ ds : List PyData, xs = ds.map D.py ∧ ds.length ≤ 100000 ∧ κ (.py (.tuple ds)) O1) : LE G B0 (tTup ta) ρ O κ := fun B H σ s t Q q =>
  h B H σ s t _ fun vs xs B1 H1 O1 ⟨ds, ex, hl, k⟩ e1 s1 r1 => by
    subst ex
    have rd := Rps.toDd r1
    refine ⟨sz_of (by rw [DdAll.len rd]; exact hl), fun p hp => ?_⟩
    obtain ⟨e2, s2⟩ := s1.newB (o := .tup vs) hp
    exact q _ _ _ _ O1 k (e1.trans e2) s2 (show Dd _ _ _ _ from .tup (st_of upd_same) (rd.mono e2))
theorem le_lst {ta : TA} (h : LA G B0 ta ρ O fun xs O1 => ∃ ds : List PyData, xs = ds.map D.py ∧ ds.length ≤ 100000 ∧ κ (.py (.list ds)) O1) : LE G B0 (tLst ta) ρ O κ := fun B H σ s t Q q =>
  h B H σ s t _ fun vs xs B1 H1 O1 ⟨ds, ex, hl, k⟩ e1 s1 r1 => by
    subst ex
    have rd := Rps.toDd r1
    refine ⟨sz_of (by rw [DdAll.len rd]; exact hl), fun p hp => ?_⟩
    obtain ⟨e2, s2⟩ := s1.newB (o := .lst vs) hp
    exact q _ _ _ _ O1 k (e1.trans e2) s2 (show Dd _ _ _ _ from .lst upd_same (rd.mono e2))
/-- a list that will be changed -/
theorem le_lstO {ta : TA} (h : LA G B0 ta ρ O fun xs O1 => ∃ ds : List PyData, xs = ds.map D.py ∧ ds.length ≤ 100000 ∧ ∀ p, O1 p = none → κ (.own p) (oset O1 p ds)) : LE G B0 (tLst ta) ρ O κ := fun B H σ s t Q q =>
  h B H σ s t _ fun vs xs B1 H1 O1 ⟨ds, ex, hl, k⟩ e1 s1 r1 => by
    subst ex
    have rd := Rps.toDd r1
    refine ⟨sz_of (by rw [DdAll.len rd]; exact hl), fun p hp => ?_⟩
    have s2 := s1.newO hp rd
    have op : O1 p = none := by
      cases hO : O1 p with
      | none => rfl
      | some es =>
        obtain ⟨_, ws, h2, _⟩ := s1.ow p es hO
        rw [hp] at h2
        cases h2
    exact q _ _ B1 _ _ (k p op) e1 s2 rfl
theorem le_if {tt : TT} {ta tb : TE} (h : LT G B0 tt ρ O fun b O1 => if b = true then LE G B0 ta ρ O1 κ else LE G B0 tb ρ O1 κ) : LE G B0 (tIf tt ta tb) ρ O κ := fun B H σ s t Q q =>
  h B H σ s t _ fun b B1 H1 O1 h1 e1 s1 => by
    cases b with
    | true => exact (show LE G B0 ta ρ O1 κ from h1) B1 H1 σ s1 (t.mono e1) Q fun u d B3 H3 O3 k e3 s3 r3 => q u d B3 H3 O3 k (e1.trans e3) s3 r3
    | false => exact (show LE G B0 tb ρ O1 κ from h1) B1 H1 σ s1 (t.mono e1) Q fun u d B3 H3 O3 k e3 s3 r3 => q u d B3 H3 O3 k (e1.trans e3) s3 r3
theorem le_notV {ta : TE} (h : LE G B0 ta ρ O fun x O1 => ∃ b, x = .py (.bool b) ∧ κ (.py (.bool (!b))) O1) : LE G B0 (tNotV ta) ρ O κ := fun B H σ s t Q q =>
  h B H σ s t _ fun v x B1 H1 O1 ⟨b, ex, k⟩ e1 s1 r1 => by
    subst ex
    exact ⟨b, Dd.bl_inv r1, q _ _ B1 H1 O1 k e1 s1 (show Dd _ _ _ _ from .bl _)⟩
theorem le_andV {ta tb : TE} (h : LE G B0 ta ρ O fun x O1 => ∃ b, x = .py (.bool b) ∧ if b = true then LE G B0 tb ρ O1 κ else κ (.py (.bool false)) O1) : LE G B0 (tAndV ta tb) ρ O κ := fun B H σ s t Q q =>
  h B H σ s t _ fun v x B1 H1 O1 ⟨b, ex, k⟩ e1 s1 r1 => by
    subst ex
    refine ⟨b, Dd.bl_inv r1, ?_⟩
    cases b with
    | true => exact (show LE G B0 tb ρ O1 κ from k) B1 H1 σ s1 (t.mono e1) Q fun u d B3 H3 O3 k e3 s3 r3 => q u d B3 H3 O3 k (e1.trans e3) s3 r3
    | false => exact q _ _ B1 H1 O1 k e1 s1 (show Dd _ _ _ _ from .bl _)
theorem le_orV {ta tb : TE} (h : LE G B0 ta ρ O fun x O1 => ∃ b, x = .py (.bool b) ∧ if b = true then κ (.py (.bool true)) O1 else LE G B0 tb ρ O1 κ) : LE G B0 (tOrV ta tb) ρ O κ := fun B H σ s t Q q =>
  h B H σ s t _ fun v x B1 H1 O1 ⟨b, ex, k⟩ e1 s1 r1 => by
    subst ex
    refine ⟨b, Dd.bl_inv r1, ?_⟩
    cases b with
    | true => exact q _ _ B1 H1 O1 k e1 s1 (show Dd _ _ _ _ from .bl _)
    | false => exact (show LE G B0 tb ρ O1 κ from k) B1 H1 σ s1 (t.mono e1) Q fun u d B3 H3 O3 k e3 s3 r3 => q u d B3 H3 O3 k (e1.trans e3) s3 r3
theorem le_cb {r : List V → Hp → VK → Prop} {ta : TA} (h : LA G B0 ta ρ O fun xs O1 => LC G B0 r xs O1 κ) : LE G B0 (tCB r ta) ρ O κ := fun B H σ s t Q q =>
  h B H σ s t _ fun vs xs B1 H1 O1 h1 e1 s1 r1 => h1 B1 H1 vs s1 r1 Q fun u d B3 H3 O3 k e3 s3 r3 => q u d B3 H3 O3 k (e1.trans e3) s3 r3
/-- weaken, or take note of what came before -/
theorem LE.imp {te : TE} {κ' : D → Ow → Prop} (h : LE G B0 te ρ O κ) (k : ∀ d O', κ d O' → κ' d O') : LE G B0 te ρ O κ' := fun B H σ s t Q q => h B H σ s t Q fun u d B1 H1 O1 x => q u d B1 H1 O1 (k d O1 x)
theorem LT.imp {te : TT} {κ κ' : Bool → Ow → Prop} (h : LT G B0 te ρ O κ) (k : ∀ d O', κ d O' → κ' d O') : LT G B0 te ρ O κ' := fun B H σ s t Q q => h B H σ s t Q fun u B1 H1 O1 x => q u B1 H1 O1 (k u O1 x)
theorem LA.imp {te : TA} {κ κ' : List D → Ow → Prop} (h : LA G B0 te ρ O κ) (k : ∀ d O', κ d O' → κ' d O') : LA G B0 te ρ O κ' := fun B H σ s t Q q => h B H σ s t Q fun u d B1 H1 O1 x => q u d B1 H1 O1 (k d O1 x)
end
/-! ## tests -/
section
variable {G : Gs} {B0 : Hp} {ρ : Ro} {O : Ow} {κ : Bool → Ow → Prop}
theorem lt_test {te : TE} (h : LE G B0 te ρ O fun x O1 => ∃ b, x = .py (.bool b) ∧ κ b O1) : LT G B0 (tTest te) ρ O κ := fun B H σ s t Q q =>
  h B H σ s t _ fun v x B1 H1 O1 ⟨b, ex, k⟩ e1 s1 r1 => by
    subst ex
    exact ⟨b, Dd.bl_inv r1, q b B1 H1 O1 k e1 s1⟩
theorem lt_and {t u : TT} (h : LT G B0 t ρ O fun b O1 => if b = true then LT G B0 u ρ O1 κ else κ false O1) : LT G B0 (tAnd t u) ρ O κ := fun B H σ s st Q q =>
  h B H σ s st _ fun b B1 H1 O1 h1 e1 s1 => by
    cases b with
    | true => exact (show LT G B0 u ρ O1 κ from h1) B1 H1 σ s1 (st.mono e1) Q fun b2 B3 H3 O3 k e3 s3 => q b2 B3 H3 O3 k (e1.trans e3) s3
    | false => exact q false B1 H1 O1 h1 e1 s1
theorem lt_or {t u : TT} (h : LT G B0 t ρ O fun b O1 => if b = true then κ true O1 else LT G B0 u ρ O1 κ) : LT G B0 (tOr t u) ρ O κ := fun B H σ s st Q q =>
  h B H σ s st _ fun b B1 H1 O1 h1 e1 s1 => by
    cases b with
    | true => exact q true B1 H1 O1 h1 e1 s1
    | false => exact (show LT G B0 u ρ O1 κ from h1) B1 H1 σ s1 (st.mono e1) Q fun b2 B3 H3 O3 k e3 s3 => q b2 B3 H3 O3 k (e1.trans e3) s3
theorem lt_not {t : TT} (h : LT G B0 t ρ O fun b O1 => κ (!b) O1) : LT G B0 (tNot t) ρ O κ := fun B H σ s st Q q => h B H σ s st _ fun b B1 H1 O1 h1 e1 s1 => q _ B1 H1 O1 h1 e1 s1
theorem lt_yes (k : κ true O) : LT G B0 tYes ρ O κ := fun B H σ s st Q q => q true B H O k (Ex.refl B) s
/-- a value's truth -/
def truD : D → Bool → Prop
  | .py .none, b => b = false
  | .py (.bool c), b => b = c
  | .py (.int i), b => b = (i != 0)
  | .py (.list ds), b => b = !ds.isEmpty
  | .py (.tuple ds), b => b = !ds.isEmpty
  | _, _ => False
def tTr (K : PySem.W.Frag) (ta : TE) : TT := fun σ H Q => ta σ H fun x H' => ∃ k, TruV K x H' k ∧ Q k H'
theorem isEmpty_len {α β : Type} : ∀ {xs : List α} {ys : List β}, xs.length = ys.length → xs.isEmpty = ys.isEmpty
  | [], [], _ => rfl
  | _ :: _, _ :: _, _ => rfl
theorem lt_tr {te : TE} (h : LE G B0 te ρ O fun x O1 => ∃ b, truD x b ∧ κ b O1) : LT G B0 (tTr G.K te) ρ O κ := fun B H σ s t Q q =>
  h B H σ s t _ fun v x B1 H1 O1 ⟨b, hb, k⟩ e1 s1 r1 => by
    refine ⟨b, ?_, q b B1 H1 O1 k e1 s1⟩
    cases x with
    | py d =>
      cases d with
      | none => cases (show Dd _ _ _ _ from r1); exact hb
      | bool c => rw [Dd.bl_inv r1]; exact hb
      | int i => rw [Dd.int_inv r1]; exact hb
      | str x => exact False.elim hb
      | list ds =>
        obtain ⟨a, xs, rfl, h1, h2⟩ := Dd.lst_inv r1
        exact Or.inl ⟨xs, sq_of (s1.ex _ _ h1), by rw [isEmpty_len h2.len]; exact hb⟩
      | tuple ds =>
        obtain ⟨a, xs, rfl, h1, h2⟩ := Dd.tup_inv r1
        exact Or.inr (Or.inl ⟨xs, ex_t s1.ex h1, by rw [isEmpty_len h2.len]; exact hb⟩)
      | dict kvs => exact False.elim hb
    | own a => exact False.elim hb
    | sc ns => exact False.elim hb
    | rel ns => exact False.elim hb
    | exc e dd x => exact False.elim hb
    | raw u => exact False.elim hb
end
/-! ## statements -/
section
variable {G : Gs} {B0 : Hp} {ρ : Ro} {O : Ow} {N : Ro → Ow → Prop} {R : D → Ow → Prop} {Bk Ct : Ro → Ow → Prop}
theorem ls_next (k : N ρ O) : LS G B0 tNext ρ O N R Bk Ct := fun B H σ s t Dn hn hr hb hc => hn B H σ ρ O k (Ex.refl B) s t
theorem ls_seq {t u : TS} (h : LS G B0 t ρ O (fun ρ1 O1 => LS G B0 u ρ1 O1 N R Bk Ct) R Bk Ct) : LS G B0 (tSeq t u) ρ O N R Bk Ct := fun B H σ s st Dn hn hr hb hc =>
  h B H σ s st { Dn with nx := u Dn } (fun B1 H1 σ1 ρ1 O1 h1 e1 s1 t1 => h1 B1 H1 σ1 s1 t1 Dn
      (fun B2 H2 σ2 ρ2 O2 k e2 s2 t2 => hn B2 H2 σ2 ρ2 O2 k (e1.trans e2) s2 t2) (fun v d B2 H2 O2 k e2 s2 r2 => hr v d B2 H2 O2 k (e1.trans e2) s2 r2)
      (fun B2 H2 σ2 ρ2 O2 k e2 s2 t2 => hb B2 H2 σ2 ρ2 O2 k (e1.trans e2) s2 t2) (fun B2 H2 σ2 ρ2 O2 k e2 s2 t2 => hc B2 H2 σ2 ρ2 O2 k (e1.trans e2) s2 t2)) hr hb hc
theorem ls_set {te : TE} {i : Nat} (h : LE G B0 te ρ O fun d O1 => N (ρ.set i (some d)) O1) : LS G B0 (tAsg te (gName i)) ρ O N R Bk Ct := fun B H σ s t Dn hn hr hb hc =>
  h B H σ s t _ fun v d B1 H1 O1 k e1 s1 r1 => hn B1 H1 _ _ O1 k e1 s1 ((t.mono e1).set i r1)
theorem ls_asg {te : TE} {g : TG} (h : LE G B0 te ρ O fun d O1 => LG G B0 g d ρ O1 N) : LS G B0 (tAsg te g) ρ O N R Bk Ct := fun B H σ s t Dn hn hr hb hc =>
  h B H σ s t _ fun v d B1 H1 O1 h1 e1 s1 r1 => h1 B1 H1 σ v s1 (t.mono e1) r1 _ fun B2 H2 σ2 ρ2 O2 k e2 s2 t2 => hn B2 H2 σ2 ρ2 O2 k (e1.trans e2) s2 t2
theorem ls_ret {te : TE} (h : LE G B0 te ρ O R) : LS G B0 (tRet te) ρ O N R Bk Ct := fun B H σ s t Dn hn hr hb hc => h B H σ s t _ hr
theorem ls_retN (h : R (.py .none) O) : LS G B0 tRetN ρ O N R Bk Ct := fun B H σ s t Dn hn hr hb hc => hr _ _ B H O h (Ex.refl B) s (show Dd _ _ _ _ from .non)
theorem ls_drop {te : TE} (h : LE G B0 te ρ O fun _ O1 => N ρ O1) : LS G B0 (tDrop te) ρ O N R Bk Ct := fun B H σ s t Dn hn hr hb hc =>
  h B H σ s t _ fun v d B1 H1 O1 k e1 s1 r1 => hn B1 H1 σ ρ O1 k e1 s1 (t.mono e1)
theorem ls_if {c : TT} {t u : TS} (h : LT G B0 c ρ O fun b O1 => if b = true then LS G B0 t ρ O1 N R Bk Ct else LS G B0 u ρ O1 N R Bk Ct) : LS G B0 (tIfS c t u) ρ O N R Bk Ct := fun B H σ s st Dn hn hr hb hc =>
  h B H σ s st _ fun b B1 H1 O1 h1 e1 s1 => by
    cases b with
    | true =>
      exact (show LS G B0 t ρ O1 N R Bk Ct from h1) B1 H1 σ s1 (st.mono e1) Dn
        (fun B2 H2 σ2 ρ2 O2 k e2 s2 t2 => hn B2 H2 σ2 ρ2 O2 k (e1.trans e2) s2 t2) (fun v d B2 H2 O2 k e2 s2 r2 => hr v d B2 H2 O2 k (e1.trans e2) s2 r2)
        (fun B2 H2 σ2 ρ2 O2 k e2 s2 t2 => hb B2 H2 σ2 ρ2 O2 k (e1.trans e2) s2 t2) (fun B2 H2 σ2 ρ2 O2 k e2 s2 t2 => hc B2 H2 σ2 ρ2 O2 k (e1.trans e2) s2 t2)
    | false =>
      exact (show LS G B0 u ρ O1 N R Bk Ct from h1) B1 H1 σ s1 (st.mono e1) Dn
        (fun B2 H2 σ2 ρ2 O2 k e2 s2 t2 => hn B2 H2 σ2 ρ2 O2 k (e1.trans e2) s2 t2) (fun v d B2 H2 O2 k e2 s2 r2 => hr v d B2 H2 O2 k (e1.trans e2) s2 r2)
        (fun B2 H2 σ2 ρ2 O2 k e2 s2 t2 => hb B2 H2 σ2 ρ2 O2 k (e1.trans e2) s2 t2) (fun B2 H2 σ2 ρ2 O2 k e2 s2 t2 => hc B2 H2 σ2 ρ2 O2 k (e1.trans e2) s2 t2)
theorem ls_par {i j : Nat} {ta : TA} (h : LA G B0 ta ρ O fun ds O1 => ∃ x y, ds = [x, y] ∧ N ((ρ.set i (some x)).set j (some y)) O1) : LS G B0 (tPar i j ta) ρ O N R Bk Ct := fun B H σ s t Dn hn hr hb hc =>
  h B H σ s t _ fun vs ds B1 H1 O1 ⟨x, y, ex, k⟩ e1 s1 r1 => by
    subst ex
    cases r1 with
    | cons rx r1 =>
      cases r1 with
      | cons ry r1 =>
        cases r1
        exact ⟨_, _, rfl, hn B1 H1 _ _ O1 k e1 s1 (((t.mono e1).set i rx).set j ry)⟩
theorem ls_par3 {i j l : Nat} {ta : TA} (h : LA G B0 ta ρ O fun ds O1 => ∃ x y z, ds = [x, y, z] ∧ N (((ρ.set i (some x)).set j (some y)).set l (some z)) O1) : LS G B0 (tPar3 i j l ta) ρ O N R Bk Ct := fun B H σ s t Dn hn hr hb hc =>
  h B H σ s t _ fun vs ds B1 H1 O1 ⟨x, y, z, ex, k⟩ e1 s1 r1 => by
    subst ex
    cases r1 with
    | cons rx r1 =>
      cases r1 with
      | cons ry r1 =>
        cases r1 with
        | cons rz r1 =>
          cases r1
          exact ⟨_, _, _, rfl, hn B1 H1 _ _ O1 k e1 s1 ((((t.mono e1).set i rx).set j ry).set l rz)⟩
theorem LS.imp {ts : TS} {N' : Ro → Ow → Prop} {R' : D → Ow → Prop} {Bk' Ct' : Ro → Ow → Prop} (h : LS G B0 ts ρ O N R Bk Ct) (hn : ∀ ρ O, N ρ O → N' ρ O) (hr : ∀ d O, R d O → R' d O) (hb : ∀ ρ O, Bk ρ O → Bk' ρ O) (hc : ∀ ρ O, Ct ρ O → Ct' ρ O) :
    LS G B0 ts ρ O N' R' Bk' Ct' := fun B H σ s t Dn a b c d => h B H σ s t Dn (fun B1 H1 σ1 ρ1 O1 k => a B1 H1 σ1 ρ1 O1 (hn _ _ k)) (fun v x B1 H1 O1 k => b v x B1 H1 O1 (hr _ _ k)) (fun B1 H1 σ1 ρ1 O1 k => c B1 H1 σ1 ρ1 O1 (hb _ _ k)) (fun B1 H1 σ1 ρ1 O1 k => d B1 H1 σ1 ρ1 O1 (hc _ _ k))
/-- a list that may change is looked at as plain data from here on (slot i) -/
theorem ls_freeze {ts : TS} {i : Nat} {p : Addr} {ds : List PyData} (hi : ρ[i]? = some (some (.own p))) (hp : O p = some ds) (h : LS G B0 ts (ρ.set i (some (.py (.list ds)))) (odel O p) N R Bk Ct) : LS G B0 ts ρ O N R Bk Ct := fun B H σ s t Dn hn hr hb hc => by
  obtain ⟨B1, e1, s1, r1⟩ := s.freeze hp
  obtain ⟨v, hv, rv⟩ := t.get i _ hi
  cases (show v = V.ref p from rv)
  have t1 := (t.mono e1).set i (show Rp G B1 (.ref p) (.py (.list ds)) from r1)
  have es : σ.set i (some (V.ref p)) = σ := by
    refine List.ext_getElem? fun j => ?_
    rw [List.getElem?_set]
    by_cases hj : i = j
    · subst hj
      rw [if_pos rfl, hv]
      split
      · rfl
      · rename_i hl
        rw [List.getElem?_eq_none (Nat.le_of_not_lt hl)] at hv
        cases hv
    · rw [if_neg hj]
  rw [es] at t1
  exact h B1 H σ s1 t1 Dn (fun B2 H2 σ2 ρ2 O2 k e2 s2 t2 => hn B2 H2 σ2 ρ2 O2 k (e1.trans e2) s2 t2) (fun v d B2 H2 O2 k e2 s2 r2 => hr v d B2 H2 O2 k (e1.trans e2) s2 r2)
        (fun B2 H2 σ2 ρ2 O2 k e2 s2 t2 => hb B2 H2 σ2 ρ2 O2 k (e1.trans e2) s2 t2) (fun B2 H2 σ2 ρ2 O2 k e2 s2 t2 => hc B2 H2 σ2 ρ2 O2 k (e1.trans e2) s2 t2)
/-- the result of an expression, a new list, is looked at as plain data -/
theorem le_freeze {te : TE} {κ : D → Ow → Prop} (h : LE G B0 te ρ O fun d O1 => ∃ p ds, d = .own p ∧ O1 p = some ds ∧ κ (.py (.list ds)) (odel O1 p)) : LE G B0 te ρ O κ := fun B H σ s t Q q =>
  h B H σ s t _ fun v d B1 H1 O1 ⟨p, ds, ed, hp, k⟩ e1 s1 r1 => by
    subst ed
    obtain ⟨B2, e2, s2, r2⟩ := s1.freeze hp
    cases (show v = V.ref p from r1)
    exact q _ _ B2 H1 _ k (e1.trans e2) s2 r2
/-! ## targets -/
theorem lg_name {i : Nat} {d : D} (k : N (ρ.set i (some d)) O) : LG G B0 (gName i) d ρ O N := fun B H σ v s t r Q q => q B H _ _ O k (Ex.refl B) s (t.set i r)
theorem lgs_nil (k : N ρ O) : LGs G B0 gNil [] ρ O N := fun B H σ vs s t r Q q => by
  cases r
  exact ⟨rfl, q B H _ _ O k (Ex.refl B) s t⟩
theorem lgs_cons {g : TG} {gs : TGs} {d : D} {ds : List D} (h : LG G B0 g d ρ O fun ρ1 O1 => LGs G B0 gs ds ρ1 O1 N) : LGs G B0 (gCons g gs) (d :: ds) ρ O N := fun B H σ vs s t r Q q => by
  cases r with
  | cons rv rs =>
    exact ⟨_, _, rfl, h B H σ _ s t rv _ fun B1 H1 σ1 ρ1 O1 h1 e1 s1 t1 => h1 B1 H1 σ1 _ s1 t1 (Rps.mono e1 rs) Q fun B2 H2 σ2 ρ2 O2 k e2 s2 t2 => q B2 H2 σ2 ρ2 O2 k (e1.trans e2) s2 t2⟩
theorem lg_tup {g : TGs} {ds : List PyData} {n : Nat} (hn : ds.length = n) (h : LGs G B0 g (ds.map D.py) ρ O N) : LG G B0 (gTup G.K n g) (.py (.tuple ds)) ρ O N := fun B H σ v s t r Q q => by
  obtain ⟨a, xs, rfl, h1, h2⟩ := Dd.tup_inv r
  exact ⟨a, xs, rfl, ex_t s.ex h1, h2.len.trans hn, h B H σ xs s t (Rps.ofDd h2) Q q⟩
theorem lg_unl {g : TGs} {ds : List PyData} {n : Nat} (hn : ds.length = n) (h : LGs G B0 g (ds.map D.py) ρ O N) : LG G B0 (gUnl G.K n g) (.py (.list ds)) ρ O N := fun B H σ v s t r Q q => by
  obtain ⟨a, xs, rfl, h1, h2⟩ := Dd.lst_inv r
  exact ⟨a, xs, rfl, sq_of (s.ex _ _ h1), h2.len.trans hn, h B H σ xs s t (Rps.ofDd h2) Q q⟩
/-- o[i] = v of a list that may change -/
theorem lg_sub {to ti : TE} {d : D} (h : LE G B0 to ρ O fun x O1 => LE G B0 ti ρ O1 fun y O2 => ∃ (p : Addr) (ds : List PyData) (k : Int) (j : Nat) (e : PyData), x = .own p ∧ y = .py (.int k) ∧ d = .py e ∧ O2 p = some ds ∧ ixN ds.length k = some j ∧ N ρ (oset O2 p (ds.set j e))) :
    LG G B0 (gSub to ti rSetL) d ρ O N := fun B H σ v s t r Q q =>
  h B H σ s t _ fun x dx B1 H1 O1 h1 e1 s1 r1 => h1 B1 H1 σ s1 (t.mono e1) _ fun y dy B2 H2 O2 ⟨p, ds, k, j, e, ex, ey, ed, hp, hj, hn⟩ e2 s2 r2 => by
    subst ex ey ed
    cases (show x = V.ref p from r1)
    rw [Dd.int_inv r2]
    obtain ⟨_, vs, h2, h3⟩ := s2.ow p ds hp
    refine ⟨p, vs, k, j, rfl, rfl, h2, by rw [h3.len]; exact hj, ?_⟩
    have r' : Dd G.K B2 v e := Dd.mono (e1.trans e2) r
    exact q B2 _ σ ρ _ hn (e1.trans e2) (s2.chg hp (h3.set r' j)) (t.mono (e1.trans e2))
/-! ## loops -/
theorem ls_while {c : TT} {tb : TS} (I : Nat → Ro → Ow → Prop) (m0 : Nat) (h0 : I m0 ρ O)
    (hs : ∀ m ρ' O', I m ρ' O' → LT G B0 c ρ' O' fun b O1 => if b = true then LS G B0 tb ρ' O1 (fun ρ2 O2 => ∃ m', m' < m ∧ I m' ρ2 O2) R N (fun ρ2 O2 => ∃ m', m' < m ∧ I m' ρ2 O2) else N ρ' O1) :
    LS G B0 (tWhile c tb) ρ O N R Bk Ct := fun B H σ s st Dn hn hr hb hc => by
  refine ⟨fun m σ' H' => ∃ B' ρ' O', I m ρ' O' ∧ Ex B B' ∧ SatH G B0 B' H' O' ∧ Slots G B' σ' ρ', ⟨m0, B, ρ, O, h0, Ex.refl B, s, st⟩, ?_⟩
  rintro m σ' H' ⟨B', ρ', O', hI, e, s', st'⟩
  refine hs m ρ' O' hI B' H' σ' s' st' _ fun b B1 H1 O1 h1 e1 s1 => ?_
  cases b with
  | true =>
    refine ⟨_, fun σ2 H2 w => w, ?_⟩
    refine (show LS G B0 tb ρ' O1 _ R N _ from h1) B1 H1 σ' s1 (st'.mono e1) _ ?_ ?_ ?_ ?_
    · rintro B2 H2 σ2 ρ2 O2 ⟨m', hm, hI2⟩ e2 s2 t2
      exact ⟨m', hm, B2, ρ2, O2, hI2, (e.trans e1).trans e2, s2, t2⟩
    · exact fun v d B2 H2 O2 k e2 s2 r2 => hr v d B2 H2 O2 k ((e.trans e1).trans e2) s2 r2
    · exact fun B2 H2 σ2 ρ2 O2 k e2 s2 t2 => hn B2 H2 σ2 ρ2 O2 k ((e.trans e1).trans e2) s2 t2
    · rintro B2 H2 σ2 ρ2 O2 ⟨m', hm, hI2⟩ e2 s2 t2
      exact ⟨m', hm, B2, ρ2, O2, hI2, (e.trans e1).trans e2, s2, t2⟩
  | false => exact hn B1 H1 σ' ρ' O1 h1 (e.trans e1) s1 (st'.mono e1)
end
/-- what a walk gives -/
def Yl (G : Gs) (J : It) (B : Hp) (ds : List D) : Prop := ∀ B2 H2, Ex B B2 → Ex B2 H2 → (∀ i, ds.length ≤ i → J.stop i H2) ∧
  ∀ (i : Nat) (d : D), ds[i]? = some d → J.go i H2 ∧ ∀ x H3, J.yld i H2 x H3 → (H3 = H2 ∧ Rp G B2 x d) ∨ ∃ T o, H2 T = none ∧ (∀ ps, o ≠ .tbl ps) ∧ H3 = upd H2 T o ∧ Rp G (upd B2 T o) x d
def LI (G : Gs) (B0 : Hp) (wi : TI) (ρ : Ro) (O : Ow) (κ : List D → Ow → Prop) : Prop :=
  ∀ B H σ, SatH G B0 B H O → Slots G B σ ρ → ∀ Q : It → Hp → Prop, (∀ J ds B' H' O', κ ds O' → Ex B B' → SatH G B0 B' H' O' → Yl G J B' ds → Q J H') → wi σ H Q
theorem Yl.mono {G : Gs} {J : It} {B B' : Hp} {ds : List D} (e : Ex B B') (y : Yl G J B ds) : Yl G J B' ds := fun B2 H2 e2 e3 => y B2 H2 (e.trans e2) e3
section
variable {G : Gs} {B0 : Hp} {ρ : Ro} {O : Ow} {N : Ro → Ow → Prop} {R : D → Ow → Prop} {Bk Ct : Ro → Ow → Prop}
theorem yl_list {a : Addr} {vs : List V} {ds : List PyData} {B : Hp} (h : B a = some (.lst vs)) (hd : DdAll G.K B vs ds) : Yl G (Itl G.K a) B (ds.map D.py) := fun B2 H2 e2 e3 => by
  have q : SqL G.K H2 a vs := sq_of (e3 _ _ (e2 _ _ h))
  refine ⟨fun i hi => ⟨vs, q, by rw [hd.len]; rw [List.length_map] at hi; exact hi⟩, fun i d hi => ?_⟩
  rw [List.getElem?_map] at hi
  cases hdi : ds[i]? with
  | none => rw [hdi] at hi; cases hi
  | some e =>
    rw [hdi] at hi
    cases hi
    obtain ⟨v, hv, hr⟩ := hd.get hdi
    refine ⟨⟨vs, v, q, hv⟩, fun x H3 ⟨h3, hx⟩ => Or.inl ⟨h3, ?_⟩⟩
    have := hx vs q
    rw [hv] at this
    cases this
    exact Dd.mono e2 hr
theorem yl_tup {a : Addr} {vs : List V} {ds : List PyData} {B : Hp} (h : SqT G.K B a vs) (hd : DdAll G.K B vs ds) : Yl G (Itt G.K a) B (ds.map D.py) := fun B2 H2 e2 e3 => by
  have q : SqT G.K H2 a vs := ex_t e3 (ex_t e2 h)
  refine ⟨fun i hi => ⟨vs, q, by rw [hd.len]; rw [List.length_map] at hi; exact hi⟩, fun i d hi => ?_⟩
  rw [List.getElem?_map] at hi
  cases hdi : ds[i]? with
  | none => rw [hdi] at hi; cases hi
  | some e =>
    rw [hdi] at hi
    cases hi
    obtain ⟨v, hv, hr⟩ := hd.get hdi
    refine ⟨⟨vs, v, q, hv⟩, fun x H3 ⟨h3, hx⟩ => Or.inl ⟨h3, ?_⟩⟩
    have := hx vs q
    rw [hv] at this
    cases this
    exact Dd.mono e2 hr
/-- lo, lo + 1, .. -/
def rngD (lo : Int) (n : Nat) : List D := (List.range n).map fun (i : Nat) => D.py (.int (lo + (i : Int)))
theorem yl_rng {B : Hp} (lo : Int) (n : Nat) : Yl G (Itr lo n) B (rngD lo n) := fun B2 H2 e2 e3 => by
  refine ⟨fun i hi => by unfold rngD at hi; rw [List.length_map, List.length_range] at hi; exact hi, fun i d hi => ?_⟩
  unfold rngD at hi
  rw [List.getElem?_map] at hi
  by_cases hn : i < n
  · rw [List.getElem?_range hn] at hi
    cases hi
    exact ⟨hn, fun x H3 ⟨h3, hx⟩ => Or.inl ⟨h3, by rw [hx]; exact Dd.int _⟩⟩
  · rw [List.getElem?_eq_none (by rw [List.length_range]; omega)] at hi
    cases hi
theorem li_list {te : TE} {κ : List D → Ow → Prop} (h : LE G B0 te ρ O fun x O1 => ∃ ds, x = .py (.list ds) ∧ κ (ds.map D.py) O1) : LI G B0 (iList G.K te) ρ O κ := fun B H σ s t Q q =>
  h B H σ s t _ fun v x B1 H1 O1 ⟨ds, ex, k⟩ e1 s1 r1 => by
    subst ex
    obtain ⟨a, vs, rfl, h1, h2⟩ := Dd.lst_inv r1
    exact ⟨a, rfl, ⟨vs, sq_of (s1.ex _ _ h1)⟩, q _ _ B1 H1 O1 k e1 s1 (yl_list h1 h2)⟩
theorem li_tup {te : TE} {κ : List D → Ow → Prop} (h : LE G B0 te ρ O fun x O1 => ∃ ds, x = .py (.tuple ds) ∧ κ (ds.map D.py) O1) : LI G B0 (iTup G.K te) ρ O κ := fun B H σ s t Q q =>
  h B H σ s t _ fun v x B1 H1 O1 ⟨ds, ex, k⟩ e1 s1 r1 => by
    subst ex
    obtain ⟨a, vs, rfl, h1, h2⟩ := Dd.tup_inv r1
    exact ⟨a, rfl, ⟨vs, ex_t s1.ex h1⟩, q _ _ B1 H1 O1 k e1 s1 (yl_tup h1 h2)⟩
theorem li_rng1 {ta : TA} {κ : List D → Ow → Prop} (h : LA G B0 ta ρ O fun xs O1 => ∃ j : Int, xs = [.py (.int j)] ∧ j < 100000 ∧ -100000 < j ∧ κ (rngD 0 j.toNat) O1) : LI G B0 (iRng1 ta) ρ O κ := fun B H σ s t Q q =>
  h B H σ s t _ fun vs xs B1 H1 O1 ⟨j, ex, hj, hj2, k⟩ e1 s1 r1 => by
    subst ex
    cases r1 with
    | cons rv rs =>
      cases rs
      rw [Dd.int_inv rv]
      exact ⟨j, rfl, by omega, by omega, q _ _ B1 H1 O1 k e1 s1 (yl_rng 0 _)⟩
theorem yl_enum {a : Addr} {vs : List V} {ds : List PyData} {B : Hp} (h : B a = some (.lst vs)) (hd : DdAll G.K B vs ds) : Yl G (Ite G.K a) B ((List.range ds.length).map fun (i : Nat) => D.py (.tuple [.int (i : Int), ds.getD i .none])) := fun B2 H2 e2 e3 => by
  have q : SqL G.K H2 a vs := sq_of (e3 _ _ (e2 _ _ h))
  refine ⟨fun i hi => ⟨vs, q, by rw [hd.len]; rw [List.length_map, List.length_range] at hi; exact hi⟩, fun i d hi => ?_⟩
  rw [List.getElem?_map] at hi
  by_cases hn : i < ds.length
  · rw [List.getElem?_range hn] at hi
    cases hi
    have hdi : ds[i]? = some (ds.getD i .none) := by
      rw [List.getD_eq_getElem?_getD, List.getElem?_eq_getElem hn]
      rfl
    obtain ⟨v, hv, hr⟩ := hd.get hdi
    refine ⟨⟨vs, v, q, hv⟩, fun x H3 ⟨T, y, ex, hT, h3, hx⟩ => Or.inr ⟨T, _, hT, nt_tup, h3, ?_⟩⟩
    have := hx vs q
    rw [hv] at this
    cases this
    have b2T : B2 T = none := fresh_back e3 hT
    rw [ex]
    exact Dd.tup (st_of upd_same) (.cons (.int _) (.cons (Dd.mono (e2.trans (Ex.new b2T)) hr) .nil))
  · rw [List.getElem?_eq_none (by rw [List.length_range]; omega)] at hi
    cases hi
theorem li_enum {ta : TA} {κ : List D → Ow → Prop} (h : LA G B0 ta ρ O fun xs O1 => ∃ ds : List PyData, xs = [.py (.list ds)] ∧ κ ((List.range ds.length).map fun (i : Nat) => D.py (.tuple [.int (i : Int), ds.getD i .none])) O1) : LI G B0 (iEnum G.K ta) ρ O κ := fun B H σ s t Q q =>
  h B H σ s t _ fun vs xs B1 H1 O1 ⟨ds, ex, k⟩ e1 s1 r1 => by
    subst ex
    cases r1 with
    | cons rv rs =>
      cases rs
      obtain ⟨a, ws, rfl, h1, h2⟩ := Dd.lst_inv rv
      exact ⟨a, ws, rfl, sq_of (s1.ex _ _ h1), q _ _ B1 H1 O1 k e1 s1 (yl_enum h1 h2)⟩
theorem yl_zip {a b : Addr} {vs ws : List V} {ds es : List PyData} {B : Hp} (h : B a = some (.lst vs)) (hd : DdAll G.K B vs ds) (h' : B b = some (.lst ws)) (hd' : DdAll G.K B ws es) :
    Yl G (Itz G.K a b) B ((ds.zip es).map fun p => .py (.tuple [p.1, p.2])) := fun B2 H2 e2 e3 => by
  have q : SqL G.K H2 a vs := sq_of (e3 _ _ (e2 _ _ h))
  have q' : SqL G.K H2 b ws := sq_of (e3 _ _ (e2 _ _ h'))
  refine ⟨fun i hi => ⟨vs, ws, q, q', by rw [hd.len, hd'.len]; rw [List.length_map, List.length_zip] at hi; omega⟩, fun i d hi => ?_⟩
  rw [List.getElem?_map] at hi
  cases hz : (ds.zip es)[i]? with
  | none => rw [hz] at hi; cases hi
  | some p =>
    rw [hz] at hi
    cases hi
    obtain ⟨h1, h2⟩ := List.getElem?_zip_eq_some.mp hz
    obtain ⟨v, hv, hr⟩ := hd.get h1
    obtain ⟨w, hw, hr'⟩ := hd'.get h2
    refine ⟨⟨vs, ws, v, w, q, q', hv, hw⟩, fun x H3 ⟨T, y, z, ex, hT, h3, hx, hx'⟩ => Or.inr ⟨T, _, hT, nt_tup, h3, ?_⟩⟩
    have u1 := hx vs q
    rw [hv] at u1
    cases u1
    have u2 := hx' ws q'
    rw [hw] at u2
    cases u2
    have b2T : B2 T = none := fresh_back e3 hT
    rw [ex]
    exact Dd.tup (st_of upd_same) (.cons (Dd.mono (e2.trans (Ex.new b2T)) hr) (.cons (Dd.mono (e2.trans (Ex.new b2T)) hr') .nil))
theorem li_zip {ta : TA} {κ : List D → Ow → Prop} (h : LA G B0 ta ρ O fun xs O1 => ∃ ds es : List PyData, xs = [.py (.list ds), .py (.list es)] ∧ κ ((ds.zip es).map fun p => .py (.tuple [p.1, p.2])) O1) : LI G B0 (iZip G.K ta) ρ O κ := fun B H σ s t Q q =>
  h B H σ s t _ fun vs xs B1 H1 O1 ⟨ds, es, ex, k⟩ e1 s1 r1 => by
    subst ex
    cases r1 with
    | cons rv rs =>
      cases rs with
      | cons rw' rs =>
        cases rs
        obtain ⟨a, us, rfl, h1, h2⟩ := Dd.lst_inv rv
        obtain ⟨b, ws, rfl, h3, h4⟩ := Dd.lst_inv rw'
        exact ⟨a, b, us, ws, rfl, sq_of (s1.ex _ _ h1), sq_of (s1.ex _ _ h3), q _ _ B1 H1 O1 k e1 s1 (yl_zip h1 h2 h3 h4)⟩
theorem ls_for {wi : TI} {g : TG} {tb : TS}
    (h : LI G B0 wi ρ O fun ds O1 => ∃ I : Nat → Ro → Ow → Prop, I 0 ρ O1 ∧
      (∀ (i : Nat) (d : D) ρ' O', ds[i]? = some d → I i ρ' O' → LG G B0 g d ρ' O' fun ρ2 O2 => LS G B0 tb ρ2 O2 (I (i + 1)) R N (I (i + 1))) ∧ ∀ ρ' O', I ds.length ρ' O' → N ρ' O') :
    LS G B0 (tFor wi g tb) ρ O N R Bk Ct := fun B H σ s st Dn hn hr hb hc => by
  refine h B H σ s st _ fun J ds B1 H1 O1 ⟨I, i0, hs, hd⟩ e1 s1 y => ?_
  refine ⟨fun i m σ' H' => m + i = ds.length ∧ ∃ B' ρ' O', I i ρ' O' ∧ Ex B1 B' ∧ SatH G B0 B' H' O' ∧ Slots G B' σ' ρ', ⟨ds.length, rfl, B1, ρ, O1, i0, Ex.refl B1, s1, st.mono e1⟩, ?_⟩
  rintro i m σ' H' ⟨hm, B', ρ', O', hI, e, s', st'⟩
  obtain ⟨y1, y2⟩ := y B' H' e s'.ex
  by_cases hi : i < ds.length
  · right
    have hdi : ds[i]? = some ds[i] := List.getElem?_eq_getElem hi
    obtain ⟨g1, g2⟩ := y2 i _ hdi
    refine ⟨g1, _, fun σ2 H2 w => ⟨m - 1, by omega, w⟩, fun x H3 hx => ?_⟩
    have fin : ∀ B'' , Ex B' B'' → SatH G B0 B'' H3 O' → Rp G B'' x ds[i] → g x σ' H3 fun σ2 H2 => tb { Dn with nx := fun σ2 H2 => m - 1 + (i + 1) = ds.length ∧ ∃ B' ρ' O', I (i + 1) ρ' O' ∧ Ex B1 B' ∧ SatH G B0 B' H2 O' ∧ Slots G B' σ2 ρ', ct := fun σ2 H2 => m - 1 + (i + 1) = ds.length ∧ ∃ B' ρ' O', I (i + 1) ρ' O' ∧ Ex B1 B' ∧ SatH G B0 B' H2 O' ∧ Slots G B' σ2 ρ', bk := Dn.nx } σ2 H2 := by
      intro B'' e'' s'' r''
      refine hs i _ ρ' O' hdi hI B'' H3 σ' x s'' (st'.mono e'') r'' _ fun B2 H2 σ2 ρ2 O2 k e2 s2 t2 => ?_
      refine k B2 H2 σ2 s2 t2 _ ?_ ?_ ?_ ?_
      · exact fun B3 H3 σ3 ρ3 O3 k3 e3 s3 t3 => ⟨by omega, B3, ρ3, O3, k3, ((e.trans e'').trans e2).trans e3, s3, t3⟩
      · exact fun v d B3 H3 O3 k3 e3 s3 r3 => hr v d B3 H3 O3 k3 ((((e1.trans e).trans e'').trans e2).trans e3) s3 r3
      · exact fun B3 H3 σ3 ρ3 O3 k3 e3 s3 t3 => hn B3 H3 σ3 ρ3 O3 k3 ((((e1.trans e).trans e'').trans e2).trans e3) s3 t3
      · exact fun B3 H3 σ3 ρ3 O3 k3 e3 s3 t3 => ⟨by omega, B3, ρ3, O3, k3, ((e.trans e'').trans e2).trans e3, s3, t3⟩
    rcases g2 x H3 hx with ⟨h3, r⟩ | ⟨T, o, hT, nT, h3, r⟩
    · subst h3
      exact fin B' (Ex.refl B') s' r
    · subst h3
      obtain ⟨e2, s2⟩ := s'.newB (o := o) hT nT
      exact fin _ e2 s2 r
  · left
    have hl : i = ds.length := by omega
    subst hl
    exact ⟨y1 _ (Nat.le_refl _), hn B' H' σ' ρ' O' (hd ρ' O' hI) (e1.trans e) s' st'⟩
/-! ## comprehensions -/
theorem wipe_get {σ : L2.St} {i : Nat} : ∀ {vs : List Nat}, (wipe σ vs)[i]? = if i ∈ vs then (σ[i]?).map (fun _ => none) else σ[i]?
  | [] => by simp [wipe]
  | v :: vs => by
    show ((wipe σ vs).set v none)[i]? = _
    rw [List.getElem?_set, wipe_length]
    by_cases h : v = i
    · subst h
      rw [if_pos rfl, if_pos List.mem_cons_self]
      by_cases hl : v < σ.length
      · rw [if_pos hl, List.getElem?_eq_getElem hl]
        rfl
      · rw [if_neg hl, List.getElem?_eq_none (Nat.le_of_not_lt hl)]
        rfl
    · rw [if_neg h, wipe_get]
      by_cases hm : i ∈ vs
      · rw [if_pos hm, if_pos (List.mem_cons_of_mem _ hm)]
      · rw [if_neg hm, if_neg (fun z => by cases z with | head => exact h rfl | tail _ z => exact hm z)]
theorem wipe_set {σ : L2.St} {j : Nat} {x : Option V} {vs : List Nat} (h : j ∈ vs) : wipe (σ.set j x) vs = wipe σ vs := by
  refine List.ext_getElem? fun i => ?_
  rw [wipe_get, wipe_get]
  by_cases hi : i ∈ vs
  · rw [if_pos hi, if_pos hi, List.getElem?_set]
    by_cases e : j = i
    · subst e
      rw [if_pos rfl]
      by_cases hl : j < σ.length
      · rw [if_pos hl, List.getElem?_eq_getElem hl]
        rfl
      · rw [if_neg hl, List.getElem?_eq_none (Nat.le_of_not_lt hl)]
    · rw [if_neg e]
  · rw [if_neg hi, if_neg hi, List.getElem?_set, if_neg (fun e => hi (by rw [← e]; exact h))]
theorem wipe_wipe {σ : L2.St} {vs : List Nat} : wipe (wipe σ vs) vs = wipe σ vs := by
  refine List.ext_getElem? fun i => ?_
  rw [wipe_get, wipe_get]
  by_cases hi : i ∈ vs
  · rw [if_pos hi, if_pos hi, Option.map_map]
    rfl
  · rw [if_neg hi, if_neg hi]
def wipeR (ρ : Ro) : List Nat → Ro
  | [] => ρ
  | v :: vs => (wipeR ρ vs).set v none
theorem Slots.wipe {B : Hp} {σ : L2.St} {ρ : Ro} (s : Slots G B σ ρ) : ∀ vs, Slots G B (L2.wipe σ vs) (wipeR ρ vs)
  | [] => s
  | v :: vs => (Slots.wipe s vs).setN v
/-- a target that stores into these slots alone -/
def GIn (g : TG) (vs : List Nat) : Prop := ∀ v σ H (Q : L2.St → Hp → Prop), g v σ H Q → g v σ H fun σ2 H2 => wipe σ2 vs = wipe σ vs ∧ Q σ2 H2
def GsIn (g : TGs) (vs : List Nat) : Prop := ∀ v σ H (Q : L2.St → Hp → Prop), g v σ H Q → g v σ H fun σ2 H2 => wipe σ2 vs = wipe σ vs ∧ Q σ2 H2
theorem gin_name {i : Nat} {vs : List Nat} (h : i ∈ vs) : GIn (gName i) vs := fun v σ H Q q => ⟨wipe_set h, q⟩
theorem gin_nil {vs : List Nat} : GsIn gNil vs := fun v σ H Q q => ⟨q.1, rfl, q.2⟩
theorem gin_cons {g : TG} {gs : TGs} {vs : List Nat} (h : GIn g vs) (hs : GsIn gs vs) (m : ∀ v σ H (Q Q' : L2.St → Hp → Prop), (∀ σ' H', Q σ' H' → Q' σ' H') → g v σ H Q → g v σ H Q') (m2 : ∀ v σ H (Q Q' : L2.St → Hp → Prop), (∀ σ' H', Q σ' H' → Q' σ' H') → gs v σ H Q → gs v σ H Q') : GsIn (gCons g gs) vs := fun v σ H Q ⟨x, r, ev, q⟩ =>
  ⟨x, r, ev, m x σ H _ _ (fun σ1 H1 ⟨e1, q1⟩ => m2 r σ1 H1 _ _ (fun σ2 H2 ⟨e2, q2⟩ => ⟨e2.trans e1, q2⟩) (hs r σ1 H1 _ q1)) (h x σ H _ q)⟩
theorem mono_name {i : Nat} : ∀ v σ H (Q Q' : L2.St → Hp → Prop), (∀ σ' H', Q σ' H' → Q' σ' H') → gName i v σ H Q → gName i v σ H Q' := fun _ _ _ _ _ h q => h _ _ q
theorem mono_nil : ∀ v σ H (Q Q' : L2.St → Hp → Prop), (∀ σ' H', Q σ' H' → Q' σ' H') → gNil v σ H Q → gNil v σ H Q' := fun _ _ _ _ _ h q => ⟨q.1, h _ _ q.2⟩
theorem mono_cons {g : TG} {gs : TGs} (m : ∀ v σ H (Q Q' : L2.St → Hp → Prop), (∀ σ' H', Q σ' H' → Q' σ' H') → g v σ H Q → g v σ H Q') (m2 : ∀ v σ H (Q Q' : L2.St → Hp → Prop), (∀ σ' H', Q σ' H' → Q' σ' H') → gs v σ H Q → gs v σ H Q') :
    ∀ v σ H (Q Q' : L2.St → Hp → Prop), (∀ σ' H', Q σ' H' → Q' σ' H') → gCons g gs v σ H Q → gCons g gs v σ H Q' := fun v σ H Q Q' h ⟨x, r, ev, q⟩ => ⟨x, r, ev, m x σ H _ _ (fun σ1 H1 q1 => m2 r σ1 H1 _ _ h q1) q⟩
theorem gin_tup {gs : TGs} {vs : List Nat} {n : Nat} (h : GsIn gs vs) : GIn (gTup G.K n gs) vs := fun v σ H Q ⟨a, xs, ev, t, l, q⟩ => ⟨a, xs, ev, t, l, h xs σ H Q q⟩
theorem le_lc {wi : TI} {g : TG} {tt : TT} {te : TE} {vs : List Nat} {κ : D → Ow → Prop} (hg : GIn g vs)
    (h : LI G B0 wi ρ O fun ds O1 => ∀ p, O1 p = none → ∃ I : Nat → Ow → Prop, I 0 (oset O1 p []) ∧
      (∀ (i : Nat) (d : D) O', ds[i]? = some d → I i O' → LG G B0 g d (wipeR ρ vs) O' fun ρ2 O2 => LT G B0 tt ρ2 O2 fun b O3 =>
        if b = true then LE G B0 te ρ2 O3 fun y O4 => ∃ acc e, y = .py e ∧ O4 p = some acc ∧ acc.length < 100000 ∧ I (i + 1) (oset O4 p (acc ++ [e])) else I (i + 1) O3) ∧
      ∀ O', I ds.length O' → κ (.own p) O') :
    LE G B0 (tLc wi g tt te vs) ρ O κ := fun B H σ s st Q q => by
  refine h B H σ s st _ fun J ds B1 H1 O1 hh e1 s1 y => fun p hp => ?_
  have op : O1 p = none := by
    cases hO : O1 p with
    | none => rfl
    | some es =>
      obtain ⟨_, ws, h2, _⟩ := s1.ow p es hO
      rw [hp] at h2
      cases h2
  obtain ⟨I, i0, hs, hd⟩ := hh p op
  refine ⟨fun i m H' => m + i = ds.length ∧ ∃ B' O', I i O' ∧ Ex B1 B' ∧ SatH G B0 B' H' O', ⟨ds.length, rfl, B1, _, i0, Ex.refl B1, s1.newO hp .nil⟩, ?_⟩
  rintro i m H' ⟨hm, B', O', hI, e, s'⟩
  obtain ⟨y1, y2⟩ := y B' H' e s'.ex
  by_cases hi : i < ds.length
  · right
    have hdi : ds[i]? = some ds[i] := List.getElem?_eq_getElem hi
    obtain ⟨g1, g2⟩ := y2 i _ hdi
    refine ⟨g1, _, fun H2 w => ⟨m - 1, by omega, w⟩, fun x H3 hx => ?_⟩
    have fin : ∀ B'' , Ex B' B'' → SatH G B0 B'' H3 O' → Rp G B'' x ds[i] → g x (wipe σ vs) H3 fun σ2 H2 => wipe σ2 vs = wipe σ vs ∧ tt σ2 H2 fun b H3 =>
        if b = true then te σ2 H3 fun y H4 => ∃ acc, H4 p = some (.lst acc) ∧ acc.length < sizeLine ∧ (m - 1 + (i + 1) = ds.length ∧ ∃ B' O', I (i + 1) O' ∧ Ex B1 B' ∧ SatH G B0 B' (upd H4 p (.lst (acc ++ [y]))) O') else (m - 1 + (i + 1) = ds.length ∧ ∃ B' O', I (i + 1) O' ∧ Ex B1 B' ∧ SatH G B0 B' H3 O') := by
      intro B'' e'' s'' r''
      have hq := hs i _ O' hdi hI B'' H3 (wipe σ vs) x s'' ((st.mono ((e1.trans e).trans e'')).wipe vs) r'' (fun σ2 H2 => tt σ2 H2 fun b H3 =>
        if b = true then te σ2 H3 fun y H4 => ∃ acc, H4 p = some (.lst acc) ∧ acc.length < sizeLine ∧ (m - 1 + (i + 1) = ds.length ∧ ∃ B' O', I (i + 1) O' ∧ Ex B1 B' ∧ SatH G B0 B' (upd H4 p (.lst (acc ++ [y]))) O') else (m - 1 + (i + 1) = ds.length ∧ ∃ B' O', I (i + 1) O' ∧ Ex B1 B' ∧ SatH G B0 B' H3 O')) fun B2 H2 σ2 ρ2 O2 k e2 s2 t2 => ?_
      · have := hg x (wipe σ vs) H3 _ hq
        rw [wipe_wipe] at this
        exact this
      · refine k B2 H2 σ2 s2 t2 _ fun b B3 H3 O3 k3 e3 s3 => ?_
        cases b with
        | true =>
          refine (show LE G B0 te ρ2 O3 _ from k3) B3 H3 σ2 s3 (t2.mono e3) _ fun v d B4 H4 O4 ⟨acc, ed, hy, ho, hl, hI4⟩ e4 s4 r4 => ?_
          subst hy
          obtain ⟨_, ws, h2, h3⟩ := s4.ow p acc ho
          exact ⟨ws, h2, sz_lt (by rw [h3.len]; exact hl), by omega, B4, _, hI4, (((e.trans e'').trans e2).trans e3).trans e4, s4.chg ho (h3.append (DdAll.one r4))⟩
        | false => exact ⟨by omega, B3, O3, k3, ((e.trans e'').trans e2).trans e3, s3⟩
    rcases g2 x H3 hx with ⟨h3, r⟩ | ⟨T, o, hT, nT, h3, r⟩
    · subst h3
      exact fin B' (Ex.refl B') s' r
    · subst h3
      obtain ⟨e2, s2⟩ := s'.newB (o := o) hT nT
      exact fin _ e2 s2 r
  · left
    have hl : i = ds.length := by omega
    subst hl
    exact ⟨y1 _ (Nat.le_refl _), q _ _ B' H' O' (hd O' hI) (e1.trans e) s' rfl⟩
end
end DL

namespace DL
open PySem PySem.Spec PyProof.Rows L2 Evl

/-! ## operators of any kinds -/
def CDivU (i j : Int) : Prop := j ≠ 0 ∧ Builtin.divisionGoesByPylong i j = false
def CPowU (i j : Int) : Prop := 0 ≤ j ∧ (Builtin.Int.intBits i : Int) * j ≤ 2 ^ 27
def rAddS : R2 := fun x y H Q => ∃ i j, x = .str i ∧ y = .str j ∧ i.length + j.length ≤ sizeLine ∧ Q (.str (i ++ j)) H
def rAddU : R2 := fun x y H Q => rI0 (fun i j => .int (i + j)) x y H Q ∨ rCat x y H Q ∨ rAddS x y H Q
def rSubU : R2 := rI0 fun i j => .int (i - j)
def rMulU : R2 := fun x y H Q => rI CMulW (fun i j => .int (i * j)) x y H Q ∨ rRep x y H Q
def rFdivU : R2 := rI CDivU fun i j => .int (i.fdiv j)
def rModU : R2 := rI (fun _ j => j ≠ 0) fun i j => .int (i.fmod j)
def rPowU : R2 := rI CPowU fun i j => .int (i ^ j.toNat)
def rEqU (K : PySem.W.Frag) : R2 := fun x y H Q => rEq x y H Q ∨ rEqD K x y H Q
def rNeU (K : PySem.W.Frag) : R2 := fun x y H Q => rNe x y H Q ∨ rNeD K x y H Q
def rLt : R2 := rI0 fun i j => .bl (decide (i < j))
def rLe : R2 := rI0 fun i j => .bl (decide (i ≤ j))
def rGt : R2 := rI0 fun i j => .bl (decide (j < i))
def rGe : R2 := rI0 fun i j => .bl (decide (j ≤ i))
section
variable {X : Cx}
theorem op_addU : OpR X (binaryOp .Add) rAddU := OpR.or op_add (OpR.or op_cat op_add_str)
theorem op_subU : OpR X (binaryOp .Sub) rSubU := op_sub
theorem op_mulU : OpR X (binaryOp .Mult) rMulU := OpR.or op_mulW op_rep
theorem op_fdivU : OpR X (binaryOp .FloorDiv) rFdivU := opI fun i j _ _ _ _ _ hc q => floordiv_int hc.1 q (.inl hc.2)
theorem op_modU : OpR X (binaryOp .Mod) rModU := op_modN
theorem op_powU : OpR X (binaryOp .Pow) rPowU := opI fun i j _ _ _ _ _ hc q => pow_int hc.1 hc.2 q
theorem op_eqU (hu : X.A.units + 64 < cLine) : OpR X (compareOp .Eq) (rEqU X.K) := OpR.or op_eq (op_eqD hu)
theorem op_neU (hu : X.A.units + 64 < cLine) : OpR X (compareOp .NotEq) (rNeU X.K) := OpR.or op_ne (op_neD hu)
theorem op_ltU : OpR X (compareOp .Lt) rLt := op_lt
theorem op_leU : OpR X (compareOp .LtE) rLe := op_le
theorem op_gtU : OpR X (compareOp .Gt) rGt := op_gt
theorem op_geU : OpR X (compareOp .GtE) rGe := op_ge
end
/-! ## repr of data: no dict, ints below 2 ^ 1900 -/
mutual
def okR : PyData → Prop
  | .none => True
  | .bool _ => True
  | .int i => i.natAbs < 2 ^ 1900
  | .str _ => True
  | .list xs => okRs xs
  | .tuple xs => okRs xs
  | .dict _ => False
def okRs : List PyData → Prop
  | [] => True
  | x :: xs => okR x ∧ okRs xs
end
-- at most so many signs
mutual
def szR : PyData → Nat
  | .none => 8
  | .bool _ => 8
  | .int _ => 600
  | .str x => (reprText x).length
  | .list xs => szRs xs + 3
  | .tuple xs => szRs xs + 3
  | .dict _ => 0
def szRs : List PyData → Nat
  | [] => 0
  | x :: xs => szR x + 2 + szRs xs
end
theorem log2_of_lt {n : Nat} (h : n < 2 ^ 1900) : n.log2 < 1920 := by
  by_cases h0 : n = 0
  · subst h0
    decide
  · have := (Nat.log2_lt h0).mpr h
    omega
theorem shown_int_len {i : Int} (h : i.natAbs < 2 ^ 1900) : (PyData.shown (.int i)).length ≤ 600 := by
  have e := int_text_length_le10 (k := 580) (by decide) (Nat.lt_of_lt_of_le h (by decide +kernel : 2 ^ 1900 ≤ 10 ^ 580))
  have e2 : (PyData.shown (.int i)).length = (toString i).length := by
    show (Str.ofString (toString i)).length = _
    rw [PySem.ofString_length]
  rw [e2]
  exact Nat.le_trans e (by decide)
mutual
theorem okR_show : ∀ {d : PyData}, okR d → d.showable = true
  | .none, _ => rfl
  | .bool _, _ => rfl
  | .int i, h => decide_eq_true (log2_of_lt h)
  | .str _, _ => rfl
  | .list xs, h => okRs_show (xs := xs) h
  | .tuple xs, h => okRs_show (xs := xs) h
theorem okRs_show : ∀ {xs : List PyData}, okRs xs → PyData.showableAll xs = true
  | [], _ => rfl
  | x :: xs, ⟨h, t⟩ => by
    rw [PyData.showableAll, okR_show h, okRs_show t]
    rfl
end
mutual
theorem okR_nodict : ∀ {d : PyData}, okR d → d.hasDict = false
  | .none, _ => rfl
  | .bool _, _ => rfl
  | .int i, h => rfl
  | .str _, _ => rfl
  | .list xs, h => okRs_nodict (xs := xs) h
  | .tuple xs, h => okRs_nodict (xs := xs) h
theorem okRs_nodict : ∀ {xs : List PyData}, okRs xs → PyData.hasDictAll xs = false
  | [], _ => rfl
  | x :: xs, ⟨h, t⟩ => by
    rw [PyData.hasDictAll, okR_nodict h, okRs_nodict t]
    rfl
end
mutual
theorem okR_len : ∀ {d : PyData}, okR d → d.shown.length ≤ szR d
  | .none, _ => by decide
  | .bool b, _ => by cases b <;> decide
  | .int i, h => shown_int_len h
  | .str x, _ => Nat.le_refl _
  | .list xs, h => by
    have h1 := okRs_len (xs := xs) h
    have h2 := listText_len_le (PyData.shownAll xs)
    have h3 := PyData.shownAll_length xs
    simp only [PyData.shown, szR]
    omega
  | .tuple xs, h => by
    have h1 := okRs_len (xs := xs) h
    have h2 := tupleText_len_le (PyData.shownAll xs)
    have h3 := PyData.shownAll_length xs
    simp only [PyData.shown, szR]
    omega
theorem okRs_len : ∀ {xs : List PyData}, okRs xs → ((PyData.shownAll xs).map (·.length)).sum + 2 * xs.length ≤ szRs xs
  | [], _ => by simp [PyData.shownAll, szRs]
  | x :: xs, ⟨h, t⟩ => by
    have h1 := okR_len h
    have h2 := okRs_len t
    simp only [PyData.shownAll, szRs, List.map_cons, List.sum_cons, List.length_cons]
    omega
end
/-! ## data as seen through what may change -/
def asPy (O : Ow) : D → Option PyData
  | .py d => some d
  | .own a => (O a).map PyData.list
  | .sc ns => some (.list (ns.map PyData.int))
  | _ => none
section
variable {G : Gs} {B0 B H : Hp} {O : Ow}
theorem DpAll.of_ints {K : PySem.W.Frag} {H : Hp} : ∀ (ns : List Int), DpAll K H (ns.map V.int) (ns.map PyData.int)
  | [] => .nil
  | n :: ns => .cons (.int n) (DpAll.of_ints ns)
theorem dp_of {v : V} {x : D} {d : PyData} (s : SatH G B0 B H O) (r : Rp G B v x) (h : asPy O x = some d) (n : d.hasDict = false) : Dp G.K H v d := by
  cases x with
  | py e =>
    cases h
    exact (Dd.mono s.ex r).dp n
  | own a =>
    replace h : (O a).map PyData.list = some _ := h
    cases hO : O a with
    | none => rw [hO] at h; cases h
    | some ds =>
      rw [hO] at h
      cases h
      obtain ⟨_, vs, h2, h3⟩ := s.ow a ds hO
      cases (show v = V.ref a from r)
      exact .lst (sq_of h2) ((h3.mono s.ex).dp (by rw [PyData.hasDict] at n; exact n))
  | sc ns =>
    cases h
    obtain ⟨a, rfl, h1⟩ := r
    exact .lst (ex_l s.ex h1) (DpAll.of_ints ns)
  | rel ns => cases h
  | exc e dd x => cases h
  | raw u => cases h
theorem nd_sh {d : PyData} (h : SeqAt.shaped d = true) : d.hasDict = false := PyData.hasDict_of_canLay d (SeqAt.canLay_of_shaped h)
/-- the list that stands at it -/
theorem lst_of {v : V} {x : D} {ds : List PyData} (s : SatH G B0 B H O) (r : Rp G B v x) (h : asPy O x = some (.list ds)) : ∃ a vs, v = .ref a ∧ SqL G.K H a vs ∧ DdAll G.K B vs ds ∧ ((∃ ns, x = .sc ns) ∨ H a = some (.lst vs)) := by
  cases x with
  | py e =>
    cases h
    obtain ⟨a, vs, rfl, h1, h2⟩ := Dd.lst_inv r
    exact ⟨a, vs, rfl, sq_of (s.ex _ _ h1), h2, .inr (s.ex _ _ h1)⟩
  | own a =>
    replace h : (O a).map PyData.list = some _ := h
    cases hO : O a with
    | none => rw [hO] at h; cases h
    | some es =>
      rw [hO] at h
      cases h
      obtain ⟨_, vs, h2, h3⟩ := s.ow a _ hO
      cases (show v = V.ref a from r)
      exact ⟨a, vs, rfl, sq_of h2, h3, .inr h2⟩
  | sc ns =>
    cases h
    obtain ⟨a, rfl, h1⟩ := r
    exact ⟨a, _, rfl, ex_l s.ex h1, DdAll.of_ints ns, .inl ⟨ns, rfl⟩⟩
  | rel ns => cases h
  | exc e dd x => cases h
  | raw u => cases h
end
/-! ## operators on data -/
section
variable {G : Gs} {B0 : Hp} {O : Ow} {κ : D → Ow → Prop}
theorem lr_I0 {f : Int → Int → Int} {i j : Int} (k : κ (.py (.int (f i j))) O) : LR G B0 (rI0 fun i j => .int (f i j)) (.py (.int i)) (.py (.int j)) O κ := fun B H v w s r1 r2 Q q => by
  rw [Dd.int_inv r1, Dd.int_inv r2]
  exact ⟨i, j, rfl, rfl, q _ _ B H O k (Ex.refl B) s (show Dd _ _ _ _ from .int _)⟩
theorem lr_B0 {f : Int → Int → Bool} {i j : Int} (k : κ (.py (.bool (f i j))) O) : LR G B0 (rI0 fun i j => .bl (f i j)) (.py (.int i)) (.py (.int j)) O κ := fun B H v w s r1 r2 Q q => by
  rw [Dd.int_inv r1, Dd.int_inv r2]
  exact ⟨i, j, rfl, rfl, q _ _ B H O k (Ex.refl B) s (show Dd _ _ _ _ from .bl _)⟩
theorem lr_I {C : Int → Int → Prop} {f : Int → Int → Int} {i j : Int} (c : C i j) (k : κ (.py (.int (f i j))) O) : LR G B0 (rI C fun i j => .int (f i j)) (.py (.int i)) (.py (.int j)) O κ := fun B H v w s r1 r2 Q q => by
  rw [Dd.int_inv r1, Dd.int_inv r2]
  exact ⟨i, j, rfl, rfl, c, q _ _ B H O k (Ex.refl B) s (show Dd _ _ _ _ from .int _)⟩
theorem lr_orl {r r' : R2} {x y : D} (h : LR G B0 r x y O κ) : LR G B0 (fun x y H Q => r x y H Q ∨ r' x y H Q) x y O κ := fun B H v w s r1 r2 Q q => .inl (h B H v w s r1 r2 Q q)
theorem lr_add {i j : Int} (k : κ (.py (.int (i + j))) O) : LR G B0 rAddU (.py (.int i)) (.py (.int j)) O κ := lr_orl (lr_I0 k)
theorem lr_sub {i j : Int} (k : κ (.py (.int (i - j))) O) : LR G B0 rSubU (.py (.int i)) (.py (.int j)) O κ := lr_I0 k
theorem lr_mul {i j : Int} (c : CMulW i j) (k : κ (.py (.int (i * j))) O) : LR G B0 rMulU (.py (.int i)) (.py (.int j)) O κ := lr_orl (lr_I c k)
theorem lr_fdiv {i j : Int} (c : CDivU i j) (k : κ (.py (.int (i.fdiv j))) O) : LR G B0 rFdivU (.py (.int i)) (.py (.int j)) O κ := lr_I c k
theorem lr_mod {i j : Int} (c : j ≠ 0) (k : κ (.py (.int (i.fmod j))) O) : LR G B0 rModU (.py (.int i)) (.py (.int j)) O κ := lr_I (C := fun _ j => j ≠ 0) c k
theorem lr_pow {i j : Int} (c : CPowU i j) (k : κ (.py (.int (i ^ j.toNat))) O) : LR G B0 rPowU (.py (.int i)) (.py (.int j)) O κ := lr_I c k
theorem lr_lt {i j : Int} (k : κ (.py (.bool (decide (i < j)))) O) : LR G B0 rLt (.py (.int i)) (.py (.int j)) O κ := lr_B0 k
theorem lr_le {i j : Int} (k : κ (.py (.bool (decide (i ≤ j)))) O) : LR G B0 rLe (.py (.int i)) (.py (.int j)) O κ := lr_B0 k
theorem lr_gt {i j : Int} (k : κ (.py (.bool (decide (j < i)))) O) : LR G B0 rGt (.py (.int i)) (.py (.int j)) O κ := lr_B0 (f := fun i j => decide (j < i)) k
theorem lr_ge {i j : Int} (k : κ (.py (.bool (decide (j ≤ i)))) O) : LR G B0 rGe (.py (.int i)) (.py (.int j)) O κ := lr_B0 (f := fun i j => decide (j ≤ i)) k
/-- lists in a row: a new one -/
theorem lr_cat {x y : D} {ds es : List PyData} (hx : asPy O x = some (.list ds)) (hy : asPy O y = some (.list es)) (nx : ∀ ns, x ≠ .sc ns) (ny : ∀ ns, y ≠ .sc ns) (hl : ds.length + es.length ≤ 100000) (k : κ (.py (.list (ds ++ es))) O) : LR G B0 rAddU x y O κ := fun B H v w s r1 r2 Q q => by
  obtain ⟨a, vs, rfl, h1, h2, h3⟩ := lst_of s r1 hx
  obtain ⟨b, ws, rfl, h4, h5, h6⟩ := lst_of s r2 hy
  refine .inr (.inl ⟨a, b, vs, ws, rfl, rfl, h3.resolve_left (fun ⟨ns, e⟩ => nx ns e), h6.resolve_left (fun ⟨ns, e⟩ => ny ns e), sz_of (by rw [h2.len, h5.len]; exact hl), fun p hp => ?_⟩)
  obtain ⟨e2, s2⟩ := s.newB (o := .lst (vs ++ ws)) hp
  exact q _ _ _ _ O k e2 s2 (show Dd _ _ _ _ from .lst upd_same ((h2.append h5).mono e2))
theorem dd_rep {K : PySem.W.Frag} {H : Hp} {vs : List V} {ds : List PyData} (h : DdAll K H vs ds) : ∀ n : Nat, DdAll K H (List.replicate n vs).flatten (List.replicate n ds).flatten
  | 0 => .nil
  | n + 1 => by
    rw [List.replicate_succ, List.replicate_succ, List.flatten_cons, List.flatten_cons]
    exact h.append (dd_rep h n)
theorem lr_rep {x : D} {ds : List PyData} {n : Int} (hx : asPy O x = some (.list ds)) (nx : ∀ ns, x ≠ .sc ns) (hn : -1000000 < n ∧ n < 1000000) (hl : ds.length * n.toNat ≤ 100000) (k : κ (.py (.list (List.replicate n.toNat ds).flatten)) O) : LR G B0 rMulU x (.py (.int n)) O κ := fun B H v w s r1 r2 Q q => by
  obtain ⟨a, vs, rfl, h1, h2, h3⟩ := lst_of s r1 hx
  rw [Dd.int_inv r2]
  refine .inr ⟨a, n, vs, rfl, rfl, h3.resolve_left (fun ⟨ns, e⟩ => nx ns e), by omega, by omega, sz_of (by rw [h2.len]; exact hl), fun p hp => ?_⟩
  obtain ⟨e2, s2⟩ := s.newB (o := .lst (List.replicate n.toNat vs).flatten) hp
  exact q _ _ _ _ O k e2 s2 (show Dd _ _ _ _ from .lst upd_same ((dd_rep h2 _).mono e2))
theorem lr_eqI {i j : Int} (k : κ (.py (.bool (decide (i = j)))) O) : LR G B0 (rEqU G.K) (.py (.int i)) (.py (.int j)) O κ := fun B H v w s r1 r2 Q q => by
  rw [Dd.int_inv r1, Dd.int_inv r2]
  refine .inl ⟨rfl, ?_⟩
  have e : decide (V.int i = V.int j) = decide (i = j) := by
    by_cases h : i = j
    · subst h; simp
    · rw [decide_eq_false h, decide_eq_false (fun z => h (V.int.inj z))]
  rw [e]
  exact q _ _ B H O k (Ex.refl B) s (show Dd _ _ _ _ from .bl _)
theorem lr_neI {i j : Int} (k : κ (.py (.bool (!decide (i = j)))) O) : LR G B0 (rNeU G.K) (.py (.int i)) (.py (.int j)) O κ := fun B H v w s r1 r2 Q q => by
  rw [Dd.int_inv r1, Dd.int_inv r2]
  refine .inl ⟨rfl, ?_⟩
  have e : decide (V.int i = V.int j) = decide (i = j) := by
    by_cases h : i = j
    · subst h; simp
    · rw [decide_eq_false h, decide_eq_false (fun z => h (V.int.inj z))]
  rw [e]
  exact q _ _ B H O k (Ex.refl B) s (show Dd _ _ _ _ from .bl _)
theorem lr_eqS {i j : Str} (k : κ (.py (.bool (decide (i = j)))) O) : LR G B0 (rEqU G.K) (.py (.str i)) (.py (.str j)) O κ := fun B H v w s r1 r2 Q q => by
  rw [Dd.str_inv r1, Dd.str_inv r2]
  refine .inl ⟨rfl, ?_⟩
  have e : decide (V.str i = V.str j) = decide (i = j) := by
    by_cases h : i = j
    · subst h; simp
    · rw [decide_eq_false h, decide_eq_false (fun z => h (V.str.inj z))]
  rw [e]
  exact q _ _ B H O k (Ex.refl B) s (show Dd _ _ _ _ from .bl _)
theorem lr_neS {i j : Str} (k : κ (.py (.bool (!decide (i = j)))) O) : LR G B0 (rNeU G.K) (.py (.str i)) (.py (.str j)) O κ := fun B H v w s r1 r2 Q q => by
  rw [Dd.str_inv r1, Dd.str_inv r2]
  refine .inl ⟨rfl, ?_⟩
  have e : decide (V.str i = V.str j) = decide (i = j) := by
    by_cases h : i = j
    · subst h; simp
    · rw [decide_eq_false h, decide_eq_false (fun z => h (V.str.inj z))]
  rw [e]
  exact q _ _ B H O k (Ex.refl B) s (show Dd _ _ _ _ from .bl _)
theorem lr_eq {x y : D} {d e : PyData} (hx : asPy O x = some d) (hy : asPy O y = some e) (sd : SeqAt.shaped d = true) (se : SeqAt.shaped e = true) (k : κ (.py (.bool (PyData.eqv d e))) O) : LR G B0 (rEqU G.K) x y O κ := fun B H v w s r1 r2 Q q =>
  .inr ⟨d, e, dp_of s r1 hx (nd_sh sd), dp_of s r2 hy (nd_sh se), sd, se, q _ _ B H O k (Ex.refl B) s (show Dd _ _ _ _ from .bl _)⟩
theorem lr_ne {x y : D} {d e : PyData} (hx : asPy O x = some d) (hy : asPy O y = some e) (sd : SeqAt.shaped d = true) (se : SeqAt.shaped e = true) (k : κ (.py (.bool (!PyData.eqv d e))) O) : LR G B0 (rNeU G.K) x y O κ := fun B H v w s r1 r2 Q q =>
  .inr ⟨d, e, dp_of s r1 hx (nd_sh sd), dp_of s r2 hy (nd_sh se), sd, se, q _ _ B H O k (Ex.refl B) s (show Dd _ _ _ _ from .bl _)⟩
/-- o[i] -/
theorem lr_ix {x : D} {ds : List PyData} {i : Int} {d : PyData} (hx : asPy O x = some (.list ds)) (hi : atI ds i = some d) (k : κ (.py d) O) : LR G B0 (rIx G.K) x (.py (.int i)) O κ := fun B H v w s r1 r2 Q q => by
  obtain ⟨a, vs, rfl, h1, h2, _⟩ := lst_of s r1 hx
  rw [Dd.int_inv r2]
  unfold atI at hi
  cases hj : ixN ds.length i with
  | none => rw [hj] at hi; cases hi
  | some j =>
    rw [hj] at hi
    obtain ⟨w, hw, rw'⟩ := h2.get (i := j) hi
    refine .inl ⟨a, vs, i, w, rfl, rfl, h1, ?_, q _ _ B H O k (Ex.refl B) s rw'⟩
    unfold atI
    rw [h2.len, hj]
    exact hw
theorem lr_ixT {ds : List PyData} {i : Int} {d : PyData} (hi : atI ds i = some d) (k : κ (.py d) O) : LR G B0 (rIx G.K) (.py (.tuple ds)) (.py (.int i)) O κ := fun B H v w s r1 r2 Q q => by
  obtain ⟨a, vs, rfl, h1, h2⟩ := Dd.tup_inv r1
  rw [Dd.int_inv r2]
  unfold atI at hi
  cases hj : ixN ds.length i with
  | none => rw [hj] at hi; cases hi
  | some j =>
    rw [hj] at hi
    obtain ⟨w, hw, rw'⟩ := h2.get (i := j) hi
    refine .inr (.inl ⟨a, vs, i, w, rfl, rfl, ex_t s.ex h1, ?_, q _ _ B H O k (Ex.refl B) s rw'⟩)
    unfold atI
    rw [h2.len, hj]
    exact hw
def rNiU (K : PySem.W.Frag) : R2 := rNotInD K
theorem lr_ni {x y : D} {d : PyData} {ds : List PyData} (hx : asPy O x = some d) (hy : asPy O y = some (.list ds)) (sd : SeqAt.shaped d = true) (se : SeqAt.shaped (.list ds) = true) (k : κ (.py (.bool (!ds.any fun z => PyData.eqv z d))) O) : LR G B0 (rNiU G.K) x y O κ := fun B H v w s r1 r2 Q q =>
  ⟨d, ds, dp_of s r1 hx (nd_sh sd), dp_of s r2 hy (nd_sh se), sd, se, q _ _ B H O k (Ex.refl B) s (show Dd _ _ _ _ from .bl _)⟩
def rNeg : V → Hp → VK → Prop := rU fun i => .int (-i)
theorem un_negU {X : Cx} : UnR X (unaryOp .USub) rNeg := un_neg
theorem lu_neg {i : Int} (k : κ (.py (.int (-i))) O) : LU G B0 rNeg (.py (.int i)) O κ := fun B H v s r1 Q q => by
  rw [Dd.int_inv r1]
  exact ⟨i, rfl, q _ _ B H O k (Ex.refl B) s (show Dd _ _ _ _ from .int _)⟩
/-! ## slices -/
def cutD (xs : List PyData) (lo hi : Option Int) : List PyData := (xs.drop (HT.sIx xs.length 0 lo)).take (HT.sIx xs.length xs.length hi - HT.sIx xs.length 0 lo)
variable {ρ : Ro}
theorem lo_none {κ : Option Int → Ow → Prop} (k : κ none O) : LO G B0 tNoPart ρ O κ := fun B H σ s t Q q => q none B H O k (Ex.refl B) s
theorem lo_some {te : TE} {κ : Option Int → Ow → Prop} (h : LE G B0 te ρ O fun x O1 => ∃ i, x = .py (.int i) ∧ κ (some i) O1) : LO G B0 (tPart te) ρ O κ := fun B H σ s t Q q =>
  h B H σ s t _ fun v x B1 H1 O1 ⟨i, ex, k⟩ e1 s1 r1 => by
    subst ex
    exact ⟨i, Dd.int_inv r1, q _ B1 H1 O1 k e1 s1⟩
theorem le_sl {te : TE} {tl th : TO} (h : LE G B0 te ρ O fun x O1 => LO G B0 tl ρ O1 fun lo O2 => LO G B0 th ρ O2 fun hi O3 => ∃ ds, asPy O3 x = some (.list ds) ∧ κ (.py (.list (cutD ds lo hi))) O3) : LE G B0 (tSl (rSlL G.K) te tl th) ρ O κ := fun B H σ s t Q q =>
  h B H σ s t _ fun v x B1 H1 O1 h1 e1 s1 r1 => h1 B1 H1 σ s1 (t.mono e1) _ fun lo B2 H2 O2 h2 e2 s2 => h2 B2 H2 σ s2 (t.mono (e1.trans e2)) _ fun hi B3 H3 O3 ⟨ds, hx, k⟩ e3 s3 => by
    obtain ⟨a, vs, rfl, h4, h5, _⟩ := lst_of s3 (r1.mono (e2.trans e3)) hx
    refine ⟨a, vs, rfl, h4, fun p hp => ?_⟩
    obtain ⟨e4, s4⟩ := s3.newB (o := .lst (cutV vs lo hi)) hp
    refine q _ _ _ _ O3 k (((e1.trans e2).trans e3).trans e4) s4 (show Dd _ _ _ _ from .lst upd_same (DdAll.mono e4 ?_))
    unfold cutV cutD
    rw [h5.len]
    exact (h5.drop _).take _
/-! ## built-in functions -/
def rInt1 : List V → Hp → VK → Prop := fun xs H Q => (∃ i, xs = [.int i] ∧ Q (.int i) H) ∨ ∃ k, xs = [.bl k] ∧ Q (.int (if k then 1 else 0)) H
def rAbs : List V → Hp → VK → Prop := fun xs H Q => ∃ i, xs = [.int i] ∧ Q (.int (if i < 0 then -i else i)) H
def rMx : List V → Hp → VK → Prop := fun xs H Q => ∃ i j, xs = [.int i, .int j] ∧ Q (.int (if j > i then j else i)) H
def rMn : List V → Hp → VK → Prop := fun xs H Q => ∃ i j, xs = [.int i, .int j] ∧ Q (.int (if j < i then j else i)) H
def rLen (K : PySem.W.Frag) : List V → Hp → VK → Prop := fun xs H Q => ∃ x n, xs = [x] ∧ LenV K x H n ∧ Q (.int n) H
theorem cr_int {X : Cx} : CallR X (.type "int") rInt1 := call_int1
theorem cr_abs {X : Cx} : CallR X (.builtin "abs") rAbs := call_abs
theorem cr_mx {X : Cx} (hc : X.calm = true) : CallR X (.builtin "max") rMx := call_max2 hc
theorem cr_mn {X : Cx} (hc : X.calm = true) : CallR X (.builtin "min") rMn := call_min2 hc
theorem cr_len {X : Cx} : CallR X (.builtin "len") (rLen X.K) := call_len
theorem one_inv {B : Hp} {vs : List V} {x : D} (h : Rps G B vs [x]) : ∃ v, vs = [v] ∧ Rp G B v x := by
  cases h with
  | cons h t =>
    cases t
    exact ⟨_, rfl, h⟩
theorem two_inv {B : Hp} {vs : List V} {x y : D} (h : Rps G B vs [x, y]) : ∃ v w, vs = [v, w] ∧ Rp G B v x ∧ Rp G B w y := by
  cases h with
  | cons h t =>
    obtain ⟨w, rfl, hw⟩ := one_inv t
    exact ⟨_, _, rfl, h, hw⟩
theorem lc_int {i : Int} (k : κ (.py (.int i)) O) : LC G B0 rInt1 [.py (.int i)] O κ := fun B H vs s r Q q => by
  obtain ⟨v, rfl, r1⟩ := one_inv r
  rw [Dd.int_inv r1]
  exact .inl ⟨i, rfl, q _ _ B H O k (Ex.refl B) s (show Dd _ _ _ _ from .int _)⟩
theorem lc_intB {b : Bool} (k : κ (.py (.int (if b then 1 else 0))) O) : LC G B0 rInt1 [.py (.bool b)] O κ := fun B H vs s r Q q => by
  obtain ⟨v, rfl, r1⟩ := one_inv r
  rw [Dd.bl_inv r1]
  exact .inr ⟨b, rfl, q _ _ B H O k (Ex.refl B) s (show Dd _ _ _ _ from .int _)⟩
theorem lc_abs {i : Int} (k : κ (.py (.int (i.natAbs : Int))) O) : LC G B0 rAbs [.py (.int i)] O κ := fun B H vs s r Q q => by
  obtain ⟨v, rfl, r1⟩ := one_inv r
  rw [Dd.int_inv r1]
  have e : (if i < 0 then -i else i) = (i.natAbs : Int) := by split <;> omega
  exact ⟨i, rfl, by rw [e]; exact q _ _ B H O k (Ex.refl B) s (show Dd _ _ _ _ from .int _)⟩
theorem lc_mx {i j : Int} (k : κ (.py (.int (max i j))) O) : LC G B0 rMx [.py (.int i), .py (.int j)] O κ := fun B H vs s r Q q => by
  obtain ⟨v, w, rfl, r1, r2⟩ := two_inv r
  rw [Dd.int_inv r1, Dd.int_inv r2]
  have e : (if j > i then j else i) = max i j := by split <;> omega
  exact ⟨i, j, rfl, by rw [e]; exact q _ _ B H O k (Ex.refl B) s (show Dd _ _ _ _ from .int _)⟩
theorem lc_mn {i j : Int} (k : κ (.py (.int (min i j))) O) : LC G B0 rMn [.py (.int i), .py (.int j)] O κ := fun B H vs s r Q q => by
  obtain ⟨v, w, rfl, r1, r2⟩ := two_inv r
  rw [Dd.int_inv r1, Dd.int_inv r2]
  have e : (if j < i then j else i) = min i j := by split <;> omega
  exact ⟨i, j, rfl, by rw [e]; exact q _ _ B H O k (Ex.refl B) s (show Dd _ _ _ _ from .int _)⟩
theorem lc_len {x : D} {ds : List PyData} (hx : asPy O x = some (.list ds)) (k : κ (.py (.int (ds.length : Int))) O) : LC G B0 (rLen G.K) [x] O κ := fun B H vs s r Q q => by
  obtain ⟨v, rfl, r1⟩ := one_inv r
  obtain ⟨a, ws, rfl, h1, h2, _⟩ := lst_of s r1 hx
  exact ⟨_, ds.length, rfl, .inl ⟨ws, h1, h2.len.symm⟩, q _ _ B H O k (Ex.refl B) s (show Dd _ _ _ _ from .int _)⟩
theorem lc_lenT {ds : List PyData} (k : κ (.py (.int (ds.length : Int))) O) : LC G B0 (rLen G.K) [.py (.tuple ds)] O κ := fun B H vs s r Q q => by
  obtain ⟨v, rfl, r1⟩ := one_inv r
  obtain ⟨a, ws, rfl, h1, h2⟩ := Dd.tup_inv r1
  exact ⟨_, ds.length, rfl, .inr ⟨ws, ex_t s.ex h1, h2.len.symm⟩, q _ _ B H O k (Ex.refl B) s (show Dd _ _ _ _ from .int _)⟩
/-- {k: v} of written things -/
theorem le_disp1 {ρ : Ro} {k : Key} {v : V} {d : PyData} (hl : Lf v d) (h : κ (.py (.dict [(keyD k, d)])) O) : LE G B0 (tDisp [(tC (kV k), tC v)]) ρ O κ := fun B H σ s t Q q p hp => by
  refine ⟨upd_same, [(k, v)], rfl, (by show 1 ≤ 15; decide), ?_⟩
  rw [upd_upd]
  obtain ⟨e2, s2⟩ := s.newB (o := .dK (mergeK [] [(k, v)])) hp
  exact q _ _ _ _ O h e2 s2 (show Dd _ _ _ _ from .dct upd_same (.cons ⟨rfl, hl⟩ .nil))
theorem lc_gcd {i j : Int} (k : κ (.py (.int (Int.gcd i j : Int))) O) : LC G B0 rGcd [.py (.int i), .py (.int j)] O κ := fun B H vs s r Q q => by
  obtain ⟨v, w, rfl, r1, r2⟩ := two_inv r
  rw [Dd.int_inv r1, Dd.int_inv r2]
  exact ⟨i, j, rfl, q _ _ B H O k (Ex.refl B) s (show Dd _ _ _ _ from .int _)⟩
theorem lc_sum {x : D} {ns : List Int} (hx : asPy O x = some (.list (ns.map PyData.int))) (k : κ (.py (.int ns.sum)) O) : LC G B0 (rSum G.K) [x] O κ := fun B H vs s r Q q => by
  obtain ⟨v, rfl, r1⟩ := one_inv r
  obtain ⟨a, ws, rfl, h1, h2, _⟩ := lst_of s r1 hx
  rw [DdAll.ints h2] at h1
  exact ⟨a, ns, rfl, h1, q _ _ B H O k (Ex.refl B) s (show Dd _ _ _ _ from .int _)⟩
theorem lc_max {x : D} {ns : List Int} (hx : asPy O x = some (.list (ns.map PyData.int))) (h0 : 0 < ns.length) (k : ∀ m, m ∈ ns → (∀ y, y ∈ ns → y ≤ m) → κ (.py (.int m)) O) : LC G B0 (rMax G.K) [x] O κ := fun B H vs s r Q q => by
  obtain ⟨v, rfl, r1⟩ := one_inv r
  obtain ⟨a, ws, rfl, h1, h2, _⟩ := lst_of s r1 hx
  rw [DdAll.ints h2] at h1
  exact ⟨a, ns, rfl, h1, h0, fun m hm hy => q _ _ B H O (k m hm hy) (Ex.refl B) s (show Dd _ _ _ _ from .int _)⟩
/-- a type's name, for isinstance -/
def tyN : PyData → String
  | .none => "NoneType"
  | .bool _ => "bool"
  | .int _ => "int"
  | .str _ => "str"
  | .list _ => "list"
  | .tuple _ => "tuple"
  | .dict _ => "dict"
theorem tyx_of {K : PySem.W.Frag} {H : Hp} {v : V} {d : PyData} (h : Dd K H v d) : TyX K H v (.type (tyN d)) := by
  cases h with
  | non => exact .base .non
  | bl b => exact .base (.bl b)
  | int i => exact .base (.int i)
  | str x => exact .base (.str x)
  | lst h a => exact .base (.lst h)
  | dct h a => exact .base (.dK h)
  | tup h a =>
    rcases h with (h | ⟨o, h⟩) | ⟨o, its, n, h, c, _⟩
    · exact .base (.tup h)
    · exact .fTuple h
    · exact .kTuple h c
theorem lc_isi {d : PyData} {T : String} {b : Bool} (hk : kitB (tyN d) T = some b) (k : κ (.py (.bool b)) O) : LC G B0 (rIsi G.K) [.py d, .raw (.ty T)] O κ := fun B H vs s r Q q => by
  obtain ⟨v, w, rfl, r1, r2⟩ := two_inv r
  cases (show w = V.ty T from r2)
  exact ⟨v, _, _, _, b, rfl, .ty T, tyx_of (Dd.mono s.ex r1), kit_ty hk, q _ _ B H O k (Ex.refl B) s (show Dd _ _ _ _ from .bl _)⟩
end
end DL

namespace DL
open PySem PySem.Spec PyProof.Rows L2 Evl

/-! ## what a def promises, on data -/
abbrev DSp := List D → Ow → (D → Ow → Prop) → (Addr → PyData → Ow → Prop) → Prop
def spD (G : Gs) (F : DSp) : Sp := fun vs H Q E => ∃ (B : Hp) (ds : List D) (O : Ow) (κ : D → Ow → Prop) (ε : Addr → PyData → Ow → Prop), Rps G B vs ds ∧ SatH G B B H O ∧ F ds O κ ε ∧
  (∀ v d B' H' O', κ d O' → Ex B B' → SatH G B B' H' O' → Rp G B' v d → Q v H') ∧
  ∀ C dd x B' H' O', ε C x O' → Ex B B' → SatH G B B' H' O' → (∃ w, B' dd = some (.xd [("value", w)]) ∧ Dd G.K B' w x) → E (.ref C) (some dd) H'
def startR (N : List Str) (ds : List D) : Ro := ds.map some ++ List.replicate (N.length - ds.length) none
section
variable {G : Gs}
theorem SatH.base {B0 B H : Hp} {O : Ow} (s : SatH G B0 B H O) : SatH G B B H O := ⟨Ex.refl B, s.ex, s.ow, s.tb, s.nt⟩
theorem SatH.rebase {B0 B1 B H : Hp} {O : Ow} (s : SatH G B1 B H O) (e : Ex B0 B1) : SatH G B0 B H O := ⟨e.trans s.e0, s.ex, s.ow, s.tb, s.nt⟩
theorem slots_map {B : Hp} : ∀ {vs : List V} {ds : List D} (n : Nat), Rps G B vs ds → Slots G B (vs.map some ++ List.replicate n none) (ds.map some ++ List.replicate n none)
  | _, _, n, .nil => ⟨by simp, fun i d h => by
      rw [List.map_nil, List.nil_append, List.getElem?_replicate] at h
      split at h <;> cases h⟩
  | _, _, n, .cons h t => by
    have ih := slots_map n t
    refine ⟨by simpa using ih.len, fun i d hd => ?_⟩
    cases i with
    | zero =>
      cases hd
      exact ⟨_, rfl, h⟩
    | succ i => exact ih.get i d hd
theorem slots_start {B : Hp} {N : List Str} {vs : List V} {ds : List D} (r : Rps G B vs ds) : Slots G B (L2.start N vs) (startR N ds) := by
  unfold L2.start startR
  rw [r.len]
  exact slots_map _ r
/-- a body that lets nothing out -/
theorem body_of {F : DSp} {N : List Str} {t : TS} (h : ∀ (B0 : Hp) ds O κ ε, F ds O κ ε → LS G B0 t (startR N ds) O (fun _ O' => κ (.py .none) O') κ (fun _ _ => False) (fun _ _ => False))
    {vs : List V} {H : Hp} {Q : VK} {E : XK} (hp : spD G F vs H Q E) : t { nx := fun _ H' => Q .non H', rt := Q } (L2.start N vs) H := by
  obtain ⟨B, ds, O, κ, ε, r, s, hF, hq, _⟩ := hp
  refine h B ds O κ ε hF B H _ s (slots_start r) _ ?_ ?_ ?_ ?_
  · exact fun B' H' σ' ρ' O' k e s' t' => hq .non (.py .none) B' H' O' k e s' .non
  · exact fun v d B' H' O' k e s' r' => hq v d B' H' O' k e s' r'
  · exact fun B' H' σ' ρ' O' k e s' t' => False.elim k
  · exact fun B' H' σ' ρ' O' k e s' t' => False.elim k
/-- a body that may raise -/
theorem bodyX_of {F : DSp} {N : List Str} {t : XK → TS} (h : ∀ (B0 : Hp) (E : XK) ds O κ ε, F ds O κ ε → WOk G B0 (fun cls d _ H => E cls d H) (fun C x _ O => ε C x O) → LS G B0 (t E) (startR N ds) O (fun _ O' => κ (.py .none) O') κ (fun _ _ => False) (fun _ _ => False))
    {vs : List V} {H : Hp} {Q : VK} {E : XK} (hp : spD G F vs H Q E) : t E { nx := fun _ H' => Q .non H', rt := Q } (L2.start N vs) H := by
  obtain ⟨B, ds, O, κ, ε, r, s, hF, hq, hx⟩ := hp
  refine h B E ds O κ ε hF ?_ B H _ s (slots_start r) _ ?_ ?_ ?_ ?_
  · exact fun B' H' σ' ρ' O' C dd x s' t' k f => hx C dd x B' H' O' k s'.e0 s' f
  · exact fun B' H' σ' ρ' O' k e s' t' => hq .non (.py .none) B' H' O' k e s' .non
  · exact fun v d B' H' O' k e s' r' => hq v d B' H' O' k e s' r'
  · exact fun B' H' σ' ρ' O' k e s' t' => False.elim k
  · exact fun B' H' σ' ρ' O' k e s' t' => False.elim k
theorem spD_len {F : DSp} {n : Nat} (h : ∀ ds O κ ε, F ds O κ ε → ds.length = n) : ∀ vs H Q E, spD G F vs H Q E → vs.length = n := by
  rintro vs H Q E ⟨B, ds, O, κ, ε, r, s, hF, hq, hx⟩
  rw [r.len]
  exact h ds O κ ε hF
end
section
variable {G : Gs} {B0 : Hp} {ρ : Ro} {O : Ow} {κ : D → Ow → Prop} {F : DSp}
/-- f(e, ..) that lets nothing out -/
theorem le_call {E : XK} {ta : TA} (h : LA G B0 ta ρ O fun ds O1 => F ds O1 κ fun _ _ _ => False) : LE G B0 (tCall (spD G F) [] E ta) ρ O κ := fun B H σ s t Q q =>
  h B H σ s t _ fun vs ds B1 H1 O1 hF e1 s1 r1 => by
    refine ⟨B1, ds, O1, κ, _, by rw [List.append_nil]; exact r1, s1.base, hF, ?_, fun _ _ _ _ _ _ z => False.elim z⟩
    exact fun v d B' H' O' k e s' r' => q v d B' H' O' k (e1.trans e) (s'.rebase s1.e0) r'
/-- the same where what is raised is wished for -/
theorem le_callG {E : L2.St → XK} {ta : TA} (h : LA G B0 ta ρ O fun ds O1 => F ds O1 κ fun _ _ _ => False) : LE G B0 (tCallS (spD G F) E ta) ρ O κ := fun B H σ s t Q q =>
  h B H σ s t _ fun vs ds B1 H1 O1 hF e1 s1 r1 => by
    refine ⟨B1, ds, O1, κ, _, r1, s1.base, hF, ?_, fun _ _ _ _ _ _ z => False.elim z⟩
    exact fun v d B' H' O' k e s' r' => q v d B' H' O' k (e1.trans e) (s'.rebase s1.e0) r'
theorem le_callS {W : WX} {ε : Addr → PyData → Ro → Ow → Prop} {ta : TA} (hW : WOk G B0 W ε) (h : LA G B0 ta ρ O fun ds O1 => F ds O1 κ fun C x O2 => ε C x ρ O2) : LE G B0 (tCallS (spD G F) (WE W) ta) ρ O κ := fun B H σ s t Q q =>
  h B H σ s t _ fun vs ds B1 H1 O1 hF e1 s1 r1 => by
    refine ⟨B1, ds, O1, κ, _, r1, s1.base, hF, ?_, ?_⟩
    · exact fun v d B' H' O' k e s' r' => q v d B' H' O' k (e1.trans e) (s'.rebase s1.e0) r'
    · exact fun C dd x B' H' O' k e s' f => hW B' H' σ ρ O' C dd x (s'.rebase s1.e0) (t.mono (e1.trans e)) k f
end
/-- the places idx of a list -/
def pk {α : Type} (idx : List Nat) (l : List α) : List α := idx.filterMap fun i => l[i]?
theorem paired_at {α β : Type} {R : α → β → Prop} : ∀ {xs : List α} {ys : List β} (i : Nat), Paired R xs ys → (xs[i]? = none ∧ ys[i]? = none) ∨ ∃ x y, xs[i]? = some x ∧ ys[i]? = some y ∧ R x y
  | _, _, _, .nil => .inl ⟨rfl, rfl⟩
  | _, _, 0, .cons h t => .inr ⟨_, _, rfl, rfl, h⟩
  | _, _, i + 1, .cons h t => paired_at i t
theorem pk_paired {α β : Type} {R : α → β → Prop} {xs : List α} {ys : List β} (p : Paired R xs ys) : ∀ idx : List Nat, Paired R (pk idx xs) (pk idx ys)
  | [] => .nil
  | i :: r => by
    have ih := pk_paired p r
    unfold pk at ih ⊢
    rw [List.filterMap_cons, List.filterMap_cons]
    rcases paired_at i p with ⟨h1, h2⟩ | ⟨x, y, h1, h2, h3⟩
    · rw [h1, h2]
      exact ih
    · rw [h1, h2]
      exact .cons h3 ih
/-- f(.., k = v, ..), what is raised wished for -/
def tCallNS (n m : Nat) (sp : Sp) (idx : List Nat) (E : L2.St → XK) (t tk : TA) : TE := fun σ H Q => t σ H fun vs H1 => tk σ H1 fun zs H2 => vs.length = n ∧ zs.length = m ∧ sp (pk idx (vs ++ zs)) H2 Q (E σ)
section
variable {X : Cx} {CX : CXT} {k n : Nat} {f : Addr} {fd : FuncData} {ps ks : List Str} {sp : Sp} {E : L2.St → XK} {x : Str} {p pos : Pos} {kws : List Keyword} {tk : TA} {idx : List Nat}
end
section
variable {G : Gs} {B0 : Hp} {ρ : Ro} {O : Ow} {κ : D → Ow → Prop} {F : DSp}
theorem le_kw0 {E : L2.St → XK} {m : Nat} {idx : List Nat} {tk : TA} (h : LA G B0 tk ρ O fun ds O1 => ds.length = m ∧ F (pk idx ds) O1 κ fun _ _ _ => False) : LE G B0 (tCallNS 0 m (spD G F) idx E tNil tk) ρ O κ := fun B H σ s t Q q =>
  h B H σ s t _ fun vs ds B1 H1 O1 ⟨hl, hF⟩ e1 s1 r1 => by
    refine ⟨rfl, by rw [r1.len]; exact hl, B1, pk idx ds, O1, κ, _, pk_paired r1 idx, s1.base, hF, ?_, fun _ _ _ _ _ _ z => False.elim z⟩
    exact fun v d B' H' O' k e s' r' => q v d B' H' O' k (e1.trans e) (s'.rebase s1.e0) r'
end
/-! ## own errors with a value -/
/-- the promise of their __init__ -/
def spInit (K : PySem.W.Frag) : Sp := fun vs H Q _ => ∃ (a C : Addr) (y : V), vs = [.ref a, y] ∧ OexC K C ∧ PySem.W.findIn K (.ref C) "value" = some none ∧ H a = some (exo a C none) ∧
  ∀ dx, H dx = none → dx ≠ a → Q .non (upd (upd H dx (exd dx [("value", y)])) a (exo a C (some dx)))
theorem spInit_len {K : PySem.W.Frag} : ∀ vs H Q E, spInit K vs H Q E → vs.length = (["self", "value"] : List Str).length := by
  rintro vs H Q E ⟨a, C, y, rfl, _⟩
  rfl
def tInit (K : PySem.W.Frag) : TS := tOst K "value" (tVar 0) (tVar 1)
theorem run_init {K : PySem.W.Frag} {vs : List V} {H : Hp} {Q : VK} {E : XK} (h : spInit K vs H Q E) : tInit K { nx := fun _ H' => Q .non H', rt := Q } (L2.start ["self", "value"] vs) H := by
  obtain ⟨a, C, y, rfl, T, hn, ha, k⟩ := h
  exact ⟨_, rfl, _, rfl, a, C, rfl, T, hn, .inl ⟨ha, k⟩⟩
def tRaise1 (K : PySem.W.Frag) (C : Addr) (W : WX) (ta : TA) : TS := fun _ σ H => tMkO C (spInit K) [] ta σ H fun cls d H' => W cls d σ H'
theorem ls_raise {G : Gs} {B0 : Hp} {ρ : Ro} {O : Ow} {N : Ro → Ow → Prop} {R : D → Ow → Prop} {Bk Ct : Ro → Ow → Prop} {W : WX} {ε : Addr → PyData → Ro → Ow → Prop} {C : Addr} {ta : TA} (hW : WOk G B0 W ε) (T : OexC G.K C) (hn : PySem.W.findIn G.K (.ref C) "value" = some none)
    (h : LA G B0 ta ρ O fun ds O1 => ∃ x, ds = [.py x] ∧ ε C x ρ O1) : LS G B0 (tRaise1 G.K C W ta) ρ O N R Bk Ct := fun B H σ s t Dn a1 a2 a3 a4 =>
  h B H σ s t _ fun vs ds B1 H1 O1 ⟨x, ex, k⟩ e1 s1 r1 => by
    subst ex
    cases r1 with
    | cons rv rs =>
      rename_i v vs
      cases rs
      refine ⟨by simp, fun a ha => ⟨a, C, v, rfl, T, hn, upd_same, fun dx hdx hne => ?_⟩⟩
      have hd1 : H1 dx = none := by
        rw [upd_ne hne] at hdx
        exact hdx
      have key : upd (del (upd (upd (upd H1 a (exo a C none)) dx (exd dx [("value", v)])) a (exo a C (some dx))) a) dx (.xd [("value", v)]) = upd H1 dx (.xd [("value", v)]) := by
        funext b
        by_cases hb : b = dx
        · subst hb
          rw [upd_same, upd_same]
        · rw [upd_ne hb, upd_ne hb]
          by_cases hba : b = a
          · subst hba
            rw [del_same, ha]
          · rw [del_ne hba, upd_ne hba, upd_ne hb, upd_ne hba]
      refine ⟨rfl, dx, [("value", v)], upd_same, by rw [upd_ne hne, upd_same], hd1, ?_⟩
      rw [key]
      obtain ⟨e2, s2⟩ := s1.newB (o := .xd [("value", v)]) hd1
      exact hW _ _ σ ρ O1 C dx x s2 (t.mono (e1.trans e2)) k ⟨v, upd_same, Dd.mono e2 rv⟩
def TryS (X : Cx) (suite : List Stmt) (ts : Addr → Value → Option Addr → TS) : Prop := ∀ (b : Addr) (ob : Obj) (cl : Value) (dd : Option Addr) (ps : List (Addr × Obj)) (_ : Zc cl dd ob) (_ : ∃ vs, ob.data = .fields vs), PSs (X.suite b ((b, ob) :: ps)) suite (ts b cl dd)
section
variable {G : Gs} {B0 : Hp} {ρ : Ro} {O : Ow} {κ : D → Ow → Prop}
end
/-- the class of own errors that are raised: what the written part says -/
structure ErrC (K : PySem.W.Frag) (C : Addr) : Prop where
  oex : OexC K C
  no : PySem.W.findIn K (.ref C) "value" = some none
  exc : ExcC K C
end DL

namespace DL
open PySem PySem.Spec PyProof.Rows L2 Evl

/-! ## defs that show things: nothing is being shown around them -/
structure FnG (P : Program) (w : World) (K : PySem.W.Frag) (mg : Str → Option Value) (base : Heap) (CX : CXT) (k : Nat) (f : Addr) (fd : FuncData) (ps : List Str) (sp : Sp) : Prop where
  wide : ∀ vs H Q E, sp vs H Q E → vs.length = ps.length
  go : ∀ (A : Around) (above : List Env) (s : Shared) (H : Hp) (args : Args) (us : List Value) (vs : List V) (Q : VK) (E : XK), A.guards = some [] → Room k A → Env0 P w K mg base A above s H →
    BindsTo s fd args (ps.zip us) → Vals vs us → sp vs H Q E → codeAny (model P w) A (.call (.ref f) args) (CR CX above P w H s Q E) s
section
variable {P : Program} {w : World} {K : PySem.W.Frag} {mg : Str → Option Value} {base : Heap} {CX : CXT} {k : Nat} {f : Addr}
end
section
variable {X : Cx} {CX : CXT} {k : Nat} {f : Addr} {fd : FuncData} {ps : List Str} {sp : Sp} {E : L2.St → XK} {x : Str} {p pos : Pos} {e : Expr} {es : List Expr} {t : TA}
end
/-- a def that shows nothing, as one of these -/
theorem FnG.ofOk {P : Program} {w : World} {K : PySem.W.Frag} {mg : Str → Option Value} {base : Heap} {CX : CXT} {k : Nat} {f : Addr} {fd : FuncData} {ps : List Str} {sp : Sp} (F : FnOk P w K mg base CX k f fd ps sp) : FnG P w K mg base CX k f fd ps sp :=
  ⟨F.len, fun A above s H args us vs Q E _ hr e0 b r h => F.run A above s H args us vs Q E hr e0 b r h⟩
/-! ## the law's call -/
section
variable {P : Program} {w : World} {K : PySem.W.Frag} {mg mb : Str → Option Value} {k : Nat} {fa a : Addr} {fd : FuncData} {x : Str} {sp : Sp} {t1 : Shared} {vs : List Value} {ns : List Int}
theorem hid_ns {H : Hp} (ha : t1.heap.get? a = some { cls := .type "list", data := .seq vs.toArray }) (only : ∀ b, H b ≠ none → b = a) {b : Addr} {m : Str → Option Value} (n : t1.heap.Ns b m) : (hidT t1.heap H).Ns b m := by
  obtain ⟨o, es, ep, e, d, r⟩ := n
  refine ⟨o, es, ep, hidT_get e ?_, d, r⟩
  cases q : H b with
  | none => rfl
  | some u =>
    have eb : b = a := only b (by rw [q]; exact fun z => nomatch z)
    rw [eb, ha] at e
    cases e
    cases (show Data.seq vs.toArray _ = Data.dict es ep from d)
end
end DL

namespace DL
open PySem PySem.Spec PyProof.Rows L2 Evl
/-! ## where classes and constants stand -/
structure Ad where
  (c_ChainError c_InvalidNumber c_InvalidPoint c_Bent c_NotPair c_NotOne c_InvalidPrime c_TooFar c_NothingToUndo c_Unreadable c_Relation c_Walk c_ShortWalk c_ENDLESS : Addr)
  (tabs : List (Addr × Str))
theorem r65 {k : Nat} {A : Around} (r : Room k A) : A.units + 65 < cLine := by
  have := r.un
  omega
theorem passLE {X : Cx} {σ : L2.St} : PassesAt (L2.CX X.prog X.w) X σ E0 := fun pins H s e s' I h => passL pins σ H s e s' I h
theorem py_nil {P : List PyData → Prop} (h : P []) : ∃ ds, ([] : List D) = ds.map D.py ∧ P ds := ⟨[], rfl, h⟩
theorem py_cons {x : PyData} {xs : List D} {P : List PyData → Prop} (h : ∃ ds, xs = ds.map D.py ∧ P (x :: ds)) : ∃ ds, (D.py x :: xs) = ds.map D.py ∧ P ds := by
  obtain ⟨ds, e, h⟩ := h
  exact ⟨x :: ds, by rw [e]; rfl, h⟩
/-! ## arithmetic -/
theorem fmod_bd {x s : Int} (h : 0 < s) : 0 ≤ x.fmod s ∧ x.fmod s < s := by
  rw [Int.fmod_eq_emod_of_nonneg _ (by omega)]
  exact ⟨Int.emod_nonneg _ (by omega), Int.emod_lt_of_pos _ h⟩
theorem fdiv_nn {x s : Int} (hx : 0 ≤ x) (h : 0 < s) : 0 ≤ x.fdiv s := by
  rw [Int.fdiv_eq_ediv_of_nonneg _ (by omega)]
  exact Int.ediv_nonneg hx (by omega)
theorem log2_lt_of {n k : Nat} (h : n < 2 ^ (k + 1)) : n.log2 ≤ k := by
  by_cases h0 : n = 0
  · subst h0
    rw [Nat.log2_zero]
    exact Nat.zero_le _
  · have := (Nat.log2_lt h0).mpr h
    omega
/-- a number so great that nothing here reaches it -/
def Big : Nat := 2 ^ 400000
theorem big_log {n : Nat} (h : n < Big) : n.log2 ≤ 399999 := log2_lt_of (k := 399999) h
theorem sml_log {n : Nat} (h : n < 2 ^ 8000) : n.log2 ≤ 7999 := log2_lt_of (k := 7999) h
theorem divU {i j : Int} (h0 : j ≠ 0) (h : j.natAbs < 2 ^ 8000) : CDivU i j := ⟨h0, PyProof.noPylong_of_log2 (by
  have := sml_log h
  omega)⟩
theorem mulW {i j : Int} (h1 : i.natAbs < Big) (h2 : j.natAbs < Big) : CMulW i j := by
  have a := big_log h1
  have b := big_log h2
  unfold CMulW
  omega
theorem bits_le {i : Int} (h : i.natAbs < Big) : Builtin.Int.intBits i ≤ 400000 := by
  unfold Builtin.Int.intBits
  split
  · exact Nat.zero_le _
  · have := big_log h
    omega
theorem powU {i j : Int} (h : i.natAbs < Big) (h0 : 0 ≤ j) (h1 : j ≤ 300) : CPowU i j := ⟨h0, by
  have a := bits_le h
  have b : (Builtin.Int.intBits i : Int) * j ≤ 400000 * 300 := Int.mul_le_mul (by omega) h1 h0 (by decide)
  exact Int.le_trans b (by decide)⟩
theorem sml_of {n : Nat} (h : n < 10 ^ 2000) : n < 2 ^ 8000 := Nat.lt_of_lt_of_le h (by decide +kernel)
theorem big_to {n : Nat} (h : n < 10 ^ 100000) : n < Big := Nat.lt_of_lt_of_le h (by
  unfold Big
  decide +kernel)
theorem big_of {n : Nat} (h : n < 10 ^ 2000) : n < Big := big_to (Nat.lt_of_lt_of_le h (Nat.pow_le_pow_right (by decide) (by decide)))
theorem ok_int {i : Int} (h : i.natAbs < 10 ^ 570) : okR (.int i) := Nat.lt_of_lt_of_le h (by decide +kernel)
theorem if_dec {p A B : Prop} [Decidable p] (h1 : p → A) (h2 : ¬ p → B) : if decide p = true then A else B := by
  by_cases h : p
  · rw [decide_eq_true h, if_pos rfl]
    exact h1 h
  · rw [decide_eq_false h, if_neg Bool.false_ne_true]
    exact h2 h
theorem if_ndec {p A B : Prop} [Decidable p] (h1 : ¬ p → A) (h2 : p → B) : if (!decide p) = true then A else B := by
  by_cases h : p
  · rw [decide_eq_true h, Bool.not_true, if_neg Bool.false_ne_true]
    exact h2 h
  · rw [decide_eq_false h, Bool.not_false, if_pos rfl]
    exact h1 h
theorem if_b {b : Bool} {A B : Prop} (h1 : b = true → A) (h2 : b = false → B) : if b = true then A else B := by
  cases b
  · exact h2 rfl
  · exact h1 rfl
theorem lr_modr {G : Gs} {B0 : Hp} {O : Ow} {κ : D → Ow → Prop} {i j : Int} (h : 0 < j) (k : ∀ r, 0 ≤ r → r < j → κ (.py (.int r)) O) : LR G B0 rModU (.py (.int i)) (.py (.int j)) O κ :=
  lr_mod (by omega) (k _ (fmod_bd h).1 (fmod_bd h).2)
theorem asOwn {O : Ow} {p : Addr} {ds : List PyData} (h : O p = some ds) : asPy O (.own p) = some (.list ds) := by
  show (O p).map PyData.list = _
  rw [h]
  rfl
theorem lr_powL {G : Gs} {B0 : Hp} {O : Ow} {κ : D → Ow → Prop} {i : Int} {m : Nat} (c : CPowU i (@OfNat.ofNat Int m instOfNat)) (k : κ (.py (.int (i ^ (@OfNat.ofNat Nat m (instOfNatNat m))))) O) : LR G B0 rPowU (.py (.int i)) (.py (.int (@OfNat.ofNat Int m instOfNat))) O κ := lr_pow c k
end DL

namespace DL
open PySem PySem.Spec PyProof.Rows L2 Evl
/-! ## the law's pool of draws -/
def PoolL (q : List PyData) (n : Int) : Prop := ∃ x y c : Int, q = [.int x, .int y, .int c] ∧ 0 ≤ x ∧ 0 ≤ y ∧ y < 10 ^ 30 ∧ 0 ≤ c ∧ c ≤ n
theorem PoolL.mono {q : List PyData} {n m : Int} (h : PoolL q n) (e : n ≤ m) : PoolL q m := by
  obtain ⟨x, y, c, e1, h1, h2, h3, h4, h5⟩ := h
  exact ⟨x, y, c, e1, h1, h2, h3, h4, by omega⟩
/-! ## places of lists -/
theorem lenk {l : List PyData} (h : Nat.ble l.length 100000 = true) : l.length ≤ 100000 := Nat.le_of_ble_eq_true h
theorem ixN_nn {n : Nat} {i : Int} (h0 : 0 ≤ i) (h1 : i < n) : ixN n i = some i.toNat := by
  unfold ixN
  rw [if_pos h0, if_pos h1]
theorem atI_nn {α : Type} {xs : List α} {i : Int} (h0 : 0 ≤ i) (h1 : i < xs.length) : atI xs i = xs[i.toNat]? := by
  unfold atI
  rw [ixN_nn h0 h1]
  rfl
theorem atI_ints {ns : List Int} {i : Int} (h0 : 0 ≤ i) (h1 : i < ns.length) : ∃ n, atI (ns.map PyData.int) i = some (.int n) := by
  rw [atI_nn h0 (by rw [List.length_map]; exact h1), List.getElem?_map, List.getElem?_eq_getElem (by omega)]
  exact ⟨_, rfl⟩
/-! ## quotients in lowest terms -/
def lowG (x y : Int) : Int := if 0 < y then (Int.gcd x y : Int) else -(Int.gcd x y : Int)
def lowA (x y : Int) : Int := if y = 0 then 1 else x.fdiv (lowG x y)
def lowB (x y : Int) : Int := if y = 0 then 0 else y.fdiv (lowG x y)
def lowD (x y : Int) : PyData := .tuple [.int (lowA x y), .int (lowB x y)]
theorem gcd_pos_r {x y : Int} (h : y ≠ 0) : 0 < Int.gcd x y := Int.gcd_pos_of_ne_zero_right x h
theorem lowG_ne {x y : Int} (h : y ≠ 0) : lowG x y ≠ 0 := by
  have := gcd_pos_r (x := x) h
  unfold lowG
  split <;> omega
theorem lowG_abs (x y : Int) : (lowG x y).natAbs = Int.gcd x y := by
  unfold lowG
  split <;> omega
theorem lowG_dvd_l (x y : Int) : lowG x y ∣ x := by
  unfold lowG
  split
  · exact Int.gcd_dvd_left ..
  · exact (Int.neg_dvd).mpr (Int.gcd_dvd_left ..)
theorem lowG_dvd_r (x y : Int) : lowG x y ∣ y := by
  unfold lowG
  split
  · exact Int.gcd_dvd_right ..
  · exact (Int.neg_dvd).mpr (Int.gcd_dvd_right ..)
theorem lowA_mul {x y : Int} (h : y ≠ 0) : lowA x y * lowG x y = x := by
  unfold lowA
  rw [if_neg h, Int.fdiv_eq_ediv_of_dvd (lowG_dvd_l x y)]
  exact Int.ediv_mul_cancel (lowG_dvd_l x y)
theorem lowB_mul {x y : Int} (h : y ≠ 0) : lowB x y * lowG x y = y := by
  unfold lowB
  rw [if_neg h, Int.fdiv_eq_ediv_of_dvd (lowG_dvd_r x y)]
  exact Int.ediv_mul_cancel (lowG_dvd_r x y)
theorem lowB_pos {x y : Int} (h : y ≠ 0) : 0 < lowB x y := by
  have e := lowB_mul (x := x) h
  have g := gcd_pos_r (x := x) h
  unfold lowG at e
  by_cases hy : 0 < y
  · rw [if_pos hy] at e
    by_cases hb : 0 < lowB x y
    · exact hb
    · have : lowB x y * (Int.gcd x y : Int) ≤ 0 := Int.mul_nonpos_of_nonpos_of_nonneg (by omega) (by omega)
      omega
  · rw [if_neg hy] at e
    by_cases hb : 0 < lowB x y
    · exact hb
    · have : 0 ≤ lowB x y * -(Int.gcd x y : Int) := Int.mul_nonneg_of_nonpos_of_nonpos (by omega) (by omega)
      omega
theorem low_cross {x y : Int} (h : y ≠ 0) : lowA x y * y = lowB x y * x := by
  have a := lowA_mul (x := x) h
  have b := lowB_mul (x := x) h
  have : lowA x y * (lowB x y * lowG x y) = lowB x y * (lowA x y * lowG x y) := by grind
  rw [b, a] at this
  exact this
theorem low_gcd {x y : Int} (h : y ≠ 0) : Int.gcd (lowA x y) (lowB x y) = 1 := by
  have a := lowA_mul (x := x) h
  have b := lowB_mul (x := x) h
  have e : Int.gcd x y = Int.gcd (lowA x y) (lowB x y) * (lowG x y).natAbs := by
    have e2 : Int.gcd (lowA x y * lowG x y) (lowB x y * lowG x y) = Int.gcd (lowA x y) (lowB x y) * (lowG x y).natAbs := Int.gcd_mul_right ..
    rw [a, b] at e2
    exact e2
  rw [lowG_abs] at e
  have g := gcd_pos_r (x := x) h
  exact (Nat.mul_eq_right (Nat.ne_of_gt g)).mp e.symm
theorem low_abs {x y : Int} (h : y ≠ 0) : (lowA x y).natAbs ≤ x.natAbs ∧ (lowB x y).natAbs ≤ y.natAbs := by
  have g : 0 < (lowG x y).natAbs := by rw [lowG_abs]; exact gcd_pos_r h
  refine ⟨?_, ?_⟩
  · have e := congrArg Int.natAbs (lowA_mul (x := x) h)
    rw [Int.natAbs_mul] at e
    rw [← e]
    exact Nat.le_mul_of_pos_right _ g
  · have e := congrArg Int.natAbs (lowB_mul (x := x) h)
    rw [Int.natAbs_mul] at e
    rw [← e]
    exact Nat.le_mul_of_pos_right _ g
theorem low_bound {x y : Int} {m : Nat} (hx : x.natAbs ≤ m) (hy : y.natAbs ≤ m) (h1 : 1 ≤ m) : (lowA x y).natAbs ≤ m ∧ (lowB x y).natAbs ≤ m := by
  by_cases h : y = 0
  · unfold lowA lowB
    rw [if_pos h, if_pos h]
    exact ⟨h1, Nat.zero_le _⟩
  · have := low_abs (x := x) h
    omega
/-- what is a point -/
def isPt : PyData → Bool
  | .tuple [.int x, .int y] => if y = 0 then decide (x = 1) else decide (0 < y) && decide ((Int.gcd x y : Int) = 1)
  | _ => false
theorem isPt_pair (x y : Int) : isPt (.tuple [.int x, .int y]) = if y = 0 then decide (x = 1) else decide (0 < y) && decide ((Int.gcd x y : Int) = 1) := rfl
end DL
namespace DL
open PySem PySem.Spec PyProof.Rows L2 Evl
/-! ## kinds of data -/
def pyInt : PyData → Bool
  | .int _ => true
  | _ => false
def pyIntB : PyData → Bool
  | .int _ => true
  | .bool _ => true
  | _ => false
def pyBol : PyData → Bool
  | .bool _ => true
  | _ => false
def pyTup : PyData → Bool
  | .tuple _ => true
  | _ => false
theorem kit_int (d : PyData) : kitB (tyN d) "int" = some (pyIntB d) :=
  match d with
  | .none => (by decide +kernel : kitB "NoneType" "int" = some false)
  | .bool _ => (by decide +kernel : kitB "bool" "int" = some true)
  | .int _ => (by decide +kernel : kitB "int" "int" = some true)
  | .str _ => (by decide +kernel : kitB "str" "int" = some false)
  | .list _ => (by decide +kernel : kitB "list" "int" = some false)
  | .tuple _ => (by decide +kernel : kitB "tuple" "int" = some false)
  | .dict _ => (by decide +kernel : kitB "dict" "int" = some false)
theorem kit_bool (d : PyData) : kitB (tyN d) "bool" = some (pyBol d) :=
  match d with
  | .none => (by decide +kernel : kitB "NoneType" "bool" = some false)
  | .bool _ => (by decide +kernel : kitB "bool" "bool" = some true)
  | .int _ => (by decide +kernel : kitB "int" "bool" = some false)
  | .str _ => (by decide +kernel : kitB "str" "bool" = some false)
  | .list _ => (by decide +kernel : kitB "list" "bool" = some false)
  | .tuple _ => (by decide +kernel : kitB "tuple" "bool" = some false)
  | .dict _ => (by decide +kernel : kitB "dict" "bool" = some false)
theorem kit_tuple (d : PyData) : kitB (tyN d) "tuple" = some (pyTup d) :=
  match d with
  | .none => (by decide +kernel : kitB "NoneType" "tuple" = some false)
  | .bool _ => (by decide +kernel : kitB "bool" "tuple" = some false)
  | .int _ => (by decide +kernel : kitB "int" "tuple" = some false)
  | .str _ => (by decide +kernel : kitB "str" "tuple" = some false)
  | .list _ => (by decide +kernel : kitB "list" "tuple" = some false)
  | .tuple _ => (by decide +kernel : kitB "tuple" "tuple" = some true)
  | .dict _ => (by decide +kernel : kitB "dict" "tuple" = some false)
theorem ifT {A B : Prop} (h : A) : if true = true then A else B := by
  rw [if_pos rfl]
  exact h
theorem ifF {A B : Prop} (h : B) : if false = true then A else B := by
  rw [if_neg Bool.false_ne_true]
  exact h
theorem ifNT {A B : Prop} (h : A) : if (!false) = true then A else B := ifT h
theorem ifNF {A B : Prop} (h : B) : if (!true) = true then A else B := ifF h
theorem if_y {p A B : Prop} [Decidable p] (h : p) (k : A) : if decide p = true then A else B := by
  rw [decide_eq_true h, if_pos rfl]
  exact k
theorem if_n {p A B : Prop} [Decidable p] (h : ¬ p) (k : B) : if decide p = true then A else B := by
  rw [decide_eq_false h, if_neg Bool.false_ne_true]
  exact k
theorem if_ny {p A B : Prop} [Decidable p] (h : ¬ p) (k : A) : if (!decide p) = true then A else B := by
  rw [decide_eq_false h, Bool.not_false, if_pos rfl]
  exact k
theorem if_nn {p A B : Prop} [Decidable p] (h : p) (k : B) : if (!decide p) = true then A else B := by
  rw [decide_eq_true h, Bool.not_true, if_neg Bool.false_ne_true]
  exact k
end DL
namespace DL
open PySem PySem.Spec PyProof.Rows L2 Evl
theorem two_of {α : Type} {ds : List α} (h : (ds.length : Int) = 2) : ∃ x y, ds = [x, y] :=
  match ds, h with
  | [x, y], _ => ⟨x, y, rfl⟩
  | [], h => by
    simp only [List.length_nil] at h
    omega
  | [_], h => by
    simp only [List.length_cons, List.length_nil] at h
    omega
  | _ :: _ :: _ :: _, h => by
    simp only [List.length_cons] at h
    omega
theorem four_of {α : Type} {ds : List α} (h : ds.length = 4) : ∃ x y z w, ds = [x, y, z, w] :=
  match ds, h with
  | [x, y, z, w], _ => ⟨x, y, z, w, rfl⟩
theorem five_of {α : Type} {ds : List α} (h : ds.length = 5) : ∃ x y z w u, ds = [x, y, z, w, u] :=
  match ds, h with
  | [x, y, z, w, u], _ => ⟨x, y, z, w, u, rfl⟩
theorem six_of {α : Type} {ds : List α} (h : ds.length = 6) : ∃ x y z w u v, ds = [x, y, z, w, u, v] :=
  match ds, h with
  | [x, y, z, w, u, v], _ => ⟨x, y, z, w, u, v, rfl⟩
theorem int_of {d : PyData} (h : pyInt d = true) : ∃ i, d = .int i := by
  cases d <;> first | exact ⟨_, rfl⟩ | cases h
theorem isPt_not {ds : List PyData} (h : ¬ (ds.length : Int) = 2) : isPt (.tuple ds) = false := by
  unfold isPt
  split
  · rename_i e
    cases e
    exact absurd rfl h
  · rfl
theorem isPt_x {x y : PyData} (h : pyInt x = false) : isPt (.tuple [x, y]) = false := by
  unfold isPt
  split
  · rename_i e
    cases e
    cases h
  · rfl
theorem isPt_y {x y : PyData} (h : pyInt y = false) : isPt (.tuple [x, y]) = false := by
  unfold isPt
  split
  · rename_i e
    cases e
    cases h
  · rfl
end DL
namespace DL
open PySem PySem.Spec PyProof.Rows L2 Evl
end DL

namespace DL
open PySem PySem.Spec PyProof.Rows L2 Evl
theorem oset_comm {O : Ow} {p r : Addr} {x y : List PyData} (h : p ≠ r) : oset (oset O p x) r y = oset (oset O r y) p x := by
  funext b
  unfold oset
  by_cases h1 : b = r
  · rw [if_pos h1, if_neg (by rw [h1]; exact h.symm), if_pos h1]
  · rw [if_neg h1, if_neg h1]
theorem own_ne {O : Ow} {p r : Addr} {x : List PyData} (h : O p = some x) (h' : O r = none) : p ≠ r := fun e => by
  rw [e, h'] at h
  cases h
theorem rngD_get {lo : Int} {n i : Nat} {d : D} (h : (rngD lo n)[i]? = some d) : d = .py (.int (lo + (i : Int))) ∧ i < n := by
  unfold rngD at h
  rw [List.getElem?_map] at h
  by_cases hn : i < n
  · rw [List.getElem?_range hn] at h
    cases h
    exact ⟨rfl, hn⟩
  · rw [List.getElem?_eq_none (by rw [List.length_range]; omega)] at h
    cases h
theorem rngD_len (lo : Int) (n : Nat) : (rngD lo n).length = n := by
  unfold rngD
  rw [List.length_map, List.length_range]
/-- what an expression that draws c times gives -/
def Drs (G : Gs) (B0 : Hp) (te : TE) (ρ : Ro) (p : Addr) (c : Int) (P : PyData → Prop) : Prop :=
  ∀ (O : Ow) q n, O p = some q → PoolL q n → n ≤ 900000 → LE G B0 te ρ O fun d O2 => ∃ e q2, d = .py e ∧ P e ∧ PoolL q2 (n + c) ∧ O2 = oset O p q2
section
variable {G : Gs} {B0 : Hp} {ρ : Ro} {O : Ow} {κ : D → Ow → Prop}
theorem Drs.le {te : TE} {p : Addr} {c : Int} {P : PyData → Prop} {q : List PyData} {n : Int} (h : Drs G B0 te ρ p c P) (hp : O p = some q) (hq : PoolL q n) (hn : n ≤ 900000) (k : ∀ e q2, P e → PoolL q2 (n + c) → κ (.py e) (oset O p q2)) : LE G B0 te ρ O κ :=
  (h O q n hp hq hn).imp fun d O2 ⟨e, q2, ed, he, hq2, eO⟩ => by
    rw [ed, eO]
    exact k e q2 he hq2
/-- [te for j in range(..)], te drawing -/
theorem le_draws {ta : TA} {te : TE} {j : Nat} {p : Addr} {c : Int} {P : PyData → Prop} (hc : 0 ≤ c) (hc2 : c ≤ 100)
    (h : LA G B0 ta ρ O fun xs O1 => ∃ (k : Int) (q : List PyData) (n : Int), xs = [.py (.int k)] ∧ 0 ≤ k ∧ k ≤ 1000 ∧ O1 p = some q ∧ PoolL q n ∧ n ≤ 500000 ∧ (∀ x : Int, 0 ≤ x → x < k → Drs G B0 te ((wipeR ρ [j]).set j (some (.py (.int x)))) p c P) ∧
      ∀ ds q', (ds.length : Int) = k → (∀ e ∈ ds, P e) → PoolL q' (n + k * c) → κ (.py (.list ds)) (oset O1 p q')) :
    LE G B0 (tLc (iRng1 ta) (gName j) tYes te [j]) ρ O κ := by
  refine le_freeze (le_lc (gin_name List.mem_cons_self) (li_rng1 ?_))
  refine h.imp ?_
  rintro xs O1 ⟨k, q, n, rfl, k0, k1, hp, hq, hn, hte, fin⟩
  refine ⟨k, rfl, by omega, by omega, fun r hr => ?_⟩
  have ne := own_ne hp hr
  refine ⟨fun i O' => ∃ ds q', ds.length = i ∧ (∀ e ∈ ds, P e) ∧ PoolL q' (n + (i : Int) * c) ∧ O' = oset (oset O1 p q') r ds, ⟨[], q, rfl, fun e z => absurd z List.not_mem_nil, by rw [Int.natCast_zero, Int.zero_mul, Int.add_zero]; exact hq, ?_⟩, ?_, ?_⟩
  · funext b
    unfold oset
    by_cases h1 : b = r
    · rw [if_pos h1, if_pos h1]
    · rw [if_neg h1, if_neg h1]
      by_cases h2 : b = p
      · rw [if_pos h2, h2, hp]
      · rw [if_neg h2]
  · rintro i d O' hd ⟨ds, q', hl, hP, hq', rfl⟩
    obtain ⟨rfl, hi⟩ := rngD_get hd
    refine lg_name (lt_yes (ifT ?_))
    have hop : oset (oset O1 p q') r ds p = some q' := by rw [oset_ne ne, oset_same]
    have hi2 : (i : Int) * c ≤ 1000 * 100 := Int.mul_le_mul (by omega) hc2 hc (by decide)
    have hi0 : 0 ≤ (i : Int) * c := Int.mul_nonneg (by omega) hc
    rw [Int.zero_add]
    refine (hte (i : Int) (by omega) (by omega)).le hop hq' (by omega) fun e q2 he hq2 => ⟨ds, e, rfl, by rw [oset_ne ne.symm, oset_same], by omega, ds ++ [e], q2, by rw [List.length_append, hl]; rfl, ?_, ?_, ?_⟩
    · intro x hx
      rcases List.mem_append.mp hx with hx | hx
      · exact hP x hx
      · rw [List.mem_singleton.mp hx]
        exact he
    · have e3 : n + ((i + 1 : Nat) : Int) * c = n + (i : Int) * c + c := by
        rw [Int.natCast_add, Int.add_mul]
        show n + ((i : Int) * c + 1 * c) = _
        omega
      rw [e3]
      exact hq2
    · rw [oset_comm ne, oset_oset, oset_comm ne.symm, oset_oset]
  · rintro O' ⟨ds, q', hl, hP, hq', rfl⟩
    rw [rngD_len] at hl hq'
    have ek : ((k.toNat : Nat) : Int) = k := Int.toNat_of_nonneg k0
    refine ⟨r, ds, rfl, oset_same, ?_⟩
    rw [odel_oset (by rw [oset_ne ne.symm]; exact hr)]
    refine fin ds q' (by omega) hP ?_
    rw [ek] at hq'
    exact hq'
/-- [te for g in wi if tt], nothing drawn -/
theorem le_map {wi : TI} {g : TG} {tt : TT} {te : TE} {vs : List Nat} (f : D → PyData) (sel : D → Bool) (hg : GIn g vs)
    (h : LI G B0 wi ρ O fun ds O1 => ds.length < 100000 ∧ (∀ d ∈ ds, ∀ r acc, O1 r = none → LG G B0 g d (wipeR ρ vs) (oset O1 r acc) fun ρ2 O2 => O2 = oset O1 r acc ∧ LT G B0 tt ρ2 O2 fun b O3 => O3 = oset O1 r acc ∧ b = sel d ∧
      (b = true → LE G B0 te ρ2 O3 fun y O4 => O4 = oset O1 r acc ∧ y = .py (f d))) ∧ κ (.py (.list ((ds.filter sel).map f))) O1) : LE G B0 (tLc wi g tt te vs) ρ O κ := by
  refine le_freeze (le_lc hg ?_)
  intro B H σ s t Q q
  refine h B H σ s t Q ?_
  rintro J ds B1 H1 O1 ⟨hl, hs, fin⟩ e1 s1 y
  refine q J ds B1 H1 O1 (fun r hr => ?_) e1 s1 y
  refine ⟨fun i O' => O' = oset O1 r (((ds.take i).filter sel).map f), by simp, ?_, ?_⟩
  · rintro i d O' hd rfl
    have hm : d ∈ ds := List.mem_of_getElem? hd
    have et : ds.take (i + 1) = ds.take i ++ [d] := by
      rw [List.take_add_one, hd]
      rfl
    have lt : (((ds.take i).filter sel).map f).length < 100000 := by
      rw [List.length_map]
      have a1 := List.length_filter_le sel (ds.take i)
      have a2 : (ds.take i).length ≤ ds.length := by
        rw [List.length_take]
        exact Nat.min_le_right _ _
      omega
    intro B2 H2 σ2 v s2 t2 r2 Q2 q2
    refine hs d hm r _ hr B2 H2 σ2 v s2 t2 r2 Q2 ?_
    rintro B3 H3 σ3 ρ3 O3 ⟨rfl, hLT⟩ e3 s3 t3
    refine q2 B3 H3 σ3 ρ3 _ (hLT.imp ?_) e3 s3 t3
    rintro b O4 ⟨rfl, rfl, hte⟩
    cases hb : sel d with
    | true =>
      rw [if_pos rfl]
      refine (hte hb).imp ?_
      rintro d' O5 ⟨rfl, rfl⟩
      refine ⟨_, f d, rfl, oset_same, lt, ?_⟩
      show _ = oset O1 r (((ds.take (i + 1)).filter sel).map f)
      rw [oset_oset, et, List.filter_append, List.map_append, List.filter_cons, if_pos hb]
      rfl
    | false =>
      rw [if_neg Bool.false_ne_true]
      show _ = oset O1 r (((ds.take (i + 1)).filter sel).map f)
      rw [et, List.filter_append, List.filter_cons, if_neg (by rw [hb]; exact Bool.false_ne_true)]
      show _ = oset O1 r (((ds.take i).filter sel ++ []).map f)
      rw [List.append_nil]
  · rintro O' rfl
    refine ⟨r, _, rfl, oset_same, ?_⟩
    rw [odel_oset hr, List.take_length]
    exact fin
end
end DL
namespace DL
open PySem PySem.Spec PyProof.Rows L2 Evl
/-! ## the law's promise, said without data -/
/-- the heap without the tables -/
def noTb (H : Hp) : Hp := fun b => match H b with
  | some (.tbl _) => none
  | o => o
theorem noTb_ex (H : Hp) : Ex (noTb H) H := fun b u e => by
  unfold noTb at e
  split at e
  · cases e
  · exact e
theorem noTb_no (H : Hp) : ∀ a ps, noTb H a ≠ some (.tbl ps) := fun a ps h => by
  unfold noTb at h
  split at h
  · cases h
  · rename_i n
    exact n ps h
theorem noTb_at {H : Hp} {b : Addr} {u : HO} (e : H b = some u) (n : ∀ ps, u ≠ .tbl ps) : noTb H b = some u := by
  unfold noTb
  split
  · rename_i ps z
    rw [e] at z
    exact absurd (Option.some.inj z) (n ps)
  · exact e
theorem noTb_l {K : PySem.W.Frag} {H : Hp} {a : Addr} {xs : List V} (h : SqL K H a xs) : SqL K (noTb H) a xs := by
  rcases h with (h | ⟨o, h⟩) | h
  · exact .inl (.inl (noTb_at h fun _ z => nomatch z))
  · exact .inl (.inr ⟨o, noTb_at h fun _ z => nomatch z⟩)
  · exact .inr h
def spLaw (K : PySem.W.Frag) (T : List (Addr × Str)) : Sp := fun vs H Q _ => ∃ (a : Addr) (ns : List Int), vs = [.ref a] ∧ SqL K H a (ns.map V.int) ∧ ns.length ≤ 63 ∧ LamX.Tabs T H ∧ ∀ H', Q (.bl true) H'
theorem FnG.law {P : Program} {w : World} {G : Gs} {mg : Str → Option Value} {base : Heap} {CX : CXT} {k : Nat} {f : Addr} {fd : FuncData} {x : Str} {F : DSp} (O : FnG P w G.K mg base CX k f fd [x] (spD G F))
    (h : ∀ ns : List Int, ns.length ≤ 63 → F [.sc ns] (fun _ => none) (fun d _ => d = .py (.bool true)) fun _ _ _ => False) : FnG P w G.K mg base CX k f fd [x] (spLaw G.K G.T) where
  wide := by
    rintro vs H Q E ⟨a, ns, rfl, _⟩
    rfl
  go := by
    rintro A above s H args us vs Q E gd hr e0 b r ⟨a, ns, rfl, hS, hl, hT, k⟩
    refine O.go A above s H args us _ Q E gd hr e0 b r ⟨noTb H, [.sc ns], fun _ => none, fun d _ => d = .py (.bool true), fun _ _ _ => False, .cons ⟨a, rfl, noTb_l hS⟩ .nil, ⟨Ex.refl _, noTb_ex H, (fun l ds z => nomatch z), hT, noTb_no H⟩, h ns hl, ?_, fun _ _ _ _ _ _ z => False.elim z⟩
    rintro v d B' H' O' rfl e s r
    rw [Dd.bl_inv r]
    exact k H'
theorem spLaw_want {K : PySem.W.Frag} {H : Hp} {a : Addr} {ns : List Int} (hl : ns.length ≤ 63) (hS : SqL K H a (ns.map V.int)) : spLaw K [] [.ref a] H (fun v _ => v = .bl true) fun _ _ _ => False := ⟨a, ns, rfl, hS, hl, (fun p z => absurd z List.not_mem_nil), fun _ => rfl⟩
theorem cls_ok {K : PySem.W.Frag} {D : Addr} (h2 : PySem.W.isClsIn K D = true) (h3 : PySem.W.typeIn K (.ref D) = some (.type "type")) : ((PySem.W.clsIn K D).isSome && PySem.W.typeIn K (.ref D) == some (.type "type")) = true := by
  have h2' : (PySem.W.clsIn K D).isSome = true := h2
  rw [h2', h3] <;> rfl
/-- a written pair of numbers -/
theorem dd_pair {K : PySem.W.Frag} {a : Addr} {o : Obj} {n : Nat} {i j : Int} {t u : Nat} (h : K.lookup a = some o) (hc : o.cls = .type "tuple") (hd : o.data = .seq #[.int i t, .int j u] n) (B : Hp) : Dd K B (.ref a) (.tuple [.int i, .int j]) :=
  .tup (xs := [.int i, .int j]) (.inr ⟨o, _, n, h, hc, hd, by show 2 ≤ _; decide, .cons ⟨t, rfl⟩ (.cons ⟨u, rfl⟩ .nil)⟩) (.cons (.int i) (.cons (.int j) .nil))
end DL

namespace DL
open PySem PySem.Spec PyProof.Rows L2 Evl
/-! ## methods of lists that are changed in place -/
section
variable {G : Gs} {B0 : Hp} {ρ : Ro} {O : Ow} {κ : D → Ow → Prop}
theorem le_append {to : TE} {t : TA} (h : LE G B0 to ρ O fun x O1 => ∃ p, x = .own p ∧ (∃ es, O1 p = some es) ∧ LA G B0 t ρ O1 fun xs O2 => ∃ d, xs = [.py d] ∧ ∃ ds, O2 p = some ds ∧ ds.length < 100000 ∧ κ (.py .none) (oset O2 p (ds ++ [d]))) :
    LE G B0 (tBM G.K "list" rAppend to t) ρ O κ := fun B H σ s t Q q =>
  h B H σ s t _ fun v x B1 H1 O1 ⟨p, ex, ⟨es, he⟩, h2⟩ e1 s1 r1 => by
    subst ex
    cases (show v = V.ref p from r1)
    obtain ⟨_, ws, hw, _⟩ := s1.ow p es he
    refine ⟨.inl ⟨rfl, ws, sq_of hw⟩, h2 B1 H1 σ s1 (t.mono e1) _ fun vs xs B2 H2 O2 ⟨d, ex, ds, ho, hl, k⟩ e2 s2 r2 => ?_⟩
    subst ex
    obtain ⟨y, rfl, ry⟩ := one_inv r2
    obtain ⟨_, us, hu, hd⟩ := s2.ow p ds ho
    exact ⟨p, us, y, rfl, rfl, hu, sz_lt (by rw [hd.len]; exact hl), q .non (.py .none) B2 _ _ k (e1.trans e2) (s2.chg ho (hd.append (DdAll.one ry))) (show Dd _ _ _ _ from .non)⟩
end
/-! ## pairs of numbers, compared -/
/-! ## what can be shown -/
theorem okR_tup {xs : List PyData} (h : okRs xs) : okR (.tuple xs) := h
theorem okR_lst {xs : List PyData} (h : okRs xs) : okR (.list xs) := h
theorem okR_str {x : Str} : okR (.str x) := trivial
theorem okR_bool {x : Bool} : okR (.bool x) := trivial
theorem okR_none : okR .none := trivial
theorem okRs_nil : okRs [] := trivial
theorem okRs_cons {x : PyData} {xs : List PyData} (h : okR x) (t : okRs xs) : okRs (x :: xs) := ⟨h, t⟩
/-! ## walks that treat all alike -/
theorem all_nil {P : PyData → Prop} : ∀ d ∈ ([] : List PyData), P d := fun _ h => absurd h List.not_mem_nil
theorem all_cons {P : PyData → Prop} {x : PyData} {xs : List PyData} (h : P x) (t : ∀ d ∈ xs, P d) : ∀ d ∈ x :: xs, P d := fun d m => by
  rcases List.mem_cons.mp m with rfl | m
  · exact h
  · exact t d m
theorem all_app {P : PyData → Prop} {xs ys : List PyData} (h : ∀ d ∈ xs, P d) (t : ∀ d ∈ ys, P d) : ∀ d ∈ xs ++ ys, P d := fun d m => by
  rcases List.mem_append.mp m with m | m
  · exact h d m
  · exact t d m
end DL

namespace DL
open PySem PySem.Spec PyProof.Rows L2 Evl
/-! ## how great numbers become -/
theorem bd_mul {x y : Int} {a b : Nat} (h : x.natAbs < 10 ^ a) (k : y.natAbs < 10 ^ b) : (x * y).natAbs < 10 ^ (a + b) := by
  rw [Int.natAbs_mul, Nat.pow_add]
  exact Nat.mul_lt_mul'' h k
theorem ten_mono {a b : Nat} (h : a ≤ b) : 10 ^ a ≤ 10 ^ b := Nat.pow_le_pow_right (by decide) h
theorem bd_le {x : Int} {a b : Nat} (h : x.natAbs < 10 ^ a) (k : a ≤ b) : x.natAbs < 10 ^ b := Nat.lt_of_lt_of_le h (ten_mono k)
theorem ten_add (a b : Nat) : 10 ^ a + 10 ^ b ≤ 10 ^ (Nat.max a b + 1) := by
  have h1 : 10 ^ a ≤ 10 ^ (Nat.max a b) := ten_mono (Nat.le_max_left a b)
  have h2 : 10 ^ b ≤ 10 ^ (Nat.max a b) := ten_mono (Nat.le_max_right a b)
  rw [Nat.pow_succ]
  omega
theorem bd_add {x y : Int} {a b : Nat} (h : x.natAbs < 10 ^ a) (k : y.natAbs < 10 ^ b) : (x + y).natAbs < 10 ^ (Nat.max a b + 1) := by
  have := ten_add a b
  have := Int.natAbs_add_le x y
  omega
theorem bd_sub {x y : Int} {a b : Nat} (h : x.natAbs < 10 ^ a) (k : y.natAbs < 10 ^ b) : (x - y).natAbs < 10 ^ (Nat.max a b + 1) := by
  have := ten_add a b
  have := Int.natAbs_sub_le x y
  omega
theorem bd_neg {x : Int} {a : Nat} (h : x.natAbs < 10 ^ a) : (-x).natAbs < 10 ^ a := by
  rw [Int.natAbs_neg]
  exact h
/-- a number of at most so many digits -/
class BdI (x : Int) (n : outParam Nat) : Prop where
  h : x.natAbs < 10 ^ n
instance bdi_mul {x y : Int} {a b : Nat} [h : BdI x a] [k : BdI y b] : BdI (x * y) (a + b) := ⟨bd_mul h.h k.h⟩
instance bdi_add {x y : Int} {a b : Nat} [h : BdI x a] [k : BdI y b] : BdI (x + y) (Nat.max a b + 1) := ⟨bd_add h.h k.h⟩
instance bdi_sub {x y : Int} {a b : Nat} [h : BdI x a] [k : BdI y b] : BdI (x - y) (Nat.max a b + 1) := ⟨bd_sub h.h k.h⟩
instance bdi_neg {x : Int} {a : Nat} [h : BdI x a] : BdI (-x) a := ⟨bd_neg h.h⟩
theorem lit_lt (n : Nat) : n < 10 ^ (Nat.log2 n + 1) := by
  have h1 : n < 2 ^ (Nat.log2 n + 1) := Nat.lt_log2_self
  exact Nat.lt_of_lt_of_le h1 (Nat.pow_le_pow_left (by decide) _)
instance bdi_lit {n : Nat} : BdI (no_index (@OfNat.ofNat Int n instOfNat)) (Nat.log2 n + 1) := ⟨lit_lt n⟩
theorem bd_big {x : Int} {n : Nat} [h : BdI x n] (k : n ≤ 100000 := by decide) : x.natAbs < Big := big_to (bd_le h.h k)
theorem bd_to {x : Int} {n : Nat} (m : Nat) [h : BdI x n] (k : n ≤ m := by decide) : x.natAbs < 10 ^ m := bd_le h.h k
/-! ## sums of products -/
theorem wipeR_len {ρ : Ro} : ∀ vs : List Nat, (wipeR ρ vs).length = ρ.length
  | [] => rfl
  | v :: vs => by
    show ((wipeR ρ vs).set v none).length = _
    rw [List.length_set, wipeR_len vs]
theorem gin_pair {G : Gs} {i j : Nat} {vs : List Nat} (hi : i ∈ vs) (hj : j ∈ vs) : GIn (gTup G.K 2 (gCons (gName i) (gCons (gName j) gNil))) vs :=
  gin_tup (gin_cons (gin_name hi) (gin_cons (gin_name hj) gin_nil mono_name mono_nil) mono_name (mono_cons mono_name mono_nil))
def mulP : D → PyData
  | .py (.tuple [.int x, .int y]) => .int (x * y)
  | _ => .none
section
variable {G : Gs} {B0 : Hp} {ρ : Ro} {O : Ow} {κ : D → Ow → Prop}
theorem zip_ints : ∀ (xs ys : List Int), (((xs.map PyData.int).zip (ys.map PyData.int)).map fun p => D.py (.tuple [p.1, p.2])) = (xs.zip ys).map fun p => D.py (.tuple [.int p.1, .int p.2])
  | [], _ => rfl
  | _ :: _, [] => rfl
  | x :: xs, y :: ys => by
    simp only [List.map_cons, List.zip_cons_cons, zip_ints xs ys]
theorem le_zipmul {ta : TA} {i j : Nat} (xs ys : List Int) (hi : Nat.blt i ρ.length = true) (hj : Nat.blt j ρ.length = true) (hij : i ≠ j) (hl : xs.length < 100000) (bx : ∀ x ∈ xs, x.natAbs < Big) (bY : ∀ y ∈ ys, y.natAbs < Big)
    (h : LA G B0 ta ρ O fun zs O1 => zs = [.py (.list (xs.map PyData.int)), .py (.list (ys.map PyData.int))] ∧ κ (.py (.list (((xs.zip ys).map fun p => p.1 * p.2).map PyData.int))) O1) :
    LE G B0 (tLc (iZip G.K ta) (gTup G.K 2 (gCons (gName i) (gCons (gName j) gNil))) tYes (tOp rMulU (tVar i) (tVar j)) [i, j]) ρ O κ := by
  refine le_map mulP (fun _ => true) (gin_pair List.mem_cons_self (List.mem_cons_of_mem _ List.mem_cons_self)) (li_zip (h.imp ?_))
  rintro zs O1 ⟨rfl, k⟩
  refine ⟨_, _, rfl, ?_⟩
  rw [zip_ints]
  refine ⟨by rw [List.length_map, List.length_zip]; omega, ?_, ?_⟩
  · intro d hd r acc hr
    obtain ⟨p, hp, rfl⟩ := List.mem_map.mp hd
    obtain ⟨h1, h2⟩ := List.of_mem_zip hp
    refine lg_tup rfl (lgs_cons (lg_name (lgs_cons (lg_name (lgs_nil ⟨rfl, lt_yes ⟨rfl, rfl, fun _ => le_op (le_var (d := .py (.int p.1)) ?_ (le_var (d := .py (.int p.2)) ?_ (lr_mul (mulW (bx _ h1) (bY _ h2)) ⟨rfl, rfl⟩)))⟩⟩)))))
    · rw [List.getElem?_set, if_neg hij.symm, List.getElem?_set, if_pos rfl, if_pos (by rw [wipeR_len]; exact Nat.le_of_ble_eq_true hi)]
    · rw [List.getElem?_set, if_pos rfl, if_pos (by rw [List.length_set, wipeR_len]; exact Nat.le_of_ble_eq_true hj)]
  · have e : (((xs.zip ys).map fun p => D.py (.tuple [.int p.1, .int p.2])).filter fun _ => true).map mulP = ((xs.zip ys).map fun p => p.1 * p.2).map PyData.int := by
      rw [List.filter_eq_self.mpr (fun _ _ => rfl), List.map_map, List.map_map]
      rfl
    rw [e]
    exact k
end
end DL
namespace DL
open PySem PySem.Spec PyProof.Rows L2 Evl
/-! ## lists by place, from the end; a list cut where it ends -/
theorem atI_neg {α : Type} {xs : List α} {i : Int} {j : Nat} (h : i < 0) (h1 : i + xs.length = (j : Int)) : atI xs i = xs[j]? := by
  unfold atI ixN
  rw [if_neg (by omega), if_pos (by omega)]
  have e : (i + (xs.length : Int)).toNat = j := by omega
  rw [e]
  rfl
def ptD (x : Int × Int) : PyData := .tuple [.int x.1, .int x.2]
end DL
namespace DL
open PySem PySem.Spec PyProof.Rows L2 Evl
/-! ## lists of numbers -/
def inL (l : List Int) : PyData := .list (l.map PyData.int)
theorem at0 {l : List Int} (h : l ≠ []) : atI (l.map PyData.int) 0 = some (.int (l.headD 0)) := by
  cases l with
  | nil => exact absurd rfl h
  | cons x xs =>
    rw [atI_nn (by decide) (by simp)]
    rfl
theorem cut_tail (l : List Int) : cutD (l.map PyData.int) (some 1) none = (l.drop 1).map PyData.int := by
  have e : ∀ n : Nat, HT.sIx n 0 (some (1 : Int)) = min 1 n := fun n => HT.sIx_nat n 0 1
  show ((l.map PyData.int).drop (HT.sIx (l.map PyData.int).length 0 (some 1))).take (HT.sIx (l.map PyData.int).length (l.map PyData.int).length none - HT.sIx (l.map PyData.int).length 0 (some 1)) = _
  rw [e, HT.sIx_none, List.length_map]
  cases l with
  | nil => rfl
  | cons x xs =>
    have e1 : min 1 (x :: xs).length = 1 := by
      rw [List.length_cons]
      omega
    rw [e1, ← List.map_drop]
    exact List.take_of_length_le (by rw [List.length_map, List.length_drop]; omega)
theorem rep0 (n : Nat) : (List.replicate n [PyData.int 0]).flatten = (List.replicate n (0 : Int)).map PyData.int := by
  induction n with
  | zero => rfl
  | succ n ih =>
    rw [List.replicate_succ, List.replicate_succ, List.flatten_cons, List.map_cons, ih]
    rfl
theorem eqv_ints : ∀ l r : List Int, PyData.eqv (inL l) (inL r) = decide (l = r) := by
  have aux : ∀ l r : List Int, PyData.eqvAll (l.map PyData.int) (r.map PyData.int) = decide (l = r) := by
    intro l
    induction l with
    | nil =>
      intro r
      cases r with
      | nil => rfl
      | cons y ys => simp [PyData.eqvAll]
    | cons x xs ih =>
      intro r
      cases r with
      | nil => simp [PyData.eqvAll]
      | cons y ys =>
        simp only [List.map_cons, PyData.eqvAll, PyData.eqv, ih, List.cons.injEq, Bool.decide_and]
        rfl
  intro l r
  unfold inL
  simp only [PyData.eqv, aux]
theorem shaped_ints (l : List Int) : SeqAt.shaped (inL l) = true := by
  have h1 : ∀ l : List Int, PyData.canLayAll0 (l.map PyData.int) = true := fun l => by
    induction l with
    | nil => rfl
    | cons x xs ih => simp [PyData.canLayAll0, PyData.canLay0, ih]
  have h2 : ∀ l : List Int, PyData.depthAll (l.map PyData.int) ≤ 1 := fun l => by
    induction l with
    | nil => simp [PyData.depthAll]
    | cons x xs ih =>
      simp only [List.map_cons, PyData.depthAll, PyData.depth]
      omega
  have h3 : (inL l).canLay0 = true := by
    unfold inL
    rw [PyData.canLay0]
    exact h1 l
  have h4 : (inL l).depth ≤ 64 := by
    have := h2 l
    unfold inL
    rw [PyData.depth]
    omega
  show ((inL l).canLay0 && decide ((inL l).depth ≤ 64)) = true
  rw [h3, decide_eq_true h4]
  rfl
end DL

namespace DL
open PySem PySem.Spec PyProof.Rows L2 Evl
/-! ## slots by place -/
inductive SetAt : Ro → Nat → Option D → Ro → Prop
  | z {x d : Option D} {xs : Ro} : SetAt (x :: xs) 0 d (d :: xs)
  | s {x d : Option D} {xs ys : Ro} {n : Nat} : SetAt xs n d ys → SetAt (x :: xs) (n + 1) d (x :: ys)
theorem SetAt.eq : ∀ {l l' : Ro} {n : Nat} {d : Option D}, SetAt l n d l' → l.set n d = l'
  | _, _, _, _, .z => rfl
  | _, _, _, _, .s h => by rw [List.set_cons_succ, h.eq]
inductive GetAt : Ro → Nat → D → Prop
  | z {d : D} {xs : Ro} : GetAt (some d :: xs) 0 d
  | s {d : D} {x : Option D} {xs : Ro} {n : Nat} : GetAt xs n d → GetAt (x :: xs) (n + 1) d
theorem GetAt.eq : ∀ {l : Ro} {n : Nat} {d : D}, GetAt l n d → l[n]? = some (some d)
  | _, _, _, .z => rfl
  | _, _, _, .s h => by rw [List.getElem?_cons_succ, h.eq]
section
variable {G : Gs} {B0 : Hp} {ρ : Ro} {O : Ow} {N : Ro → Ow → Prop} {R : D → Ow → Prop} {Bk Ct : Ro → Ow → Prop}
theorem le_varN {i : Nat} {d : D} {κ : D → Ow → Prop} (h : GetAt ρ i d) (k : κ d O) : LE G B0 (tVar i) ρ O κ := le_var h.eq k
theorem ls_setN {te : TE} {i : Nat} (h : LE G B0 te ρ O fun d O1 => ∃ ρ', SetAt ρ i (some d) ρ' ∧ N ρ' O1) : LS G B0 (tAsg te (gName i)) ρ O N R Bk Ct := ls_set (h.imp fun d O' ⟨ρ', s, k⟩ => by rw [s.eq]; exact k)
theorem ls_parN {i j : Nat} {ta : TA} (h : LA G B0 ta ρ O fun ds O1 => ∃ x y, ds = [x, y] ∧ ∃ ρ1, SetAt ρ i (some x) ρ1 ∧ ∃ ρ2, SetAt ρ1 j (some y) ρ2 ∧ N ρ2 O1) : LS G B0 (tPar i j ta) ρ O N R Bk Ct := ls_par (h.imp fun ds O' ⟨x, y, e, ρ1, s1, ρ2, s2, k⟩ => ⟨x, y, e, by rw [s1.eq, s2.eq]; exact k⟩)
theorem ls_par3N {i j l : Nat} {ta : TA} (h : LA G B0 ta ρ O fun ds O1 => ∃ x y z, ds = [x, y, z] ∧ ∃ ρ1, SetAt ρ i (some x) ρ1 ∧ ∃ ρ2, SetAt ρ1 j (some y) ρ2 ∧ ∃ ρ3, SetAt ρ2 l (some z) ρ3 ∧ N ρ3 O1) : LS G B0 (tPar3 i j l ta) ρ O N R Bk Ct := ls_par3 (h.imp fun ds O' ⟨x, y, z, e, ρ1, s1, ρ2, s2, ρ3, s3, k⟩ => ⟨x, y, z, e, by rw [s1.eq, s2.eq, s3.eq]; exact k⟩)
theorem lg_nameN {i : Nat} {d : D} {ρ' : Ro} (s : SetAt ρ i (some d) ρ') (k : N ρ' O) : LG G B0 (gName i) d ρ O N := lg_name (by rw [s.eq]; exact k)
end
theorem SetAt.of : ∀ {l : Ro} {n : Nat} {d : Option D}, n < l.length → SetAt l n d (l.set n d)
  | [], _, _, h => absurd h (Nat.not_lt_zero _)
  | _ :: _, 0, _, _ => .z
  | _ :: _, _ + 1, _, h => .s (SetAt.of (Nat.lt_of_succ_lt_succ h))
theorem ex_set {P : Ro → Prop} {ρ ρ' : Ro} {i : Nat} {d : Option D} (h : SetAt ρ i d ρ') (k : P ρ') : ∃ ρ', SetAt ρ i d ρ' ∧ P ρ' := ⟨ρ', h, k⟩
theorem ls_cut {G : Gs} {B0 : Hp} {ρ : Ro} {O : Ow} {N : Ro → Ow → Prop} {R : D → Ow → Prop} {Bk Ct : Ro → Ow → Prop} {t u : TS} (J : Ro → Ow → Prop) (h1 : LS G B0 t ρ O J R Bk Ct) (h2 : ∀ ρ' O', J ρ' O' → LS G B0 u ρ' O' N R Bk Ct) : LS G B0 (tSeq t u) ρ O N R Bk Ct :=
  ls_seq (h1.imp h2 (fun _ _ k => k) (fun _ _ k => k) (fun _ _ k => k))
/-- numbers in a list -/
theorem ints_of {P : Int → Prop} : ∀ {ds : List PyData}, (∀ e ∈ ds, ∃ r, e = .int r ∧ P r) → ∃ ns : List Int, ds = ns.map PyData.int ∧ ns.length = ds.length ∧ ∀ x ∈ ns, P x
  | [], _ => ⟨[], rfl, rfl, fun _ h => absurd h List.not_mem_nil⟩
  | d :: ds, h => by
    obtain ⟨r, rfl, hr⟩ := h d List.mem_cons_self
    obtain ⟨ns, e, el, hn⟩ := ints_of fun e he => h e (List.mem_cons_of_mem _ he)
    refine ⟨r :: ns, by rw [e]; rfl, by rw [List.length_cons, List.length_cons, el], fun x hx => ?_⟩
    rcases List.mem_cons.mp hx with rfl | hx
    · exact hr
    · exact hn x hx
/-! ## what is reckoned -/
abbrev six (a b c d e f : Int) : PyData := .list [.int a, .int b, .int c, .int d, .int e, .int f]
/-- six numbers of at most so many digits -/
def sixB (n : Nat) (a b c d e f : Int) : Prop := a.natAbs < 10 ^ n ∧ b.natAbs < 10 ^ n ∧ c.natAbs < 10 ^ n ∧ d.natAbs < 10 ^ n ∧ e.natAbs < 10 ^ n ∧ f.natAbs < 10 ^ n
/-- the five numbers of the form of degree four -/
def q4 (a b c d e f : Int) : Int := b * b - 4 * a * c
def q3 (a b c d e f : Int) : Int := 2 * b * d - 4 * a * e - 4 * b * c
def q2 (a b c d e f : Int) : Int := d * d - 2 * b * e - 4 * a * f - 4 * c * c
def q1 (a b c d e f : Int) : Int := 2 * d * e - 4 * b * f - 4 * c * e
def q0 (a b c d e f : Int) : Int := e * e - 4 * c * f
def quD (a b c d e f : Int) : PyData := .list [.int (q4 a b c d e f), .int (q3 a b c d e f), .int (q2 a b c d e f), .int (q1 a b c d e f), .int (q0 a b c d e f)]
def bendI (d4 d3 d2 d1 d0 : Int) : Int := 12 * d4 * d0 - 3 * d3 * d1 + d2 * d2
def bendJ (d4 d3 d2 d1 d0 : Int) : Int := 72 * d4 * d2 * d0 + 9 * d3 * d2 * d1 - 27 * d4 * d1 * d1 - 27 * d3 * d3 * d0 - 2 * d2 * d2 * d2
/-- 0 exactly where the form of degree four has a root twice -/
def bendV (d4 d3 d2 d1 d0 : Int) : Int := 4 * bendI d4 d3 d2 d1 d0 * bendI d4 d3 d2 d1 d0 * bendI d4 d3 d2 d1 d0 - bendJ d4 d3 d2 d1 d0 * bendJ d4 d3 d2 d1 d0
def gcdF (g : Nat) (ns : List Int) : Nat := ns.foldl (fun g x => Int.gcd x (g : Int)) g
def gcdL (ns : List Int) : Nat := gcdF 0 ns
def nz (ns : List Int) : List Int := ns.filter fun x => !decide (x = 0)
/-- what all are divided by -/
def plainD (ns : List Int) : Int := if (nz ns).headD 0 < 0 then 0 - (gcdL ns : Int) else (gcdL ns : Int)
def plainL (ns : List Int) : List Int := ns.map fun x => x.fdiv (plainD ns)
theorem gcdL_snoc (ns : List Int) (x : Int) : gcdL (ns ++ [x]) = Int.gcd x (gcdL ns : Int) := by
  unfold gcdL gcdF
  rw [List.foldl_append]
  rfl
theorem gcdF_dvd : ∀ (ns : List Int) (g : Nat), gcdF g ns ∣ g ∧ ∀ x ∈ ns, gcdF g ns ∣ x.natAbs
  | [], g => ⟨Nat.dvd_refl _, fun _ h => absurd h List.not_mem_nil⟩
  | y :: ns, g => by
    obtain ⟨h1, h2⟩ := gcdF_dvd ns (Int.gcd y (g : Int))
    have e : gcdF g (y :: ns) = gcdF (Int.gcd y (g : Int)) ns := rfl
    rw [e]
    refine ⟨Nat.dvd_trans h1 (Int.gcd_dvd_natAbs_right y (g : Int)), fun x hx => ?_⟩
    rcases List.mem_cons.mp hx with rfl | hx
    · exact Nat.dvd_trans h1 (Int.gcd_dvd_natAbs_left _ _)
    · exact h2 x hx
theorem gcdF_lt {n : Nat} : ∀ (ns : List Int) (g : Nat), (∀ x ∈ ns, x.natAbs < n) → g < n → gcdF g ns < n
  | [], g, _, h => h
  | y :: ns, g, hx, h => by
    refine gcdF_lt ns _ (fun x m => hx x (List.mem_cons_of_mem _ m)) ?_
    show Int.gcd y (g : Int) < n
    rw [Int.gcd_eq_natAbs_gcd_natAbs]
    by_cases h0 : y = 0
    · subst h0
      show Nat.gcd 0 g < n
      rw [Nat.gcd_zero_left]
      exact h
    · have := hx y List.mem_cons_self
      exact Nat.lt_of_le_of_lt (Nat.gcd_le_left _ (by omega)) this
theorem nz_mem {ns : List Int} (h : nz ns ≠ []) : ∃ x ∈ ns, x ≠ 0 ∧ (nz ns).headD 0 = x := by
  cases e : nz ns with
  | nil => exact absurd e h
  | cons x xs =>
    have m : x ∈ nz ns := by rw [e]; exact List.mem_cons_self
    obtain ⟨h1, h2⟩ := List.mem_filter.mp m
    refine ⟨x, h1, fun z => ?_, rfl⟩
    rw [z] at h2
    cases h2
theorem gcdL_pos {ns : List Int} (h : nz ns ≠ []) : 0 < gcdL ns := by
  obtain ⟨x, hx, h0, _⟩ := nz_mem h
  have d := (gcdF_dvd ns 0).2 x hx
  rcases Nat.eq_zero_or_pos (gcdL ns) with e | e
  · have d' : gcdL ns ∣ x.natAbs := d
    rw [e] at d'
    have := Nat.eq_zero_of_zero_dvd d'
    omega
  · exact e
def atV (a b c d e f p q r s : Int) : Int := a * (p * p * r * r) + b * (p * r * (p * s + r * q)) + c * (p * p * s * s + r * r * q * q) + d * (p * q * r * s) + e * (q * s * (p * s + r * q)) + f * (q * q * s * s)
/-- a form of degree two at p by q -/
def fV (x y z p q : Int) : Int := x * (p * p) + y * (p * q) + z * (q * q)
theorem atV_hi (c0 c1 c2 c3 c4 c5 p q : Int) : atV c0 c1 c2 c3 c4 c5 p q 1 0 = fV c0 c1 c2 p q := by
  unfold atV fV
  grind
theorem atV_lo (c0 c1 c2 c3 c4 c5 p q : Int) : atV c0 c1 c2 c3 c4 c5 p q 0 1 = fV c2 c4 c5 p q := by
  unfold atV fV
  grind
theorem atV_mid (c0 c1 c2 c3 c4 c5 p q : Int) : atV c0 c1 c2 c3 c4 c5 p q 1 1 - fV c0 c1 c2 p q - fV c2 c4 c5 p q = fV c1 c3 c4 p q := by
  unfold atV fV
  grind
/-- the member behind left and right -/
def nextD (c0 c1 c2 c3 c4 c5 u v p q : Int) : Int × Int :=
  if u ≠ 0 ∧ v ≠ 0 then (fV c2 c4 c5 p q * v, fV c0 c1 c2 p q * u) else if u = 0 then (0 - fV c1 c3 c4 p q, fV c0 c1 c2 p q) else (0 - fV c2 c4 c5 p q, fV c1 c3 c4 p q)
theorem fV_bd {x y z p q : Int} {n m : Nat} (hx : BdI x n) (hy : BdI y n) (hz : BdI z n) (hp : BdI p m) (hq : BdI q m) (_ : True) : (fV x y z p q).natAbs < 10 ^ (n + (m + m) + 2) := by
  unfold fV
  have h1 : Nat.max (n + (m + m)) (n + (m + m)) = n + (m + m) := Nat.max_self _
  have h2 : Nat.max (n + (m + m) + 1) (n + (m + m)) = n + (m + m) + 1 := Nat.max_eq_left (by omega)
  refine bd_le (BdI.h (x := x * (p * p) + y * (p * q) + z * (q * q))) ?_
  rw [h1, h2]
  omega
def nxt (c0 c1 c2 c3 c4 c5 : Int) (x y : Int × Int) : Int × Int := (lowA (nextD c0 c1 c2 c3 c4 c5 x.1 x.2 y.1 y.2).1 (nextD c0 c1 c2 c3 c4 c5 x.1 x.2 y.1 y.2).2, lowB (nextD c0 c1 c2 c3 c4 c5 x.1 x.2 y.1 y.2).1 (nextD c0 c1 c2 c3 c4 c5 x.1 x.2 y.1 y.2).2)
def strB (c0 c1 c2 c3 c4 c5 : Int) : Bool := !decide (bendV (q4 c0 c1 c2 c3 c4 c5) (q3 c0 c1 c2 c3 c4 c5) (q2 c0 c1 c2 c3 c4 c5) (q1 c0 c1 c2 c3 c4 c5) (q0 c0 c1 c2 c3 c4 c5) = 0)
end DL

namespace DL
open PySem PySem.Spec PyProof.Rows L2 Evl
/-! ## points and chains, as mathematics -/
abbrev Pt := Int × Int
structure IsPt (x : Pt) : Prop where
  g : Int.gcd x.1 x.2 = 1
  s : x.2 = 0 → x.1 = 1
  p : 0 ≤ x.2
theorem gcd1_dvd {k n m : Int} (h : Int.gcd k n = 1) (d : k ∣ n * m) : k ∣ m := by
  have := (Int.dvd_gcd_mul_iff_dvd_mul (k := k) (n := n) (m := m)).mpr d
  rw [h] at this
  simpa using this
theorem IsPt.ne {x : Pt} (h : IsPt x) : ¬ (x.1 = 0 ∧ x.2 = 0) := fun z => by
  have := h.s z.2
  omega
/-- points with the same value are the same -/
theorem pt_eq {x y : Pt} (hx : IsPt x) (hy : IsPt y) (h : x.1 * y.2 = y.1 * x.2) : x = y := by
  obtain ⟨a, b⟩ := x
  obtain ⟨c, d⟩ := y
  have g1 := hx.g
  have g2 := hy.g
  have p1 := hx.p
  have p2 := hy.p
  have s1 := hx.s
  have s2 := hy.s
  simp only at *
  have d1 : b ∣ d := gcd1_dvd (n := a) (by rw [Int.gcd_comm]; exact g1) ⟨c, by rw [h, Int.mul_comm]⟩
  have d2 : d ∣ b := gcd1_dvd (n := c) (by rw [Int.gcd_comm]; exact g2) ⟨a, by rw [← h, Int.mul_comm]⟩
  have e : b = d := Int.dvd_antisymm p1 p2 d1 d2
  subst e
  by_cases h0 : b = 0
  · rw [s1 h0, s2 h0]
  · have := Int.eq_of_mul_eq_mul_right h0 h
    rw [this]
def lowP (x y : Int) : Pt := (lowA x y, lowB x y)
theorem lowP_pt (x y : Int) : IsPt (lowP x y) := by
  by_cases h : y = 0
  · have e : lowP x y = (1, 0) := by
      unfold lowP lowA lowB
      rw [if_pos h, if_pos h]
    rw [e]
    exact ⟨rfl, fun _ => rfl, by decide⟩
  · refine ⟨low_gcd h, fun z => ?_, ?_⟩
    · have := lowB_pos (x := x) h
      have z' : lowB x y = 0 := z
      omega
    · have := lowB_pos (x := x) h
      show 0 ≤ lowB x y
      omega
theorem lowP_cross (x y : Int) : (lowP x y).1 * y = (lowP x y).2 * x := by
  by_cases h : y = 0
  · unfold lowP lowA lowB
    rw [if_pos h, if_pos h, h]
    simp
  · exact low_cross h
theorem lowP_eq {x y : Int} {z : Pt} (hz : IsPt z) (h0 : ¬ (x = 0 ∧ y = 0)) (h : z.1 * y = z.2 * x) : lowP x y = z := by
  have hl := lowP_cross x y
  refine pt_eq (lowP_pt x y) hz ?_
  by_cases hy : y = 0
  · have hx : x ≠ 0 := fun e => h0 ⟨e, hy⟩
    subst hy
    have e1 : z.2 = 0 := by
      rcases Int.mul_eq_zero.mp (show z.2 * x = 0 by omega) with e | e
      · exact e
      · exact absurd e hx
    have e2 : (lowP x 0).2 = 0 := by
      rcases Int.mul_eq_zero.mp (show (lowP x 0).2 * x = 0 by omega) with e | e
      · exact e
      · exact absurd e hx
    rw [e1, e2]
    simp
  · apply Int.eq_of_mul_eq_mul_right hy
    grind
/-- common factors do not matter -/
theorem lowP_mul {k x y : Int} (hk : k ≠ 0) (h0 : ¬ (x = 0 ∧ y = 0)) : lowP (k * x) (k * y) = lowP x y := by
  refine lowP_eq (lowP_pt x y) (fun z => h0 ?_) ?_
  · have h1 := Int.mul_eq_zero.mp z.1
    have h2 := Int.mul_eq_zero.mp z.2
    exact ⟨h1.resolve_left hk, h2.resolve_left hk⟩
  · have := lowP_cross x y
    grind
theorem lowP_self {x : Pt} (h : IsPt x) : lowP x.1 x.2 = x := lowP_eq h h.ne (Int.mul_comm _ _)
/-- the other root of A Y Y + B Y W + C W W, of which r by s is one: c by a -/
structure Oth (A B C r s a c : Int) : Prop where
  hA : A = s * a
  hC : C = r * c
  hB : B = -(s * c + r * a)
theorem Oth.ne {A B C r s a c : Int} (h : Oth A B C r s a c) (h0 : ¬ (A = 0 ∧ B = 0 ∧ C = 0)) : ¬ (c = 0 ∧ a = 0) := fun z => by
  obtain ⟨h1, h2, h3⟩ := h
  rw [z.1, z.2] at h3
  rw [z.2] at h1
  rw [z.1] at h2
  exact h0 ⟨by omega, by omega, by omega⟩
theorem oth_of {A B C : Int} {x : Pt} (hx : IsPt x) (h : A * (x.1 * x.1) + B * (x.1 * x.2) + C * (x.2 * x.2) = 0) : ∃ a c, Oth A B C x.1 x.2 a c := by
  obtain ⟨r, s⟩ := x
  have g := hx.g
  have sx := hx.s
  have px := hx.p
  simp only at *
  by_cases hs : s = 0
  · have hr := sx hs
    subst hs
    subst hr
    exact ⟨-B, C, by omega, by omega, by omega⟩
  · by_cases hr : r = 0
    · subst hr
      have e : s = 1 := by
        rw [Int.gcd_zero_left] at g
        omega
      subst e
      exact ⟨A, -B, by omega, by omega, by omega⟩
    · have g' : Int.gcd s r = 1 := by rw [Int.gcd_comm]; exact g
      have d1 : s ∣ A := by
        refine gcd1_dvd g' (gcd1_dvd g' ⟨-(B * r + C * s), ?_⟩)
        grind
      have d2 : r ∣ C := by
        refine gcd1_dvd g (gcd1_dvd g ⟨-(A * r + B * s), ?_⟩)
        grind
      obtain ⟨a, ha⟩ := d1
      obtain ⟨c, hc⟩ := d2
      refine ⟨a, c, ha, hc, ?_⟩
      subst ha
      subst hc
      have e : (r * s) * (B + (s * c + r * a)) = 0 := by grind
      rcases Int.mul_eq_zero.mp e with e | e
      · rcases Int.mul_eq_zero.mp e with e | e
        · exact absurd e hr
        · exact absurd e hs
      · omega
theorem oth_root {A B C r s a c : Int} (h : Oth A B C r s a c) : A * (c * c) + B * (c * a) + C * (a * a) = 0 := by
  obtain ⟨h1, h2, h3⟩ := h
  subst h1
  subst h2
  subst h3
  grind
theorem oth_val {A B C r s a c y w : Int} (h : Oth A B C r s a c) : A * (y * y) + B * (y * w) + C * (w * w) = (s * y - r * w) * (a * y - c * w) := by
  obtain ⟨h1, h2, h3⟩ := h
  subst h1
  subst h2
  subst h3
  grind
/-- a root times a number is one -/
theorem root_low {A B C c a : Int} (h : A * (c * c) + B * (c * a) + C * (a * a) = 0) (h0 : ¬ (c = 0 ∧ a = 0)) : A * ((lowP c a).1 * (lowP c a).1) + B * ((lowP c a).1 * (lowP c a).2) + C * ((lowP c a).2 * (lowP c a).2) = 0 := by
  have e := lowP_cross c a
  generalize (lowP c a).1 = p at *
  generalize (lowP c a).2 = q at *
  by_cases ha : a = 0
  · have hc : c ≠ 0 := fun z => h0 ⟨z, ha⟩
    subst ha
    have hq : q = 0 := by
      rcases Int.mul_eq_zero.mp (show q * c = 0 by omega) with e | e
      · exact e
      · exact absurd e hc
    have hA : A = 0 := by
      rcases Int.mul_eq_zero.mp (show A * (c * c) = 0 by grind) with e | e
      · exact e
      · rcases Int.mul_eq_zero.mp e with e | e
        · exact absurd e hc
        · exact absurd e hc
    subst hq
    subst hA
    simp
  · have : (a * a) * (A * (p * p) + B * (p * q) + C * (q * q)) = 0 := by
      have e1 : (a * a) * (A * (p * p) + B * (p * q) + C * (q * q)) = A * ((p * a) * (p * a)) + B * ((p * a) * (q * a)) + C * ((q * a) * (q * a)) := by grind
      rw [e1, e]
      have e2 : A * (q * c * (q * c)) + B * (q * c * (q * a)) + C * (q * a * (q * a)) = (q * q) * (A * (c * c) + B * (c * a) + C * (a * a)) := by grind
      rw [e2, h]
      simp
    rcases Int.mul_eq_zero.mp this with e | e
    · rcases Int.mul_eq_zero.mp e with e | e
      · exact absurd e ha
      · exact absurd e ha
    · exact e
/-- how great it is -/
theorem oth_bd {A B C r s a c : Int} {M : Nat} (h : Oth A B C r s a c) (hA : A.natAbs ≤ M) (hB : B.natAbs ≤ M) (hC : C.natAbs ≤ M) :
    (s * c).natAbs ≤ 2 * M ∧ (r * a).natAbs ≤ 2 * M ∧ (s * a).natAbs ≤ 2 * M ∧ (r * c).natAbs ≤ 2 * M := by
  obtain ⟨h1, h2, h3⟩ := h
  have e : (s * c) * (r * a) = A * C := by subst h1; subst h2; grind
  have e' : (s * c).natAbs * (r * a).natAbs ≤ M * M := by
    rw [← Int.natAbs_mul, e, Int.natAbs_mul]
    exact Nat.mul_le_mul hA hC
  have key : ∀ u v : Nat, u * v ≤ M * M → u ≤ v + M → u ≤ 2 * M := by
    intro u v h1 h2
    apply Decidable.byContradiction
    intro h3
    have h4 : M + 1 ≤ v := by omega
    have h5 : 2 * M + 1 ≤ u := by omega
    have h6 : (2 * M + 1) * (M + 1) ≤ u * v := Nat.mul_le_mul h5 h4
    have h7 : (2 * M + 1) * (M + 1) = 2 * (M * M) + 3 * M + 1 := by grind
    omega
  generalize s * c = u at *
  generalize r * a = v at *
  refine ⟨key _ _ e' (by omega), key _ _ (by rw [Nat.mul_comm]; exact e') (by omega), by omega, by omega⟩
end DL

namespace DL
open PySem PySem.Spec PyProof.Rows L2 Evl
/-! ## six numbers, and chains -/
structure Co where
  (a b c d e f : Int)
def Co.A (c : Co) (y : Pt) : Int := fV c.a c.b c.c y.1 y.2
def Co.B (c : Co) (y : Pt) : Int := fV c.b c.d c.e y.1 y.2
def Co.C (c : Co) (y : Pt) : Int := fV c.c c.e c.f y.1 y.2
def Co.at_ (c : Co) (x y : Pt) : Int := atV c.a c.b c.c c.d c.e c.f x.1 x.2 y.1 y.2
def Co.bend (c : Co) : Int := bendV (q4 c.a c.b c.c c.d c.e c.f) (q3 c.a c.b c.c c.d c.e c.f) (q2 c.a c.b c.c c.d c.e c.f) (q1 c.a c.b c.c c.d c.e c.f) (q0 c.a c.b c.c c.d c.e c.f)
def Co.Bd (c : Co) (K : Nat) : Prop := c.a.natAbs ≤ K ∧ c.b.natAbs ≤ K ∧ c.c.natAbs ≤ K ∧ c.d.natAbs ≤ K ∧ c.e.natAbs ≤ K ∧ c.f.natAbs ≤ K
theorem at_form (c : Co) (x y : Pt) : c.at_ x y = c.A y * (x.1 * x.1) + c.B y * (x.1 * x.2) + c.C y * (x.2 * x.2) := by
  unfold Co.at_ Co.A Co.B Co.C atV fV
  grind
theorem at_comm (c : Co) (x y : Pt) : c.at_ x y = c.at_ y x := by
  unfold Co.at_ atV
  grind
theorem four_eq {q0 q1 q2 q3 q4 p q : Int} (hq : q ≠ 0) (h0 : q4 * (p * p * p * p) + q3 * (p * p * p * q) + q2 * (p * p * q * q) + q1 * (p * q * q * q) + q0 * (q * q * q * q) = 0)
    (h1 : 4 * q4 * (p * p * p) + 3 * q3 * (p * p * q) + 2 * q2 * (p * q * q) + q1 * (q * q * q) = 0) : bendV q4 q3 q2 q1 q0 = 0 := by
  have e1 : q1 * (q * q * q) = -(4 * q4 * (p * p * p) + 3 * q3 * (p * p * q) + 2 * q2 * (p * q * q)) := by omega
  have e0 : q0 * (q * q * q * q) = 3 * q4 * (p * p * p * p) + 2 * q3 * (p * p * p * q) + q2 * (p * p * q * q) := by grind
  let S : Int := 6 * q4 * (p * p) + 3 * q3 * (p * q) + q2 * (q * q)
  have eI : bendI q4 q3 q2 q1 q0 * (q * q * q * q) = S * S := by
    have : bendI q4 q3 q2 q1 q0 * (q * q * q * q) = 12 * q4 * (q0 * (q * q * q * q)) - 3 * q3 * q * (q1 * (q * q * q)) + q2 * q2 * (q * q * q * q) := by unfold bendI; grind
    rw [this, e1, e0]
    show _ = (6 * q4 * (p * p) + 3 * q3 * (p * q) + q2 * (q * q)) * (6 * q4 * (p * p) + 3 * q3 * (p * q) + q2 * (q * q))
    grind
  have eJ : bendJ q4 q3 q2 q1 q0 * (q * q * q * q * q * q) = -2 * (S * S * S) := by
    have : bendJ q4 q3 q2 q1 q0 * (q * q * q * q * q * q) = 72 * q4 * q2 * (q * q) * (q0 * (q * q * q * q)) + 9 * q3 * q2 * (q * q * q) * (q1 * (q * q * q)) - 27 * q4 * (q1 * (q * q * q)) * (q1 * (q * q * q)) - 27 * q3 * q3 * (q * q) * (q0 * (q * q * q * q)) - 2 * q2 * q2 * q2 * (q * q * q * q * q * q) := by unfold bendJ; grind
    rw [this, e1, e0]
    show _ = -2 * ((6 * q4 * (p * p) + 3 * q3 * (p * q) + q2 * (q * q)) * (6 * q4 * (p * p) + 3 * q3 * (p * q) + q2 * (q * q)) * (6 * q4 * (p * p) + 3 * q3 * (p * q) + q2 * (q * q)))
    grind
  have hN : q * q * q * q * q * q * (q * q * q * q * q * q) ≠ 0 := by
    simp [Int.mul_eq_zero, hq]
  have e : bendV q4 q3 q2 q1 q0 * (q * q * q * q * q * q * (q * q * q * q * q * q)) = 0 := by
    have : bendV q4 q3 q2 q1 q0 * (q * q * q * q * q * q * (q * q * q * q * q * q)) = 4 * (bendI q4 q3 q2 q1 q0 * (q * q * q * q)) * (bendI q4 q3 q2 q1 q0 * (q * q * q * q)) * (bendI q4 q3 q2 q1 q0 * (q * q * q * q)) - (bendJ q4 q3 q2 q1 q0 * (q * q * q * q * q * q)) * (bendJ q4 q3 q2 q1 q0 * (q * q * q * q * q * q)) := by unfold bendV; grind
    rw [this, eI, eJ]
    grind
  exact (Int.mul_eq_zero.mp e).resolve_right hN
/-- a point whose three numbers are 0 bends the relation -/
theorem bend_of {c : Co} {y : Pt} (h0 : ¬ (y.1 = 0 ∧ y.2 = 0)) (hA : c.A y = 0) (hB : c.B y = 0) (hC : c.C y = 0) : c.bend = 0 := by
  obtain ⟨a, b, c, d, e, f⟩ := c
  obtain ⟨p, q⟩ := y
  simp only [Co.A, Co.B, Co.C, Co.bend, fV] at *
  by_cases hq : q = 0
  · have hp : p ≠ 0 := fun z => h0 ⟨z, hq⟩
    have hpp : p * p ≠ 0 := by simp [Int.mul_eq_zero, hp]
    subst hq
    have ea : a = 0 := (Int.mul_eq_zero.mp (show a * (p * p) = 0 by omega)).resolve_right hpp
    have eb : b = 0 := (Int.mul_eq_zero.mp (show b * (p * p) = 0 by omega)).resolve_right hpp
    have ec : c = 0 := (Int.mul_eq_zero.mp (show c * (p * p) = 0 by omega)).resolve_right hpp
    subst ea
    subst eb
    subst ec
    unfold bendV bendI bendJ q4 q3 q2 q1 q0
    grind
  · refine four_eq (p := p) (q := q) hq ?_ ?_
    · have e : q4 a b c d e f * (p * p * p * p) + q3 a b c d e f * (p * p * p * q) + q2 a b c d e f * (p * p * q * q) + q1 a b c d e f * (p * q * q * q) + q0 a b c d e f * (q * q * q * q) = (b * (p * p) + d * (p * q) + e * (q * q)) * (b * (p * p) + d * (p * q) + e * (q * q)) - 4 * (a * (p * p) + b * (p * q) + c * (q * q)) * (c * (p * p) + e * (p * q) + f * (q * q)) := by
        unfold q4 q3 q2 q1 q0
        grind
      rw [e, hA, hB, hC]
      rfl
    · have e : 4 * q4 a b c d e f * (p * p * p) + 3 * q3 a b c d e f * (p * p * q) + 2 * q2 a b c d e f * (p * q * q) + q1 a b c d e f * (q * q * q) = 2 * (2 * b * p + d * q) * (b * (p * p) + d * (p * q) + e * (q * q)) - 4 * (2 * a * p + b * q) * (c * (p * p) + e * (p * q) + f * (q * q)) - 4 * (a * (p * p) + b * (p * q) + c * (q * q)) * (2 * c * p + e * q) := by
        unfold q4 q3 q2 q1
        grind
      rw [e, hA, hB, hC]
      simp
/-- straight, and a point: its three numbers are not all 0 -/
theorem form_ne {c : Co} {y : Pt} (hb : c.bend ≠ 0) (hy : IsPt y) : ¬ (c.A y = 0 ∧ c.B y = 0 ∧ c.C y = 0) := fun z => hb (bend_of hy.ne z.1 z.2.1 z.2.2)
/-- the member behind x and y -/
def Co.nx (c : Co) (x y : Pt) : Pt := nxt c.a c.b c.c c.d c.e c.f x y
/-- the same, as the program reckons it -/
def othP (A B C : Int) (x : Pt) : Pt := if x.2 = 0 then lowP (-C) B else lowP (-B * x.2 - A * x.1) (A * x.2)
theorem mul2_ne {x y : Int} (hx : x ≠ 0) (hy : y ≠ 0) : x * y ≠ 0 := fun h => by
  rcases Int.mul_eq_zero.mp h with e | e
  · exact hx e
  · exact hy e
theorem othP_eq {A B C a c : Int} {x : Pt} (hx : IsPt x) (h : Oth A B C x.1 x.2 a c) (h0 : ¬ (A = 0 ∧ B = 0 ∧ C = 0)) : othP A B C x = lowP c a := by
  have n := h.ne h0
  obtain ⟨h1, h2, h3⟩ := h
  unfold othP
  by_cases hs : x.2 = 0
  · rw [if_pos hs]
    have hr := hx.s hs
    rw [hs, hr] at h3
    rw [hr] at h2
    have e1 : -C = (-1) * c := by omega
    have e2 : B = (-1) * a := by omega
    rw [e1, e2, lowP_mul (by decide) n]
  · rw [if_neg hs]
    have e1 : -B * x.2 - A * x.1 = (x.2 * x.2) * c := by rw [h1, h3]; grind
    have e2 : A * x.2 = (x.2 * x.2) * a := by rw [h1]; grind
    rw [e1, e2, lowP_mul (mul2_ne hs hs) n]
theorem nx_eq {c : Co} {x y : Pt} {a g : Int} (hx : IsPt x) (h : Oth (c.A y) (c.B y) (c.C y) x.1 x.2 a g) (h0 : ¬ (c.A y = 0 ∧ c.B y = 0 ∧ c.C y = 0)) : c.nx x y = lowP g a := by
  have n := h.ne h0
  obtain ⟨h1, h2, h3⟩ := h
  show lowP _ _ = _
  unfold nextD
  show lowP (if x.1 ≠ 0 ∧ x.2 ≠ 0 then (c.C y * x.2, c.A y * x.1) else if x.1 = 0 then (0 - c.B y, c.A y) else (0 - c.C y, c.B y)).1 (if x.1 ≠ 0 ∧ x.2 ≠ 0 then (c.C y * x.2, c.A y * x.1) else if x.1 = 0 then (0 - c.B y, c.A y) else (0 - c.C y, c.B y)).2 = _
  by_cases hr : x.1 = 0
  · rw [if_neg (fun z => z.1 hr), if_pos hr]
    have hs : x.2 = 1 := by
      have g := hx.g
      have p := hx.p
      rw [hr, Int.gcd_zero_left] at g
      omega
    show lowP (0 - c.B y) (c.A y) = _
    rw [hr, hs] at h3
    rw [hs] at h1
    have e1 : 0 - c.B y = g := by omega
    have e2 : c.A y = a := by omega
    rw [e1, e2]
  · by_cases hs : x.2 = 0
    · rw [if_neg (fun z => z.2 hs), if_neg hr]
      have hr := hx.s hs
      show lowP (0 - c.C y) (c.B y) = _
      rw [hs, hr] at h3
      rw [hr] at h2
      have e1 : 0 - c.C y = (-1) * g := by omega
      have e2 : c.B y = (-1) * a := by omega
      rw [e1, e2, lowP_mul (by decide) n]
    · rw [if_pos ⟨hr, hs⟩]
      show lowP (c.C y * x.2) (c.A y * x.1) = _
      have e1 : c.C y * x.2 = (x.1 * x.2) * g := by rw [h2]; grind
      have e2 : c.A y * x.1 = (x.1 * x.2) * a := by rw [h1]; grind
      rw [e1, e2, lowP_mul (mul2_ne hr hs) n]
/-- two points that have a straight relation -/
structure Hold (c : Co) (x y : Pt) : Prop where
  b : c.bend ≠ 0
  px : IsPt x
  py : IsPt y
  h : c.at_ x y = 0
theorem Hold.symm {c : Co} {x y : Pt} (h : Hold c x y) : Hold c y x := ⟨h.b, h.py, h.px, by rw [at_comm]; exact h.h⟩
theorem Hold.oth {c : Co} {x y : Pt} (h : Hold c x y) : ∃ a g, Oth (c.A y) (c.B y) (c.C y) x.1 x.2 a g ∧ c.nx x y = lowP g a ∧ othP (c.A y) (c.B y) (c.C y) x = lowP g a ∧ ¬ (g = 0 ∧ a = 0) := by
  have e := h.h
  rw [at_form] at e
  obtain ⟨a, g, o⟩ := oth_of h.px e
  have n0 := form_ne h.b h.py
  exact ⟨a, g, o, nx_eq h.px o n0, othP_eq h.px o n0, o.ne n0⟩
/-- the program and the law go on alike -/
theorem Hold.same {c : Co} {x y : Pt} (h : Hold c x y) : othP (c.A y) (c.B y) (c.C y) x = c.nx x y := by
  obtain ⟨a, g, o, e1, e2, _⟩ := h.oth
  rw [e1, e2]
theorem Hold.next {c : Co} {x y : Pt} (h : Hold c x y) : Hold c y (c.nx x y) := by
  obtain ⟨a, g, o, e1, e2, n⟩ := h.oth
  rw [e1]
  refine ⟨h.b, h.py, lowP_pt g a, ?_⟩
  rw [at_comm, at_form]
  exact root_low (oth_root o) n
/-- going back -/
theorem Hold.back {c : Co} {x y : Pt} (h : Hold c x y) : c.nx (c.nx x y) y = x := by
  obtain ⟨a, g, o, e1, e2, n⟩ := h.oth
  have hz := h.next.symm
  obtain ⟨a', g', o', e1', _, n'⟩ := hz.oth
  rw [e1', ← lowP_self h.px]
  rw [e1] at o'
  have cr := lowP_cross g a
  obtain ⟨h1, h2, h3⟩ := o
  obtain ⟨k1, k2, k3⟩ := o'
  generalize hp : (lowP g a).1 = p at *
  generalize hq : (lowP g a).2 = q at *
  refine lowP_eq (lowP_pt _ _) n' ?_
  rw [lowP_self h.px]
  show x.1 * a' = x.2 * g'
  have f1 : x.2 * a = q * a' := by rw [← h1, k1]
  have f2 : x.1 * g = p * g' := by rw [← h2, k2]
  have f3 : x.2 * g + x.1 * a = q * g' + p * a' := by omega
  have pq : ¬ (p = 0 ∧ q = 0) := by
    have := (lowP_pt g a).ne
    rw [hp, hq] at this
    exact this
  by_cases hq0 : q = 0
  · have hp0 : p ≠ 0 := fun z => pq ⟨z, hq0⟩
    subst hq0
    have ha0 : a = 0 := by
      rcases Int.mul_eq_zero.mp (show p * a = 0 by omega) with e | e
      · exact absurd e hp0
      · exact e
    subst ha0
    have i1 : p * (x.2 * g') = p * (x.1 * a') := by
      have : p * (x.2 * g') = x.2 * (x.1 * g) := by rw [f2]; grind
      rw [this]
      have e : p * a' = x.2 * g := by omega
      have : p * (x.1 * a') = x.1 * (x.2 * g) := by rw [← e]; grind
      rw [this]
      grind
    exact (Int.eq_of_mul_eq_mul_left hp0 i1).symm
  · have hqq : q * q ≠ 0 := mul2_ne hq0 hq0
    apply Int.eq_of_mul_eq_mul_left hqq
    have j1 : q * (q * a') = q * (x.2 * a) := by rw [f1]
    have j2 : q * (q * g') = q * (x.2 * g) + q * (x.1 * a) - p * (q * a') := by
      have : q * (x.2 * g + x.1 * a) = q * (q * g' + p * a') := by rw [f3]
      grind
    rw [← f1] at j2
    have : q * q * (x.1 * a') = x.1 * (q * (q * a')) := by grind
    rw [this, j1]
    have : q * q * (x.2 * g') = x.2 * (q * (q * g')) := by grind
    rw [this, j2]
    grind
end DL

namespace DL
open PySem PySem.Spec PyProof.Rows L2 Evl
/-! ## how great members become -/
def ht (x : Pt) : Nat := max x.1.natAbs x.2.natAbs
theorem ht_pos {x : Pt} (h : IsPt x) : 1 ≤ ht x := by
  have := h.ne
  unfold ht
  omega
theorem fV_ht {x y z : Int} {K : Nat} (hx : x.natAbs ≤ K) (hy : y.natAbs ≤ K) (hz : z.natAbs ≤ K) (p : Pt) : (fV x y z p.1 p.2).natAbs ≤ 3 * (K * (ht p * ht p)) := by
  have hp : p.1.natAbs ≤ ht p := Nat.le_max_left _ _
  have hq : p.2.natAbs ≤ ht p := Nat.le_max_right _ _
  have h1 : (x * (p.1 * p.1)).natAbs ≤ K * (ht p * ht p) := by
    rw [Int.natAbs_mul, Int.natAbs_mul]
    exact Nat.mul_le_mul hx (Nat.mul_le_mul hp hp)
  have h2 : (y * (p.1 * p.2)).natAbs ≤ K * (ht p * ht p) := by
    rw [Int.natAbs_mul, Int.natAbs_mul]
    exact Nat.mul_le_mul hy (Nat.mul_le_mul hp hq)
  have h3 : (z * (p.2 * p.2)).natAbs ≤ K * (ht p * ht p) := by
    rw [Int.natAbs_mul, Int.natAbs_mul]
    exact Nat.mul_le_mul hz (Nat.mul_le_mul hq hq)
  unfold fV
  omega
theorem max_mul_le {a b c d m : Nat} (h1 : a * c ≤ m) (h2 : a * d ≤ m) (h3 : b * c ≤ m) (h4 : b * d ≤ m) : max a b * max c d ≤ m := by
  rcases Nat.le_total a b with h | h <;> rcases Nat.le_total c d with k | k
  · rw [Nat.max_eq_right h, Nat.max_eq_right k]; exact h4
  · rw [Nat.max_eq_right h, Nat.max_eq_left k]; exact h3
  · rw [Nat.max_eq_left h, Nat.max_eq_right k]; exact h2
  · rw [Nat.max_eq_left h, Nat.max_eq_left k]; exact h1
theorem ht_low {g a : Int} (n : ¬ (g = 0 ∧ a = 0)) : ht (lowP g a) ≤ max g.natAbs a.natAbs := by
  have := low_bound (x := g) (y := a) (m := max g.natAbs a.natAbs) (Nat.le_max_left _ _) (Nat.le_max_right _ _) (by omega)
  exact Nat.max_le.mpr this
theorem Hold.grow {c : Co} {x y : Pt} {K : Nat} (h : Hold c x y) (hK : c.Bd K) : ht (c.nx x y) * ht x ≤ 6 * K * (ht y * ht y) := by
  obtain ⟨a, g, o, e1, e2, n⟩ := h.oth
  obtain ⟨b1, b2, b3, b4, b5, b6⟩ := hK
  obtain ⟨w1, w2, w3, w4⟩ := oth_bd o (fV_ht b1 b2 b3 y) (fV_ht b2 b4 b5 y) (fV_ht b3 b5 b6 y)
  rw [Int.natAbs_mul] at w1 w2 w3 w4
  rw [e1]
  have e : 6 * K * (ht y * ht y) = 2 * (3 * (K * (ht y * ht y))) := by grind
  rw [e]
  refine Nat.le_trans (Nat.mul_le_mul_right _ (ht_low n)) ?_
  rw [Nat.mul_comm]
  exact max_mul_le w4 w2 w1 w3
/-- two members side by side, n on -/
def Co.pr (c : Co) (x y : Pt) : Nat → Pt × Pt
  | 0 => (x, y)
  | n + 1 => ((c.pr x y n).2, c.nx (c.pr x y n).1 (c.pr x y n).2)
def Co.mem (c : Co) (x y : Pt) (n : Nat) : Pt := (c.pr x y n).1
theorem mem0 (c : Co) (x y : Pt) : c.mem x y 0 = x := rfl
theorem mem1 (c : Co) (x y : Pt) : c.mem x y 1 = y := rfl
theorem mem2 (c : Co) (x y : Pt) (n : Nat) : c.mem x y (n + 2) = c.nx (c.mem x y n) (c.mem x y (n + 1)) := rfl
theorem Hold.mem {c : Co} {x y : Pt} (h : Hold c x y) : ∀ n, Hold c (c.mem x y n) (c.mem x y (n + 1))
  | 0 => h
  | n + 1 => by
    rw [mem2]
    exact (h.mem n).next
theorem Hold.ratio {c : Co} {x y : Pt} {K M : Nat} (h : Hold c x y) (hK : c.Bd K) (hM : ht y ≤ M) : ∀ n, ht (c.mem x y (n + 1)) ≤ ht (c.mem x y n) * (M * (6 * K) ^ n)
  | 0 => by
    rw [mem0, mem1, Nat.pow_zero, Nat.mul_one]
    have := ht_pos h.px
    exact Nat.le_trans hM (Nat.le_mul_of_pos_left _ this)
  | n + 1 => by
    have ih := h.ratio hK hM n
    have g := (h.mem n).grow hK
    have p := ht_pos (h.mem n).px
    rw [mem2]
    generalize ht (c.mem x y n) = u at *
    generalize ht (c.mem x y (n + 1)) = v at *
    generalize ht (c.nx (c.mem x y n) (c.mem x y (n + 1))) = w at *
    apply Nat.le_of_mul_le_mul_right _ p
    refine Nat.le_trans g ?_
    have e : v * (M * (6 * K) ^ (n + 1)) * u = 6 * K * (v * (u * (M * (6 * K) ^ n))) := by
      rw [Nat.pow_succ]
      grind
    rw [e]
    exact Nat.mul_le_mul_left _ (Nat.mul_le_mul_left _ ih)
/-- so many digits -/
def dig (h k : Nat) : Nat → Nat
  | 0 => h
  | 1 => h
  | n + 2 => dig h k (n + 1) + (h + k * (n + 1))
theorem Hold.dig {c : Co} {x y : Pt} {K h k : Nat} (hd : Hold c x y) (hK : c.Bd K) (hx : ht x ≤ 10 ^ h) (hy : ht y ≤ 10 ^ h) (hk : 6 * K ≤ 10 ^ k) : ∀ n, ht (c.mem x y n) ≤ 10 ^ DL.dig h k n
  | 0 => hx
  | 1 => hy
  | n + 2 => by
    have ih := hd.dig hK hx hy hk (n + 1)
    have r := hd.ratio hK hy (n + 1)
    refine Nat.le_trans r ?_
    show _ ≤ 10 ^ (DL.dig h k (n + 1) + (h + k * (n + 1)))
    rw [Nat.pow_add 10 (DL.dig h k (n + 1)), Nat.pow_add 10 h, Nat.pow_mul]
    exact Nat.mul_le_mul ih (Nat.mul_le_mul_left _ (Nat.pow_le_pow_left hk _))
end DL

namespace DL
open PySem PySem.Spec PyProof.Rows L2 Evl
/-! ## quotients that the model reckons -/
def sz30 (x : Int) : Nat := if x == 0 then 0 else x.natAbs.log2 / 30 + 1
theorem pylong_q {x y q : Int} (h : x = q * y) (hq : q.natAbs < 10 ^ 1345) : Builtin.divisionGoesByPylong x y = false := by
  have key : sz30 x ≤ sz30 y + 150 := by
    unfold sz30
    by_cases hx : x = 0
    · rw [hx]
      exact Nat.zero_le _
    · have hy : y ≠ 0 := fun z => hx (by rw [h, z, Int.mul_zero])
      rw [if_neg (by simpa using hx), if_neg (by simpa using hy)]
      have hq2 : q.natAbs < 2 ^ 4470 := Nat.lt_of_lt_of_le hq (by decide +kernel)
      have h1 : x.natAbs < 2 ^ (4470 + (y.natAbs.log2 + 1)) := by
        rw [h, Int.natAbs_mul, Nat.pow_add]
        exact Nat.mul_lt_mul'' hq2 Nat.lt_log2_self
      have h2 : x.natAbs.log2 < 4470 + (y.natAbs.log2 + 1) := (Nat.log2_lt (by omega)).mpr h1
      omega
  show (decide (sz30 y > 300) && decide (sz30 x > sz30 y + 150)) = false
  rw [decide_eq_false (show ¬ sz30 x > sz30 y + 150 by omega), Bool.and_false]
/-- a quotient in lowest terms that can be reckoned -/
def DivOK (x y : Int) : Prop := Int.gcd x y < 10 ^ 2000 ∨ ((lowA x y).natAbs < 10 ^ 1345 ∧ (lowB x y).natAbs < 10 ^ 1345)
theorem DivOK.div {x y : Int} (h : DivOK x y) (hy : y ≠ 0) : CDivU x (lowG x y) ∧ CDivU y (lowG x y) := by
  have hg := lowG_ne (x := x) hy
  rcases h with h | ⟨h1, h2⟩
  · have := lowG_abs x y
    exact ⟨divU hg (sml_of (by omega)), divU hg (sml_of (by omega))⟩
  · exact ⟨⟨hg, pylong_q (lowA_mul hy).symm h1⟩, ⟨hg, pylong_q (lowB_mul hy).symm h2⟩⟩
theorem DivOK.sml {x y : Int} (hy : y ≠ 0) (h : y.natAbs < 10 ^ 2000) : DivOK x y := .inl (by
  have := Nat.le_of_dvd (by omega) (Int.gcd_dvd_natAbs_right x y)
  omega)
theorem DivOK.of_ht {x y : Int} {n : Nat} (h : ht (lowP x y) ≤ 10 ^ n) (hn : n < 1345 := by omega) : DivOK x y := .inr (by
  have h1 : (lowA x y).natAbs ≤ ht (lowP x y) := Nat.le_max_left _ _
  have h2 : (lowB x y).natAbs ≤ ht (lowP x y) := Nat.le_max_right _ _
  have h3 : 10 ^ n < 10 ^ 1345 := Nat.pow_lt_pow_right (by decide) hn
  exact ⟨by omega, by omega⟩)
theorem DivOK.any {x y : Int} (h : y.natAbs < 10 ^ 2000) : DivOK x y := by
  by_cases hy : y = 0
  · refine .inr ?_
    unfold lowA lowB
    rw [if_pos hy, if_pos hy]
    exact ⟨by decide +kernel, by decide +kernel⟩
  · exact .sml hy h
end DL

namespace DL
open PySem PySem.Spec PyProof.Rows L2 Evl
theorem gcdL_dvd {ns : List Int} {x : Int} (h : x ∈ ns) : (gcdL ns : Int) ∣ x := Int.ofNat_dvd_left.mpr ((gcdF_dvd ns 0).2 x h)
/-- the numbers are those told, times one number -/
theorem plain_mul {ns : List Int} (h : nz ns ≠ []) : ∃ g : Int, g ≠ 0 ∧ ∀ x ∈ ns, x.fdiv (plainD ns) * g = x := by
  have gp := gcdL_pos h
  refine ⟨plainD ns, ?_, fun x hx => ?_⟩
  · unfold plainD
    split <;> omega
  · have hd : plainD ns ∣ x := by
      unfold plainD
      split
      · rw [Int.zero_sub]
        exact Int.neg_dvd.mpr (gcdL_dvd hx)
      · exact gcdL_dvd hx
    rw [Int.fdiv_eq_ediv_of_dvd hd]
    exact Int.ediv_mul_cancel hd
def Co.sB (c : Co) (n : Nat) : Prop := sixB n c.a c.b c.c c.d c.e c.f
theorem Co.Bd.sB {c : Co} {K n : Nat} (h : c.Bd K) (hn : K < 10 ^ n) : c.sB n := by
  obtain ⟨h1, h2, h3, h4, h5, h6⟩ := h
  exact ⟨by omega, by omega, by omega, by omega, by omega, by omega⟩
theorem ht_lt {x : Pt} {n m : Nat} (h : ht x ≤ 10 ^ n) (hm : n < m) : x.1.natAbs < 10 ^ m ∧ x.2.natAbs < 10 ^ m := by
  have h1 : x.1.natAbs ≤ ht x := Nat.le_max_left _ _
  have h2 : x.2.natAbs ≤ ht x := Nat.le_max_right _ _
  have h3 : 10 ^ n < 10 ^ m := Nat.pow_lt_pow_right (by decide) hm
  exact ⟨by omega, by omega⟩
theorem dig_mono (h k : Nat) : ∀ {n m : Nat}, n ≤ m → DL.dig h k n ≤ DL.dig h k m := by
  have st : ∀ n, DL.dig h k n ≤ DL.dig h k (n + 1) := fun n => by
    cases n with
    | zero => exact Nat.le_refl _
    | succ n => exact Nat.le_add_right _ _
  intro n m hnm
  induction hnm with
  | refl => exact Nat.le_refl _
  | step _ ih => exact Nat.le_trans ih (st _)
def memL (c : Co) (x y : Pt) (n : Nat) : List PyData := (List.range n).map fun i => ptD (c.mem x y i)
theorem memL_len (c : Co) (x y : Pt) (n : Nat) : (memL c x y n).length = n := by
  unfold memL
  rw [List.length_map, List.length_range]
theorem memL_succ (c : Co) (x y : Pt) (n : Nat) : memL c x y (n + 1) = memL c x y n ++ [ptD (c.mem x y n)] := by
  unfold memL
  rw [List.range_succ, List.map_append]
  rfl
theorem memL_get {c : Co} {x y : Pt} {n i : Nat} (h : i < n) : (memL c x y n)[i]? = some (ptD (c.mem x y i)) := by
  unfold memL
  rw [List.getElem?_map, List.getElem?_range h]
  rfl
theorem memL_take (c : Co) (x y : Pt) (n m : Nat) (h : m ≤ n) : (memL c x y n).take m = memL c x y m := by
  unfold memL
  rw [← List.map_take, List.take_range, Nat.min_eq_left h]
/-- two members with which a chain may begin, and how great its numbers become: so many digits, so many members -/
structure Starts (c : Co) (x y : Pt) (h k : Nat) (cnt : Nat) : Prop where
  hold : Hold c x y
  hx : ht x ≤ 10 ^ h
  hy : ht y ≤ 10 ^ h
  bd : ∃ K, c.Bd K ∧ 6 * K ≤ 10 ^ k
  k99 : k ≤ 99
  dig : DL.dig h k (cnt - 1) < 1345
theorem Starts.mem {c : Co} {x y : Pt} {h k cnt : Nat} (s : Starts c x y h k cnt) {n : Nat} (hn : n < cnt) : ht (c.mem x y n) ≤ 10 ^ DL.dig h k n ∧ DL.dig h k n < 1345 := by
  obtain ⟨K, b1, b2⟩ := s.bd
  exact ⟨s.hold.dig b1 s.hx s.hy b2 n, Nat.lt_of_le_of_lt (dig_mono h k (by omega)) s.dig⟩
theorem Starts.six {c : Co} {x y : Pt} {h k cnt : Nat} (s : Starts c x y h k cnt) : c.sB 100 := by
  obtain ⟨K, b1, b2⟩ := s.bd
  have h1 : 10 ^ k ≤ 10 ^ 99 := Nat.pow_le_pow_right (by decide) s.k99
  exact b1.sB (by omega)

/-! ## numbers without a common divisor -/
theorem gcdF_max {d : Nat} : ∀ (ns : List Int) (g : Nat), d ∣ g → (∀ x ∈ ns, d ∣ x.natAbs) → d ∣ gcdF g ns
  | [], _, h, _ => h
  | y :: ns, g, h, k => by
    have e : gcdF g (y :: ns) = gcdF (Int.gcd y (g : Int)) ns := rfl
    rw [e]
    exact gcdF_max ns _ (Nat.dvd_gcd (k y List.mem_cons_self) h) fun x hx => k x (List.mem_cons_of_mem _ hx)
theorem plainD_abs {ns : List Int} : (plainD ns).natAbs = gcdL ns := by
  unfold plainD
  split <;> omega
theorem plainD_dvd {ns : List Int} {x : Int} (h : x ∈ ns) : plainD ns ∣ x := by
  have := gcdL_dvd h
  unfold plainD
  split
  · rw [Int.zero_sub]
    exact Int.neg_dvd.mpr this
  · exact this
theorem plain_at {ns : List Int} (hz : nz ns ≠ []) {x : Int} (hx : x ∈ ns) : x.fdiv (plainD ns) * plainD ns = x := by
  have hd := plainD_dvd hx
  rw [Int.fdiv_eq_ediv_of_dvd hd]
  exact Int.ediv_mul_cancel hd
theorem plainD_ne {ns : List Int} (hz : nz ns ≠ []) : plainD ns ≠ 0 := by
  have gp := gcdL_pos hz
  have := plainD_abs (ns := ns)
  omega
theorem nz_map {ns : List Int} {f : Int → Int} (h : ∀ x ∈ ns, f x = 0 ↔ x = 0) : nz (ns.map f) = (nz ns).map f := by
  induction ns with
  | nil => rfl
  | cons x xs ih =>
    have ih' := ih fun y hy => h y (List.mem_cons_of_mem _ hy)
    have hx := h x List.mem_cons_self
    unfold nz at ih' ⊢
    rw [List.map_cons, List.filter_cons, List.filter_cons]
    by_cases e : x = 0
    · rw [if_neg (by simpa using hx.mpr e), if_neg (by simpa using e)]
      exact ih'
    · rw [if_pos (by simpa using fun z => e (hx.mp z)), if_pos (by simpa using e), List.map_cons, ih']
theorem plain_zero {ns : List Int} (hz : nz ns ≠ []) {x : Int} (hx : x ∈ ns) : x.fdiv (plainD ns) = 0 ↔ x = 0 := by
  have e := plain_at hz hx
  constructor
  · intro z
    rw [z, Int.zero_mul] at e
    exact e.symm
  · intro z
    rw [z]
    exact Int.zero_fdiv _
theorem nz_plain {ns : List Int} (hz : nz ns ≠ []) : nz (plainL ns) ≠ [] := by
  unfold plainL
  rw [nz_map fun x hx => plain_zero hz hx]
  simpa using hz
theorem gcd_plain {ns : List Int} (hz : nz ns ≠ []) : gcdL (plainL ns) = 1 := by
  have gp := gcdL_pos hz
  have hd : gcdL (plainL ns) * gcdL ns ∣ gcdL ns := by
    refine gcdF_max ns 0 (Nat.dvd_zero _) fun x hx => ?_
    have e := plain_at hz hx
    have d : gcdL (plainL ns) ∣ (x.fdiv (plainD ns)).natAbs := (gcdF_dvd (plainL ns) 0).2 _ (List.mem_map.mpr ⟨x, hx, rfl⟩)
    rw [← e, Int.natAbs_mul, plainD_abs]
    exact Nat.mul_dvd_mul d (Nat.dvd_refl _)
  have := Nat.le_of_dvd gp hd
  have h1 := gcdL_pos (nz_plain hz)
  rcases Nat.lt_or_ge (gcdL (plainL ns)) 2 with h | h
  · omega
  · have := Nat.mul_le_mul_right (gcdL ns) h
    omega
theorem headD_map {l : List Int} {f : Int → Int} (h : l ≠ []) : (l.map f).headD 0 = f (l.headD 0) := by
  cases l with
  | nil => exact absurd rfl h
  | cons x xs => rfl
theorem lead_plain {ns : List Int} (hz : nz ns ≠ []) : 0 < (nz (plainL ns)).headD 0 := by
  have hn := plainD_ne hz
  obtain ⟨x, hx, h0, hh⟩ := nz_mem hz
  have e := plain_at hz hx
  have e2 : (nz (plainL ns)).headD 0 = x.fdiv (plainD ns) := by
    unfold plainL
    rw [nz_map fun x hx => plain_zero hz hx, headD_map hz, hh]
  rw [e2]
  have gp := gcdL_pos hz
  by_cases hs : x < 0
  · have hd : plainD ns < 0 := by
      unfold plainD
      rw [hh, if_pos hs]
      omega
    apply Decidable.byContradiction
    intro hc
    have h1 : x.fdiv (plainD ns) ≤ 0 := by omega
    have h2 : 0 ≤ x.fdiv (plainD ns) * plainD ns := Int.mul_nonneg_of_nonpos_of_nonpos h1 (by omega)
    omega
  · have hd : 0 < plainD ns := by
      unfold plainD
      rw [hh, if_neg hs]
      omega
    apply Decidable.byContradiction
    intro hc
    have h1 : x.fdiv (plainD ns) ≤ 0 := by omega
    have h2 : x.fdiv (plainD ns) * plainD ns ≤ 0 := Int.mul_nonpos_of_nonpos_of_nonneg h1 (by omega)
    omega
theorem plainD_plain {ns : List Int} (hz : nz ns ≠ []) : plainD (plainL ns) = 1 := by
  have h1 := lead_plain hz
  have h2 := gcd_plain hz
  unfold plainD
  rw [if_neg (by omega), h2]
  rfl
theorem plain_one {ns : List Int} (h : plainD ns = 1) : plainL ns = ns := by
  unfold plainL
  rw [h]
  have : (fun x : Int => x.fdiv 1) = id := by
    funext x
    exact Int.fdiv_one x
  rw [this, List.map_id]
/-! ## six numbers -/
def Co.list (c : Co) : List Int := [c.a, c.b, c.c, c.d, c.e, c.f]
abbrev Co.py (c : Co) : PyData := six c.a c.b c.c c.d c.e c.f
def Co.plain (c : Co) : Co := ⟨c.a.fdiv (plainD c.list), c.b.fdiv (plainD c.list), c.c.fdiv (plainD c.list), c.d.fdiv (plainD c.list), c.e.fdiv (plainD c.list), c.f.fdiv (plainD c.list)⟩
theorem Co.plain_list (c : Co) : c.plain.list = plainL c.list := rfl
theorem Co.list_inj {c d : Co} (h : c.list = d.list) : c = d := by
  obtain ⟨a, b, e, f, g, k⟩ := c
  obtain ⟨a', b', e', f', g', k'⟩ := d
  simp only [Co.list, List.cons.injEq, and_true] at h
  obtain ⟨rfl, rfl, rfl, rfl, rfl, rfl⟩ := h
  rfl
/-- in lowest terms -/
def Co.IsPlain (c : Co) : Prop := plainD c.list = 1
theorem Co.IsPlain.eq {c : Co} (h : c.IsPlain) : plainL c.list = c.list := plain_one h
def Co.mul (g : Int) (c : Co) : Co := ⟨c.a * g, c.b * g, c.c * g, c.d * g, c.e * g, c.f * g⟩
theorem at_mul (g : Int) (c : Co) (x y : Pt) : (c.mul g).at_ x y = g * c.at_ x y := by
  unfold Co.at_ Co.mul atV
  grind
theorem bend_mul (g : Int) (c : Co) : (c.mul g).bend = g * g * g * g * g * g * (g * g * g * g * g * g) * c.bend := by
  obtain ⟨a, b, e, f, k, l⟩ := c
  unfold Co.bend Co.mul
  simp only
  have e4 : q4 (a * g) (b * g) (e * g) (f * g) (k * g) (l * g) = g * g * q4 a b e f k l := by unfold q4; grind
  have e3 : q3 (a * g) (b * g) (e * g) (f * g) (k * g) (l * g) = g * g * q3 a b e f k l := by unfold q3; grind
  have e2 : q2 (a * g) (b * g) (e * g) (f * g) (k * g) (l * g) = g * g * q2 a b e f k l := by unfold q2; grind
  have e1 : q1 (a * g) (b * g) (e * g) (f * g) (k * g) (l * g) = g * g * q1 a b e f k l := by unfold q1; grind
  have e0 : q0 (a * g) (b * g) (e * g) (f * g) (k * g) (l * g) = g * g * q0 a b e f k l := by unfold q0; grind
  rw [e4, e3, e2, e1, e0]
  generalize q4 a b e f k l = x4
  generalize q3 a b e f k l = x3
  generalize q2 a b e f k l = x2
  generalize q1 a b e f k l = x1
  generalize q0 a b e f k l = x0
  unfold bendV bendI bendJ
  grind
theorem Co.plain_mul {c : Co} (hz : nz c.list ≠ []) : c.plain.mul (plainD c.list) = c := by
  have h : ∀ x ∈ c.list, x.fdiv (plainD c.list) * plainD c.list = x := fun x hx => plain_at hz hx
  have m : ∀ x, x ∈ [c.a, c.b, c.c, c.d, c.e, c.f] → x.fdiv (plainD c.list) * plainD c.list = x := h
  refine Co.list_inj ?_
  show [_, _, _, _, _, _] = [_, _, _, _, _, _]
  simp only [Co.plain, Co.mul]
  rw [m c.a (by simp), m c.b (by simp), m c.c (by simp), m c.d (by simp), m c.e (by simp), m c.f (by simp)]
theorem Co.plain_is {c : Co} (hz : nz c.list ≠ []) : c.plain.IsPlain := plainD_plain hz
theorem Co.plain_bend {c : Co} (hz : nz c.list ≠ []) (h : c.bend ≠ 0) : c.plain.bend ≠ 0 := fun z => by
  have e := bend_mul (plainD c.list) c.plain
  rw [Co.plain_mul hz, z, Int.mul_zero] at e
  exact h e
theorem Co.plain_at {c : Co} (hz : nz c.list ≠ []) {x y : Pt} (h : c.at_ x y = 0) : c.plain.at_ x y = 0 := by
  have e := at_mul (plainD c.list) c.plain x y
  rw [Co.plain_mul hz, h] at e
  exact (Int.mul_eq_zero.mp e.symm).resolve_left (plainD_ne hz)
theorem Co.plain_bd {c : Co} {K : Nat} (hz : nz c.list ≠ []) (h : c.Bd K) : c.plain.Bd K := by
  have n0 := plainD_ne hz
  have le : ∀ x : Int, x ∈ c.list → (x.fdiv (plainD c.list)).natAbs ≤ x.natAbs := fun x hx => by
    have e := congrArg Int.natAbs (DL.plain_at hz hx)
    rw [Int.natAbs_mul] at e
    rw [← e]
    exact Nat.le_mul_of_pos_right _ (by omega)
  obtain ⟨h1, h2, h3, h4, h5, h6⟩ := h
  exact ⟨Nat.le_trans (le c.a (by simp [Co.list])) h1, Nat.le_trans (le c.b (by simp [Co.list])) h2, Nat.le_trans (le c.c (by simp [Co.list])) h3, Nat.le_trans (le c.d (by simp [Co.list])) h4, Nat.le_trans (le c.e (by simp [Co.list])) h5, Nat.le_trans (le c.f (by simp [Co.list])) h6⟩
theorem strB_iff (c : Co) : strB c.a c.b c.c c.d c.e c.f = true ↔ c.bend ≠ 0 := by
  unfold strB
  show (!decide (c.bend = 0)) = true ↔ _
  simp
theorem Co.nz_of_bend {c : Co} (h : c.bend ≠ 0) : nz c.list ≠ [] := fun z => h (by
  have all : ∀ x ∈ c.list, x = 0 := fun x hx => by
    apply Decidable.byContradiction
    intro h0
    have : x ∈ nz c.list := List.mem_filter.mpr ⟨hx, by simpa using h0⟩
    rw [z] at this
    exact absurd this List.not_mem_nil
  have m : ∀ x, x ∈ [c.a, c.b, c.c, c.d, c.e, c.f] → x = 0 := all
  unfold Co.bend
  rw [m c.a (by simp), m c.b (by simp), m c.c (by simp), m c.d (by simp), m c.e (by simp), m c.f (by simp)]
  rfl)
/-! ## well known relations -/
/-- p, q, r, t of Tate's families -/
def tateQ (k u v : Int) : Int × Int × Int × Int :=
  if k = 6 then (u * (v + u), v * v, u, v)
  else if k = 7 then (u * u * (u - v), v * v * v, u * (u - v), v * v)
  else if k = 8 then ((2 * u - v) * (u - v), v * v, (2 * u - v) * (u - v), u * v)
  else if k = 9 then (u * u * (u - v) * (u * (u - v) + v * v), v * v * v * v * v, u * u * (u - v), v * v * v)
  else if k = 10 then (u * (2 * u - v) * (u - v) * u * u, v * (u * v - (u - v) * (u - v)) * (u * v - (u - v) * (u - v)), u * (2 * u - v) * (u - v), v * (u * v - (u - v) * (u - v)))
  else if k = 12 then (0 - (0 - (3 * u * (u - v) + v * v) * u * (2 * u - v)) * (2 * u * (u - v) + v * v), v * (u - v) * (u - v) * (u - v) * v * (u - v), 0 - (3 * u * (u - v) + v * v) * u * (2 * u - v), v * (u - v) * (u - v) * (u - v))
  else (u, v, u, v)
def tateC (k u v : Int) : Co := ⟨(tateQ k u v).2.1 * (tateQ k u v).2.1 * (tateQ k u v).2.1 * (tateQ k u v).2.2.2, 0, 0, (tateQ k u v).1 * (tateQ k u v).2.1 * (tateQ k u v).2.1 * ((tateQ k u v).2.2.2 - (tateQ k u v).2.2.1),
  0 - (tateQ k u v).1 * (tateQ k u v).1 * (tateQ k u v).2.1 * (tateQ k u v).2.2.2, (tateQ k u v).1 * (tateQ k u v).1 * (tateQ k u v).1 * (tateQ k u v).2.2.2⟩
def tateAll : List (Int × Int × Int) := [(7 : Int), 8, 9, 10, 12, 5, 6].flatMap fun k => [(-4 : Int), -3, -2, -1, 0, 1, 2, 3, 4].flatMap fun u => [(1 : Int), 2, 3].map fun v => (k, u, v)
theorem tate_mem {k u v : Int} (hk : k ∈ [(7 : Int), 8, 9, 10, 12, 5, 6]) (hu : -4 ≤ u ∧ u ≤ 4) (hv : 1 ≤ v ∧ v ≤ 3) : (k, u, v) ∈ tateAll := by
  refine List.mem_flatMap.mpr ⟨k, hk, List.mem_flatMap.mpr ⟨u, ?_, List.mem_map.mpr ⟨v, ?_, rfl⟩⟩⟩
  · have : u = -4 ∨ u = -3 ∨ u = -2 ∨ u = -1 ∨ u = 0 ∨ u = 1 ∨ u = 2 ∨ u = 3 ∨ u = 4 := by omega
    simpa using this
  · have : v = 1 ∨ v = 2 ∨ v = 3 := by omega
    simpa using this
/-- numbers, two members, after how many steps the chain closes -/
abbrev Kn := Co × Pt × Pt × Int
def knownFix : List Kn := [(⟨1, 0, 0, 0, -1, 0⟩, (1, 0), (0, 1), 3), (⟨1, 0, 0, 1, -1, 1⟩, (1, 0), (0, 1), 4), (⟨1, 0, 0, 0, -1, 1⟩, (1, 0), (0, 1), 5), (⟨1, 0, 0, 0, -4, 8⟩, (1, 0), (0, 1), 6),
  (⟨1, 0, 0, -4, -16, 64⟩, (1, 0), (0, 1), 7), (⟨2, 0, 0, -3, -18, 54⟩, (1, 0), (0, 1), 8), (⟨1, 0, 0, -36, -144, 1728⟩, (1, 0), (0, 1), 9), (⟨1, 0, 0, -120, -576, 13824⟩, (1, 0), (0, 1), 10),
  (⟨1, 0, 0, 9030, -44100, 9261000⟩, (1, 0), (0, 1), 12), (⟨1, 0, 0, 2, -1, 1⟩, (1, 0), (0, 1), 0), (⟨0, 1, 1, -9, 2, 1⟩, (1, 1), (1, 1), 5), (⟨0, 2, 0, -7, 0, 2⟩, (1, 1), (2, 1), 3),
  (⟨0, 1, 1, -7, 1, 0⟩, (1, 1), (2, 1), 6), (⟨1, 0, 1, -5, 0, 1⟩, (1, 1), (2, 1), 4)]
instance (c : Co) (K : Nat) : Decidable (c.Bd K) := inferInstanceAs (Decidable (_ ∧ _))
def tateKn : List Kn := (tateAll.filter fun e => decide ((tateC e.1 e.2.1 e.2.2).bend ≠ 0) && decide ((tateC e.1 e.2.1 e.2.2).plain.Bd (10 ^ 8))).map fun e => ((tateC e.1 e.2.1 e.2.2).plain, (1, 0), (0, 1), e.1)
def knownAll : List Kn := knownFix ++ tateKn
def ptOk (x : Pt) : Bool := decide (Int.gcd x.1 x.2 = 1) && (decide (x.2 ≠ 0) || decide (x.1 = 1)) && decide (0 ≤ x.2) && decide (ht x ≤ 2)
def knOk (e : Kn) : Bool := decide (e.1.bend ≠ 0) && decide (plainD e.1.list = 1) && decide (e.1.Bd (10 ^ 8)) && decide (e.1.at_ e.2.1 e.2.2.1 = 0) && ptOk e.2.1 && ptOk e.2.2.1
theorem kn_all : knownAll.all knOk = true := by decide +kernel
theorem tate_bd_all : (tateAll.all fun e => decide ((tateC e.1 e.2.1 e.2.2).Bd (10 ^ 39))) = true := by decide +kernel
theorem ptOk_pt {x : Pt} (h : ptOk x = true) : IsPt x ∧ ht x ≤ 2 := by
  unfold ptOk at h
  simp only [Bool.and_eq_true, Bool.or_eq_true, decide_eq_true_eq] at h
  obtain ⟨⟨⟨h1, h2⟩, h3⟩, h4⟩ := h
  exact ⟨⟨h1, fun z => h2.resolve_left fun n => n z, h3⟩, h4⟩
structure KnGood (c : Co) (x y : Pt) : Prop where
  hold : Hold c x y
  plain : c.IsPlain
  bd : c.Bd (10 ^ 8)
  hx : ht x ≤ 2
  hy : ht y ≤ 2
theorem kn_good {e : Kn} (h : e ∈ knownAll) : KnGood e.1 e.2.1 e.2.2.1 := by
  have := List.all_eq_true.mp kn_all e h
  unfold knOk at this
  simp only [Bool.and_eq_true, decide_eq_true_eq] at this
  obtain ⟨⟨⟨⟨⟨h1, h2⟩, h3⟩, h4⟩, h5⟩, h6⟩ := this
  obtain ⟨p1, p2⟩ := ptOk_pt h5
  obtain ⟨p3, p4⟩ := ptOk_pt h6
  exact ⟨⟨h1, p1, p3, h4⟩, h2, h3, p2, p4⟩
/-- what a law's start is -/
structure StGood (c : Co) (x y : Pt) : Prop where
  hold : Hold c x y
  plain : c.IsPlain
  bd : c.Bd (10 ^ 8)
  hx : ht x ≤ 10 ^ 6
  hy : ht y ≤ 10 ^ 6
theorem KnGood.st {c : Co} {x y : Pt} (h : KnGood c x y) : StGood c x y := ⟨h.hold, h.plain, h.bd, Nat.le_trans h.hx (by decide), Nat.le_trans h.hy (by decide)⟩
theorem KnGood.starts {c : Co} {x y : Pt} (h : KnGood c x y) : Starts c x y 1 9 18 := ⟨h.hold, Nat.le_trans h.hx (by decide), Nat.le_trans h.hy (by decide), ⟨_, h.bd, by decide⟩, by decide, by decide⟩
theorem StGood.starts {c : Co} {x y : Pt} (h : StGood c x y) : Starts c x y 6 9 18 := ⟨h.hold, h.hx, h.hy, ⟨_, h.bd, by decide⟩, by decide, by decide⟩
theorem StGood.symm {c : Co} {x y : Pt} (h : StGood c x y) : StGood c y x := ⟨h.hold.symm, h.plain, h.bd, h.hy, h.hx⟩
instance bdi_sq {x : Int} {n : Nat} [h : BdI x n] : BdI (x ^ 2) (n + n) := ⟨by
  rw [Int.pow_succ, Int.pow_succ, Int.pow_zero, Int.one_mul]
  exact bd_mul h.h h.h⟩
theorem Starts.le {c : Co} {x y : Pt} {h k n m : Nat} (s : Starts c x y h k n) (e : m ≤ n) : Starts c x y h k m := ⟨s.hold, s.hx, s.hy, s.bd, s.k99, Nat.lt_of_le_of_lt (dig_mono h k (by omega)) s.dig⟩
theorem cut_8 (c : Co) (x y : Pt) : ∀ s : Nat, s < 6 → cutD (memL c x y 8) (some (s : Int)) (some ((s : Int) + 2)) = [ptD (c.mem x y s), ptD (c.mem x y (s + 1))]
  | 0, _ => rfl
  | 1, _ => rfl
  | 2, _ => rfl
  | 3, _ => rfl
  | 4, _ => rfl
  | 5, _ => rfl
  | n + 6, h => by omega
theorem mem_ix {c : Co} {x y : Pt} {n : Nat} {s : Nat} (h : s < n) : atI (memL c x y n) (s : Int) = some (ptD (c.mem x y s)) := by
  rw [atI_nn (by omega) (by rw [memL_len]; omega)]
  exact memL_get (by omega)
theorem low_py (x y : Int) : lowD x y = .tuple [.int (lowP x y).1, .int (lowP x y).2] := rfl
theorem low_ht {x y : Int} {m : Nat} (hx : x.natAbs ≤ m) (hy : y.natAbs ≤ m) (h : 1 ≤ m) : ht (lowP x y) ≤ m := by
  have := low_bound hx hy h
  exact Nat.max_le.mpr this
theorem ht1 {x : Pt} {m : Nat} (h : ht x ≤ m) : x.1.natAbs ≤ m := Nat.le_trans (Nat.le_max_left _ _) h
theorem ht2 {x : Pt} {m : Nat} (h : ht x ≤ m) : x.2.natAbs ≤ m := Nat.le_trans (Nat.le_max_right _ _) h
/-- six numbers of which the last makes two points fit -/
theorem fit_hold {a b c d e : Int} {x y : Pt} (s : Int) (hs : s = x.2 * x.2 * (y.2 * y.2)) : (⟨s * a, s * b, s * c, s * d, s * e, 0 - (⟨a, b, c, d, e, 0⟩ : Co).at_ x y⟩ : Co).at_ x y = 0 := by
  unfold Co.at_ atV
  simp only
  subst hs
  grind
theorem abs_add_le {x y : Int} {a b : Nat} (h : x.natAbs ≤ a) (k : y.natAbs ≤ b) : (x + y).natAbs ≤ a + b := Nat.le_trans (Int.natAbs_add_le x y) (Nat.add_le_add h k)
theorem abs_mul_le {x y : Int} {a b : Nat} (h : x.natAbs ≤ a) (k : y.natAbs ≤ b) : (x * y).natAbs ≤ a * b := by
  rw [Int.natAbs_mul]
  exact Nat.mul_le_mul h k
/-- how great the form is -/
theorem at_le {a b c d e f : Int} {x y : Pt} {K A B : Nat} (ha : a.natAbs ≤ K) (hb : b.natAbs ≤ K) (hc : c.natAbs ≤ K) (hd : d.natAbs ≤ K) (he : e.natAbs ≤ K) (hf : f.natAbs ≤ K) (hx : ht x ≤ A) (hy : ht y ≤ B) :
    ((⟨a, b, c, d, e, f⟩ : Co).at_ x y).natAbs ≤ 9 * (K * (A * A * (B * B))) := by
  have p := ht1 hx
  have q := ht2 hx
  have r := ht1 hy
  have s := ht2 hy
  have t1 : (x.1 * x.1 * y.1 * y.1).natAbs ≤ A * A * (B * B) := by rw [Int.mul_assoc]; exact abs_mul_le (abs_mul_le p p) (abs_mul_le r r)
  have t2 : ∀ {i j k l : Int}, i.natAbs ≤ A → j.natAbs ≤ B → k.natAbs ≤ A → l.natAbs ≤ B → (i * j * (k * l)).natAbs ≤ A * A * (B * B) := fun hi hj hk hl => by
    have := abs_mul_le (abs_mul_le hi hj) (abs_mul_le hk hl)
    have e : A * B * (A * B) = A * A * (B * B) := by grind
    omega
  have u : ∀ {k t : Int}, k.natAbs ≤ K → t.natAbs ≤ A * A * (B * B) → (k * t).natAbs ≤ K * (A * A * (B * B)) := fun h1 h2 => abs_mul_le h1 h2
  have e : (⟨a, b, c, d, e, f⟩ : Co).at_ x y = a * (x.1 * x.1 * y.1 * y.1) + b * (x.1 * y.1 * (x.1 * y.2)) + b * (x.1 * y.1 * (x.2 * y.1)) + c * (x.1 * y.2 * (x.1 * y.2)) + c * (x.2 * y.1 * (x.2 * y.1)) + d * (x.1 * y.1 * (x.2 * y.2)) + e * (x.1 * y.2 * (x.2 * y.2)) + e * (x.2 * y.1 * (x.2 * y.2)) + f * (x.2 * y.2 * (x.2 * y.2)) := by
    unfold Co.at_ atV
    simp only
    grind
  rw [e]
  have w1 := u ha t1
  have w2 := u hb (t2 p r p s)
  have w3 := u hb (t2 p r q r)
  have w4 := u hc (t2 p s p s)
  have w5 := u hc (t2 q r q r)
  have w6 := u hd (t2 p r q s)
  have w7 := u he (t2 p s q s)
  have w8 := u he (t2 q r q s)
  have w9 := u hf (t2 q s q s)
  refine Nat.le_trans (abs_add_le (abs_add_le (abs_add_le (abs_add_le (abs_add_le (abs_add_le (abs_add_le (abs_add_le w1 w2) w3) w4) w5) w6) w7) w8) w9) ?_
  generalize K * (A * A * (B * B)) = M
  omega
/-- one turn of Euclid's -/
theorem gcd_turn {l r : Int} (hl : 0 ≤ l) (hr : 0 ≤ r) (h : r ≠ 0) : Int.gcd r (l.fmod r) = Int.gcd l r ∧ 0 ≤ l.fmod r ∧ l.fmod r < r := by
  have b := fmod_bd (x := l) (s := r) (by omega)
  refine ⟨?_, b.1, b.2⟩
  rw [Int.fmod_eq_emod_of_nonneg _ (by omega), Int.gcd_comm l r]
  have e := Int.gcd_add_mul_left_right r (l % r) (l / r)
  rw [Int.emod_add_mul_ediv] at e
  exact e.symm
/-- two members with which a chain may begin, so many members, none too great -/
structure Lim (c : Co) (x y : Pt) (cnt : Nat) : Prop where
  hold : Hold c x y
  six : c.sB 100
  top : ∀ n, n < cnt → ht (c.mem x y n) ≤ 10 ^ 1344
theorem Starts.lim {c : Co} {x y : Pt} {h k cnt : Nat} (s : Starts c x y h k cnt) : Lim c x y cnt := ⟨s.hold, s.six, fun n hn => Nat.le_trans (s.mem hn).1 (ten_mono (by have := (s.mem hn).2; omega))⟩
theorem Lim.le {c : Co} {x y : Pt} {n m : Nat} (s : Lim c x y n) (e : m ≤ n) : Lim c x y m := ⟨s.hold, s.six, fun i hi => s.top i (by omega)⟩
/-- the chain read backwards -/
theorem mem_rev {c : Co} {x y : Pt} (h : Hold c x y) (n : Nat) : ∀ i, i ≤ n + 1 → c.mem (c.mem x y (n + 1)) (c.mem x y n) i = c.mem x y (n + 1 - i)
  | 0, _ => rfl
  | 1, _ => by
    rw [mem1]
    rfl
  | i + 2, hi => by
    rw [mem2, mem_rev h n i (by omega), mem_rev h n (i + 1) (by omega)]
    have e1 : n + 1 - i = (n + 1 - (i + 2)) + 2 := by omega
    have e2 : n + 1 - (i + 1) = (n + 1 - (i + 2)) + 1 := by omega
    rw [e1, e2, mem2]
    exact (h.mem (n + 1 - (i + 2))).back
theorem Lim.rev {c : Co} {x y : Pt} {n : Nat} (s : Lim c x y (n + 2)) : Lim c (c.mem x y (n + 1)) (c.mem x y n) (n + 2) := by
  refine ⟨(s.hold.mem n).symm, s.six, fun i hi => ?_⟩
  rw [mem_rev s.hold n i (by omega)]
  exact s.top _ (by omega)
end DL

namespace DL
open PySem PySem.Spec PyProof.Rows L2 Evl
/-! ## list(x), tuple(x) -/
def rListO (K : PySem.W.Frag) : List V → Hp → VK → Prop := fun us H Q => ∃ a vs, us = [.ref a] ∧ (SqL K H a vs ∨ SqT K H a vs) ∧ ∀ b, H b = none → Q (.ref b) (upd H b (.lst vs))
theorem cr_listO {X : Cx} : CallR X (.type "list") (rListO X.K) := call_list_of
def rTupO (K : PySem.W.Frag) : List V → Hp → VK → Prop := fun us H Q => ∃ v, us = [v] ∧ kTup K v H Q
theorem cr_tupO {X : Cx} : CallR X (.type "tuple") (rTupO X.K) := by
  intro pins s σ H xs us Q I r h
  obtain ⟨v, rfl, q⟩ := h
  obtain ⟨u, rfl, rv⟩ := vals1 r
  exact rl_tuple pins s σ H v u Q I rv q
section
variable {G : Gs} {B0 : Hp} {ρ : Ro} {O : Ow} {κ : D → Ow → Prop}
theorem lc_listO {x : D} {ds : List PyData} (hx : asPy O x = some (.list ds)) (k : κ (.py (.list ds)) O) : LC G B0 (rListO G.K) [x] O κ := fun B H vs s r Q q => by
  obtain ⟨v, rfl, rv⟩ := one_inv r
  obtain ⟨a, ws, rfl, h1, h2, _⟩ := lst_of s rv hx
  refine ⟨a, ws, rfl, .inl h1, fun b hb => ?_⟩
  obtain ⟨e2, s2⟩ := s.newB (o := .lst ws) hb
  exact q _ _ _ _ O k e2 s2 (show Dd _ _ _ _ from .lst upd_same (h2.mono e2))
theorem lc_listT {ds : List PyData} (k : κ (.py (.list ds)) O) : LC G B0 (rListO G.K) [.py (.tuple ds)] O κ := fun B H vs s r Q q => by
  obtain ⟨v, rfl, rv⟩ := one_inv r
  obtain ⟨a, ws, rfl, h1, h2⟩ := Dd.tup_inv rv
  refine ⟨a, ws, rfl, .inr (ex_t s.ex h1), fun b hb => ?_⟩
  obtain ⟨e2, s2⟩ := s.newB (o := .lst ws) hb
  exact q _ _ _ _ O k e2 s2 (show Dd _ _ _ _ from .lst upd_same (h2.mono e2))
/-- a new list that will be changed -/
theorem lc_listW {x : D} {ds : List PyData} (hx : asPy O x = some (.list ds)) (k : ∀ p, O p = none → κ (.own p) (oset O p ds)) : LC G B0 (rListO G.K) [x] O κ := fun B H vs s r Q q => by
  obtain ⟨v, rfl, rv⟩ := one_inv r
  obtain ⟨a, ws, rfl, h1, h2, _⟩ := lst_of s rv hx
  refine ⟨a, ws, rfl, .inl h1, fun b hb => ?_⟩
  have s2 := s.newO hb h2
  have ob : O b = none := by
    cases hO : O b with
    | none => rfl
    | some es =>
      obtain ⟨_, us, h3, _⟩ := s.ow b es hO
      rw [hb] at h3
      cases h3
  exact q _ _ B _ _ (k b ob) (Ex.refl B) s2 rfl
theorem lc_tupO {x : D} {ds : List PyData} (hx : asPy O x = some (.list ds)) (k : κ (.py (.tuple ds)) O) : LC G B0 (rTupO G.K) [x] O κ := fun B H vs s r Q q => by
  obtain ⟨v, rfl, rv⟩ := one_inv r
  obtain ⟨a, ws, rfl, h1, h2, _⟩ := lst_of s rv hx
  refine ⟨_, rfl, .inl ⟨a, ws, rfl, h1, fun b hb => ?_⟩⟩
  obtain ⟨e2, s2⟩ := s.newB (o := .tup ws) hb
  exact q _ _ _ _ O k e2 s2 (show Dd _ _ _ _ from .tup (st_of upd_same) (h2.mono e2))
/-! ## relations: what is read off them -/
theorem le_fld {ta : TE} (c : Cls G.K G.C) (n : NoAttr G.K G.C "_numbers") (h : LE G B0 ta ρ O fun x O1 => ∃ ns, x = .rel ns ∧ κ (.py (.tuple (ns.map PyData.int))) O1) : LE G B0 (tFld G.K ta "_numbers") ρ O κ := fun B H σ s t Q q =>
  h B H σ s t _ fun v x B1 H1 O1 ⟨ns, ex, k⟩ e1 s1 r1 => by
    subst ex
    obtain ⟨a, dx, tt, rfl, h1, h2, h3⟩ := r1
    exact ⟨a, G.C, dx, _, _, rfl, s1.ex _ _ h1, c, n, rfl, q _ _ B1 H1 O1 k e1 s1 (show Dd _ _ _ _ from .tup h3 (DdAll.of_ints ns))⟩
theorem le_prop {F : DSp} {E : XK} {ta : TE} (h : LE G B0 ta ρ O fun x O1 => ∃ ns, x = .rel ns ∧ F [.rel ns] O1 κ fun _ _ _ => False) : LE G B0 (tProp G.C (spD G F) [] E ta) ρ O κ := fun B H σ s t Q q =>
  h B H σ s t _ fun v x B1 H1 O1 ⟨ns, ex, k⟩ e1 s1 r1 => by
    subst ex
    have r1' := r1
    obtain ⟨a, dx, tt, rfl, h1, h2, h3⟩ := r1
    refine ⟨a, dx, _, rfl, s1.ex _ _ h1, B1, [.rel ns], O1, κ, _, .cons r1' .nil, s1.base, k, ?_, fun _ _ _ _ _ _ z => False.elim z⟩
    exact fun v d B' H' O' k e s' r' => q v d B' H' O' k (e1.trans e) (s'.rebase s1.e0) r'
end
/-! ## a new relation -/
def spMk (G : Gs) (F : DSp) : Sp := fun vs H Q E => ∃ (x dx : Addr) (ws : List V) (B : Hp) (ds : List D) (O : Ow) (κ : D → Ow → Prop) (ε : Addr → PyData → Ow → Prop), vs = .ref x :: ws ∧ H x = some (.ins G.C dx []) ∧ H dx = some (.own x) ∧ dx ≠ x ∧ B x = none ∧ B dx = none ∧
  Rps G B ws ds ∧ SatH G B B H O ∧ F ds O κ ε ∧ (∀ ns B' H' O', κ (.rel ns) O' → Ex B B' → SatH G B B' H' O' → Rp G B' (.ref x) (.rel ns) → Q .non H') ∧
  ∀ C dd y B' H' O', ε C y O' → Ex B B' → SatH G B B' H' O' → (∃ w, B' dd = some (.xd [("value", w)]) ∧ Dd G.K B' w y) → E (.ref C) (some dd) H'
theorem spMk_len {G : Gs} {F : DSp} {n : Nat} (h : ∀ ds O κ ε, F ds O κ ε → ds.length = n) : ∀ vs H Q E, spMk G F vs H Q E → vs.length = n + 1 := by
  rintro vs H Q E ⟨x, dx, ws, B, ds, O, κ, ε, rfl, _, _, _, _, _, r, _, hF, _⟩
  rw [List.length_cons, r.len, h ds O κ ε hF]
section
variable {X : Cx} {CX : CXT} {k : Nat} {f C : Addr} {fd : FuncData} {ps : List Str} {sp : Sp} {E : L2.St → XK} {x : Str} {p pos : Pos} {e : Expr} {es : List Expr} {t tk : TA} {kws : List Keyword} {n : Nat} {ks : List Str} {idx : List Nat}
/-- C(e, ..), what is raised wished for by the slots -/
def tMakeS (C : Addr) (sp : Sp) (E : L2.St → XK) (t : TA) : TE := fun σ H Q => t σ H fun vs H1 => ∀ a da, H1 a = none → H1 da = none → da ≠ a → sp (.ref a :: vs) (upd (upd H1 da (.own a)) a (.ins C da [])) (fun v H2 => v = .non ∧ Q (.ref a) H2) (E σ)
theorem run_makeS {pins : List (Addr × Obj)} {σ : L2.St} {H : Hp} {s : Shared} {Q : VK} {us : List Value} {ks : List (Str × Value)} {us' : List Value} {vs' : List V} (M : Mk X.K C f) (F : FnOk X.prog X.w X.K X.mg X.base CX k f fd ps sp) (hr : Room (k + 1) X.A)
    (hx : PassesAt CX X σ (E σ)) (I : Inv X pins σ H s)
    (hb : ∀ (a : Addr) (s2 : Shared), X.K.In s2.heap → Vals (V.ref a :: vs') (Value.ref a :: us') ∧ BindsTo s2 fd ⟨Value.ref a :: us, ks⟩ (ps.zip (Value.ref a :: us')))
    (h : ∀ a da, H a = none → H da = none → da ≠ a → sp (.ref a :: vs') (upd (upd H da (.own a)) a (.ins C da [])) (fun v H2 => v = .non ∧ Q (.ref a) H2) (E σ)) :
    wpAny (model X.prog X.w) X.A (call (.ref C) us ks) (EP X pins σ Q) X.xe s := by
  have hq := h (s.heap.objs.size + 1) s.heap.objs.size (I.hok.fresh (Nat.le_succ _)) (I.hok.fresh (Nat.le_refl _)) (Nat.ne_of_lt (Nat.lt_succ_self _))
  have I2 := Inv.made (C := C) I
  obtain ⟨r2, b2⟩ := hb (s.heap.objs.size + 1) _ I2.kIn
  refine wpAny_call (make_map (f := f) I.kIn M.makes M.init (beq_iff_eq.mp M.fn) (codeAny_mono (F.run _ X.stack _ _ ⟨Value.ref (s.heap.objs.size + 1) :: us, ks⟩ _ _ _ (E σ) (hr.make C us ks)
    (I2.env0.make C us ks) b2 r2 hq) fun r s' hq' => ?_))
  rcases r with er | fl
  · exact hx pins _ _ er s' I2 hq'
  · rcases fl with _ | _ | _ | u
    all_goals first
      | exact False.elim hq'
      | (obtain ⟨v, H', I3, rv, ev, q3⟩ := I2.after hq'
         subst ev
         exact ⟨rv, ⟨V.ref (s.heap.objs.size + 1), H', I3, rfl, q3⟩⟩)
theorem pe_makeS (M : Mk X.K C f) (F : FnOk X.prog X.w X.K X.mg X.base CX k f fd ps sp) (hr : Room (k + 1) X.A) (hg : Gl X x) (hm : X.mg x = some (.ref C)) (hb : Binds X.K fd ps []) (hx : ∀ σ, PassesAt CX X σ (E σ))
    (ha : PA X (e :: es) t) (hdb : (x == ("__debug__" : Str)) = false := by decide) (he : starEach (e :: es) X.env = (false, eval e X.env) :: starEach es X.env := by rfl) (hpl : (backTo pos (starEach es X.env)).any (·.1) = false := by rfl) :
    PE X (.Call (.Name x p) (e :: es) [] pos) (tMakeS C sp E t) := by
  refine ⟨fun pins s σ H Q I h => ?_⟩
  refine wpAny_Call_Name_kw (ld_glob I hg hm ?_ hdb)
  refine PySem.W.callWith_K (h₀ := X.base) I.ok.mod.kin M.kp (thn (ha.run pos pins s σ H _ I h) fun us s1 ⟨vs, H1, I1, r, q⟩ => ⟨I1.kIn, ?_⟩) he hpl
  refine run_makeS (us' := us) (vs' := vs) M F hr (hx σ) I1 (fun a s2 k2 => ?_) q
  have r2 : Vals (V.ref a :: vs) (Value.ref a :: us) := .cons rfl r
  have hq := q (s1.heap.objs.size + 1) s1.heap.objs.size (I1.hok.fresh (Nat.le_succ _)) (I1.hok.fresh (Nat.le_refl _)) (Nat.ne_of_lt (Nat.lt_succ_self _))
  have hl : (Value.ref a :: us).length = ps.length := by
    rw [← F.len _ _ _ _ hq]
    exact congrArg Nat.succ r.length.symm
  have b := hb s2 (Value.ref a :: us) k2 (by rw [List.append_nil]; exact hl)
  rw [List.append_nil] at b
  exact ⟨r2, b⟩
end
section
variable {G : Gs} {B0 : Hp} {ρ : Ro} {O : Ow} {κ : D → Ow → Prop} {F : DSp}
/-- the objects made ahead of __init__ -/
theorem made_sat {B H : Hp} {a da : Addr} (s : SatH G B0 B H O) (h1 : H a = none) (h2 : H da = none) (h3 : da ≠ a) : SatH G B0 B (upd (upd H da (.own a)) a (.ins G.C da [])) O :=
  (s.newF (o := .own a) h2).newF (by rw [upd_ne h3.symm]; exact h1)
theorem mk_sp {B H : Hp} {Q : VK} {E : XK} {a da : Addr} {ws : List V} {ds : List D} {ε : Addr → PyData → Ow → Prop} (s : SatH G B0 B H O) (r : Rps G B ws ds) (h1 : H a = none) (h2 : H da = none) (h3 : da ≠ a) (hF : F ds O κ ε)
    (q : ∀ v d B' H' O', κ d O' → Ex B B' → SatH G B0 B' H' O' → Rp G B' v d → Q v H')
    (qe : ∀ C dd y B' H' O', ε C y O' → Ex B B' → SatH G B B' H' O' → (∃ w, B' dd = some (.xd [("value", w)]) ∧ Dd G.K B' w y) → E (.ref C) (some dd) H') :
    spMk G F (.ref a :: ws) (upd (upd H da (.own a)) a (.ins G.C da [])) (fun v H2 => v = .non ∧ Q (.ref a) H2) E := by
  refine ⟨a, da, ws, B, ds, O, κ, ε, rfl, upd_same, by rw [upd_ne h3]; exact upd_same, h3, fresh_back s.ex h1, fresh_back s.ex h2, r, (made_sat s h1 h2 h3).base, hF, ?_, qe⟩
  exact fun ns B' H' O' k e s' rp => ⟨rfl, q _ _ B' H' O' k e (s'.rebase s.e0) rp⟩
theorem le_makeS {W : WX} {ε : Addr → PyData → Ro → Ow → Prop} {ta : TA} (hW : WOk G B0 W ε) (h : LA G B0 ta ρ O fun ds O1 => F ds O1 κ fun C x O2 => ε C x ρ O2) : LE G B0 (tMakeS G.C (spMk G F) (WE W) ta) ρ O κ := fun B H σ s t Q q =>
  h B H σ s t _ fun vs ds B1 H1 O1 hF e1 s1 r1 => fun a da h1 h2 h3 => by
    refine mk_sp s1 r1 h1 h2 h3 hF (fun v d B' H' O' k e s' r' => q v d B' H' O' k (e1.trans e) s' r') ?_
    exact fun C dd x B' H' O' k e s' f => hW B' H' σ ρ O' C dd x (s'.rebase s1.e0) (t.mono (e1.trans e)) k f
theorem le_makeG {E : L2.St → XK} {ta : TA} (h : LA G B0 ta ρ O fun ds O1 => F ds O1 κ fun _ _ _ => False) : LE G B0 (tMakeS G.C (spMk G F) E ta) ρ O κ := fun B H σ s t Q q =>
  h B H σ s t _ fun vs ds B1 H1 O1 hF e1 s1 r1 => fun a da h1 h2 h3 => mk_sp s1 r1 h1 h2 h3 hF (fun v d B' H' O' k e s' r' => q v d B' H' O' k (e1.trans e) s' r') (fun _ _ _ _ _ _ z => False.elim z)
end
/-! ## the body of __init__ -/
section
variable {K : PySem.W.Frag} {B : Hp} {x : Addr} {o : HO} {C dx : Addr}
theorem rd_swap {B : Hp} {x a : Addr} {o u : HO} {C dx : Addr} (hx : B x = some (.ins C dx [])) (hu : u ≠ .ins C dx [] ) (hf : ∀ ob w, (HO.ins C dx [] : HO) ≠ .frz ob w) (h : Rd B a u) : Rd (upd B x o) a u := by
  rcases h with h | ⟨ob, h⟩
  · have ne : a ≠ x := fun z => by
      rw [z, hx] at h
      exact hu (Option.some.inj h).symm
    exact .inl (by rw [upd_ne ne]; exact h)
  · have ne : a ≠ x := fun z => by
      rw [z, hx] at h
      exact hf _ _ (Option.some.inj h)
    exact .inr ⟨ob, by rw [upd_ne ne]; exact h⟩
theorem st_swap {a : Addr} {xs : List V} (hx : B x = some (.ins C dx [])) (h : SqT K B a xs) : SqT K (upd B x o) a xs := by
  rcases h with h | h
  · exact .inl (rd_swap hx (fun z => nomatch z) (fun _ _ z => nomatch z) h)
  · exact .inr h
theorem at_swap {a : Addr} {u : HO} (hx : B x = some (.ins C dx [])) (hu : u ≠ .ins C dx []) (h : B a = some u) : upd B x o a = some u := by
  have ne : a ≠ x := fun z => by
    rw [z, hx] at h
    exact hu (Option.some.inj h).symm
  rw [upd_ne ne]
  exact h
structure Keeps (K : PySem.W.Frag) (B B' : Hp) : Prop where
  l : ∀ a xs, B a = some (.lst xs) → B' a = some (.lst xs)
  t : ∀ a xs, SqT K B a xs → SqT K B' a xs
  d : ∀ a xs, B a = some (.dK xs) → B' a = some (.dK xs)
theorem keeps_swap (hx : B x = some (.ins C dx [])) : Keeps K B (upd B x o) := ⟨fun _ _ h => at_swap hx (fun z => nomatch z) h, fun _ _ h => st_swap hx h, fun _ _ h => at_swap hx (fun z => nomatch z) h⟩
end
section
variable {K : PySem.W.Frag} {B B' : Hp}
mutual
theorem Dd.keep (e : Keeps K B B') : ∀ {v : V} {d : PyData}, Dd K B v d → Dd K B' v d
  | _, _, .non => .non
  | _, _, .bl b => .bl b
  | _, _, .int i => .int i
  | _, _, .str y => .str y
  | _, _, .lst h a => .lst (e.l _ _ h) (DdAll.keep e a)
  | _, _, .tup h a => .tup (e.t _ _ h) (DdAll.keep e a)
  | _, _, .dct h a => .dct (e.d _ _ h) a
theorem DdAll.keep (e : Keeps K B B') : ∀ {vs : List V} {ds : List PyData}, DdAll K B vs ds → DdAll K B' vs ds
  | _, _, .nil => .nil
  | _, _, .cons h t => .cons (Dd.keep e h) (DdAll.keep e t)
end
end
/-- what goes before the last row of __init__, and what this row stores -/
theorem init_run {G : Gs} {F : DSp} {N : List Str} {tp : XK → TS} {te : TE} {ts : XK → TS} (c : Cls G.K G.C) (n : NoAttr G.K G.C "_numbers") (ht : ∀ E Dn σ H, ts E Dn σ H = tp E { Dn with nx := sFld G.K (tVar 0) te "_numbers" Dn } σ H)
    (hp : ∀ (B0 : Hp) (E : XK) (v : V) ds O κ ε, F ds O κ ε → WOk G B0 (fun cls d _ H => E cls d H) (fun C x _ O => ε C x O) →
      LS G B0 (tp E) (startR N (.raw v :: ds)) O (fun ρ' O' => ρ'[0]? = some (some (.raw v)) ∧ LE G B0 te ρ' O' fun d O2 => ∃ ns : List Int, d = .py (.tuple (ns.map PyData.int)) ∧ κ (.rel ns) O2) (fun _ _ => False) (fun _ _ => False) (fun _ _ => False))
    {vs : List V} {H : Hp} {Q : VK} {E : XK} (h : spMk G F vs H Q E) : ts E { nx := fun _ H' => Q .non H', rt := Q } (L2.start N vs) H := by
  obtain ⟨x, dx, ws, B, ds, O, κ, ε, rfl, hx, hdx, hne, bx, bdx, r, s, hF, hq, he⟩ := h
  rw [ht]
  have eB : Ex B (upd (upd B dx (.own x)) x (.ins G.C dx [])) := fun a u ha => by
    rw [upd_ne (ne_of_none ha bx), upd_ne (ne_of_none ha bdx)]
    exact ha
  have s2 : SatH G (upd (upd B dx (.own x)) x (.ins G.C dx [])) (upd (upd B dx (.own x)) x (.ins G.C dx [])) H O := by
    refine ⟨Ex.refl _, fun a u ha => ?_, fun l es hl => ?_, s.tb, nt_new (nt_new s.nt fun _ z => nomatch z) fun _ z => nomatch z⟩
    · by_cases e1 : a = x
      · subst e1
        rw [upd_same] at ha
        rw [hx]
        exact ha
      · rw [upd_ne e1] at ha
        by_cases e2 : a = dx
        · subst e2
          rw [upd_same] at ha
          rw [hdx]
          exact ha
        · rw [upd_ne e2] at ha
          exact s.ex a u ha
    · obtain ⟨h1, us, h2, h3⟩ := s.ow l es hl
      have l1 : l ≠ x := fun z => by
        rw [z, hx] at h2
        cases h2
      have l2 : l ≠ dx := fun z => by
        rw [z, hdx] at h2
        cases h2
      exact ⟨by rw [upd_ne l1, upd_ne l2]; exact h1, us, h2, h3.mono eB⟩
  have x2 : (upd (upd B dx (.own x)) x (.ins G.C dx [])) x = some (.ins G.C dx []) := upd_same
  have dx2 : (upd (upd B dx (.own x)) x (.ins G.C dx [])) dx = some (.own x) := by
    rw [upd_ne hne]
    exact upd_same
  generalize upd (upd B dx (.own x)) x (.ins G.C dx []) = B2 at *
  refine hp B2 E (.ref x) ds O κ ε hF ?_ B2 H _ s2 (slots_start (.cons rfl (r.mono eB))) _ ?_ ?_ ?_ ?_
  · intro B3 H3 σ ρ O3 C dd y s3 t3 k f
    have e3 : Ex B B3 := eB.trans s3.e0
    exact he C dd y B3 H3 O3 k e3 ⟨e3, s3.ex, s3.ow, s3.tb, s3.nt⟩ f
  · intro B3 H3 σ3 ρ3 O3 ⟨h0, hte⟩ e3 s3 t3
    refine hte B3 H3 σ3 s3 t3 _ fun v d B4 H4 O4 ⟨ns, ed, k⟩ e4 s4 r4 => ?_
    subst ed
    obtain ⟨v0, hv0, rv0⟩ := t3.get 0 _ h0
    have rv0' : v0 = .ref x := rv0
    subst rv0'
    refine ⟨_, hv0, x, G.C, dx, [], rfl, s4.ex _ _ (e4 _ _ (e3 _ _ x2)), c, n, Nat.zero_lt_succ _, ?_⟩
    have x4 : B4 x = some (.ins G.C dx []) := e4 _ _ (e3 _ _ x2)
    have dx4 : B4 dx = some (.own x) := e4 _ _ (e3 _ _ dx2)
    obtain ⟨t, us, rfl, h1, h2⟩ := Dd.tup_inv r4
    have hus := DdAll.ints h2
    subst hus
    have eF : Ex B (upd B4 x (.ins G.C dx [("_numbers", .ref t)])) := fun a u ha => by
      rw [upd_ne (ne_of_none ha bx)]
      exact e4 _ _ (e3 _ _ (eB _ _ ha))
    refine hq ns (upd B4 x (.ins G.C dx [("_numbers", .ref t)])) _ O4 k eF ⟨eF, fun a u ha => ?_, fun l es hl => ?_, tabs_chg s4.tb (s4.ex _ _ x4) (fun _ z => nomatch z) (fun _ z => nomatch z), nt_new s4.nt fun _ z => nomatch z⟩ ?_
    · show upd H4 x (.ins G.C dx [("_numbers", .ref t)]) a = some u
      by_cases e1 : a = x
      · subst e1
        rw [upd_same] at ha ⊢
        exact ha
      · rw [upd_ne e1] at ha ⊢
        exact s4.ex a u ha
    · obtain ⟨g1, us, g2, g3⟩ := s4.ow l es hl
      have l1 : l ≠ x := fun z => by
        rw [z, x4] at g1
        cases g1
      exact ⟨by rw [upd_ne l1]; exact g1, us, by show upd H4 x _ l = _; rw [upd_ne l1]; exact g2, DdAll.keep (keeps_swap x4) g3⟩
    · exact ⟨x, dx, t, rfl, upd_same, by rw [upd_ne hne]; exact dx4, st_swap x4 h1⟩
  · exact fun v d B' H' O' k => False.elim k
  · exact fun B' H' σ' ρ' O' k => False.elim k
  · exact fun B' H' σ' ρ' O' k => False.elim k
end DL

namespace DL
open PySem PySem.Spec PyProof.Rows L2 Evl
section
variable {G : Gs} {B0 : Hp} {ρ : Ro} {O : Ow} {κ : D → Ow → Prop}
/-- a part of a tuple, not the whole -/
theorem le_slT {te : TE} {tl th : TO} (h : LE G B0 te ρ O fun x O1 => LO G B0 tl ρ O1 fun lo O2 => LO G B0 th ρ O2 fun hi O3 => ∃ ds, x = .py (.tuple ds) ∧ ¬ (HT.sIx ds.length 0 lo = 0 ∧ HT.sIx ds.length ds.length hi = ds.length) ∧ κ (.py (.tuple (cutD ds lo hi))) O3) : LE G B0 (tSl (rSlT G.K) te tl th) ρ O κ := fun B H σ s t Q q =>
  h B H σ s t _ fun v x B1 H1 O1 h1 e1 s1 r1 => h1 B1 H1 σ s1 (t.mono e1) _ fun lo B2 H2 O2 h2 e2 s2 => h2 B2 H2 σ s2 (t.mono (e1.trans e2)) _ fun hi B3 H3 O3 ⟨ds, hx, hn, k⟩ e3 s3 => by
    subst hx
    obtain ⟨a, vs, rfl, h4, h5⟩ := Dd.tup_inv (r1.mono (e2.trans e3))
    refine ⟨a, vs, rfl, ex_t s3.ex h4, by rw [h5.len]; exact hn, fun p hp => ?_⟩
    obtain ⟨e4, s4⟩ := s3.newB (o := .tup (cutV vs lo hi)) hp
    refine q _ _ _ _ O3 k (((e1.trans e2).trans e3).trans e4) s4 (show Dd _ _ _ _ from .tup (st_of upd_same) (DdAll.mono e4 ?_))
    unfold cutV cutD
    rw [h5.len]
    exact (h5.drop _).take _
end
end DL

namespace DL
open PySem PySem.Spec PyProof.Rows L2 Evl
/-! ## a text once or not at all; an int among written ones; a caught error and a class of Python's -/
def rMulS : R2 := fun x y H Q => ∃ (z : Str) (b : Bool), x = .str z ∧ y = .int (if b then 1 else 0) ∧ Q (.str (if b then z else Str.empty)) H
section
variable {G : Gs} {B0 : Hp} {ρ : Ro} {O : Ow} {κ : D → Ow → Prop}
theorem lr_mulS {z : Str} {b : Bool} (k : κ (.py (.str (if b then z else Str.empty))) O) : LR G B0 rMulS (.py (.str z)) (.py (.int (if b then 1 else 0))) O κ := fun B H v w s r1 r2 Q q => by
  rw [Dd.str_inv r1, Dd.int_inv r2]
  exact ⟨z, b, rfl, rfl, q _ _ B H O k (Ex.refl B) s (show Dd _ _ _ _ from .str _)⟩
end
end DL
namespace DL
open PySem PySem.Spec PyProof.Rows L2 Evl
section
variable {G : Gs} {B0 : Hp} {ρ : Ro} {O : Ow} {κ : D → Ow → Prop}
end
end DL
namespace DL
end DL

namespace DL
open PySem PySem.Spec PyProof.Rows L2 Evl
/-! ## the whole root -/
open PySem.W in
section
variable {G : Gs} {B0 : Hp} {O : Ow} {κ : D → Ow → Prop}
end
end DL

namespace DL
open PySem PySem.Spec PyProof.Rows L2 Evl
/-! ## the greatest of a list of ints, or what is told instead -/
section
variable {G : Gs} {B0 : Hp} {ρ : Ro} {O : Ow} {κ : D → Ow → Prop}
end
end DL

namespace DL
open PySem PySem.Spec PyProof.Rows L2 Evl
/-! ## lists turned about; own lists: their kind, parts of lists as own lists -/
theorem DdAll.rev {K : PySem.W.Frag} {H : Hp} : ∀ {vs : List V} {ds : List PyData}, DdAll K H vs ds → DdAll K H vs.reverse ds.reverse
  | _, _, .nil => .nil
  | _, _, .cons h t => by
    rw [List.reverse_cons, List.reverse_cons]
    exact (DdAll.rev t).append (DdAll.one h)
section
variable {G : Gs} {B0 : Hp} {ρ : Ro} {O : Ow} {κ : D → Ow → Prop}
theorem le_revL {te : TE} (h : LE G B0 te ρ O fun x O1 => ∃ ds, asPy O1 x = some (.list ds) ∧ κ (.py (.list ds.reverse)) O1) : LE G B0 (tRevL G.K te) ρ O κ := fun B H σ s t Q q =>
  h B H σ s t _ fun v x B1 H1 O1 ⟨ds, hx, k⟩ e1 s1 r1 => by
    obtain ⟨a, vs, rfl, h1, h2, _⟩ := lst_of s1 r1 hx
    refine ⟨a, vs, rfl, h1, fun p hp => ?_⟩
    obtain ⟨e2, s2⟩ := s1.newB (o := .lst vs.reverse) hp
    exact q _ _ _ _ O1 k (e1.trans e2) s2 (show Dd _ _ _ _ from .lst upd_same ((h2.mono e2).rev))
/-- xs[lo:hi], a new list that will be changed -/
theorem le_slW {te : TE} {tl th : TO} (h : LE G B0 te ρ O fun x O1 => LO G B0 tl ρ O1 fun lo O2 => LO G B0 th ρ O2 fun hi O3 => ∃ ds, asPy O3 x = some (.list ds) ∧ ∀ p, O3 p = none → κ (.own p) (oset O3 p (cutD ds lo hi))) : LE G B0 (tSl (rSlL G.K) te tl th) ρ O κ := fun B H σ s t Q q =>
  h B H σ s t _ fun v x B1 H1 O1 h1 e1 s1 r1 => h1 B1 H1 σ s1 (t.mono e1) _ fun lo B2 H2 O2 h2 e2 s2 => h2 B2 H2 σ s2 (t.mono (e1.trans e2)) _ fun hi B3 H3 O3 ⟨ds, hx, k⟩ e3 s3 => by
    obtain ⟨a, vs, rfl, h4, h5, _⟩ := lst_of s3 (r1.mono (e2.trans e3)) hx
    refine ⟨a, vs, rfl, h4, fun p hp => ?_⟩
    have op : O3 p = none := by
      cases hO : O3 p with
      | none => rfl
      | some es =>
        obtain ⟨_, us, g2, _⟩ := s3.ow p es hO
        rw [hp] at g2
        cases g2
    have hd : DdAll G.K B3 (cutV vs lo hi) (cutD ds lo hi) := by
      unfold cutV cutD
      rw [h5.len]
      exact (h5.drop _).take _
    exact q _ _ B3 _ _ (k p op) ((e1.trans e2).trans e3) (s3.newO hp hd) rfl
end
end DL

namespace DL
open PySem PySem.Spec PyProof.Rows L2 Evl
/-! ## points as data -/
theorem Co.sB_of {c : Co} {n : Nat} (h : ∀ x ∈ c.list, x.natAbs < 10 ^ n) : c.sB n := by
  have m : ∀ x, x ∈ [c.a, c.b, c.c, c.d, c.e, c.f] → x.natAbs < 10 ^ n := h
  exact ⟨m _ (by simp), m _ (by simp), m _ (by simp), m _ (by simp), m _ (by simp), m _ (by simp)⟩
theorem Co.sB.mem {c : Co} {n : Nat} (h : c.sB n) : ∀ x ∈ c.list, x.natAbs < 10 ^ n := by
  obtain ⟨h1, h2, h3, h4, h5, h6⟩ := h
  intro x hx
  simp only [Co.list, List.mem_cons, List.not_mem_nil, or_false] at hx
  rcases hx with rfl | rfl | rfl | rfl | rfl | rfl <;> assumption

theorem Co.sB.le {c : Co} {n m : Nat} (h : c.sB n) (e : n ≤ m) : c.sB m := ⟨bd_le h.1 e, bd_le h.2.1 e, bd_le h.2.2.1 e, bd_le h.2.2.2.1 e, bd_le h.2.2.2.2.1 e, bd_le h.2.2.2.2.2 e⟩

theorem isPt_of {d : PyData} (h : isPt d = true) : ∃ x : Pt, d = ptD x ∧ IsPt x := by
  cases d with
  | tuple ds =>
    by_cases h2 : (ds.length : Int) = 2
    · obtain ⟨x, y, rfl⟩ := two_of h2
      by_cases hx : pyInt x = true
      · by_cases hy : pyInt y = true
        · obtain ⟨i, rfl⟩ := int_of hx
          obtain ⟨j, rfl⟩ := int_of hy
          rw [isPt_pair] at h
          refine ⟨(i, j), rfl, ?_⟩
          by_cases h0 : j = 0
          · rw [if_pos h0] at h
            have hi := of_decide_eq_true h
            subst hi
            subst h0
            exact ⟨rfl, fun _ => rfl, by decide⟩
          · rw [if_neg h0, Bool.and_eq_true] at h
            have g1 := of_decide_eq_true h.1
            have g2 := of_decide_eq_true h.2
            exact ⟨by show Int.gcd i j = 1; omega, fun z => absurd z h0, by show 0 ≤ j; omega⟩
        · rw [isPt_y (by simpa using hy)] at h
          cases h
      · rw [isPt_x (by simpa using hx)] at h
        cases h
    · rw [isPt_not h2] at h
      cases h
  | none => cases h
  | bool b => cases h
  | int b => cases h
  | str b => cases h
  | list b => cases h
  | dict b => cases h
theorem isPt_pt {x : Pt} (h : IsPt x) : isPt (ptD x) = true := by
  show isPt (.tuple [.int x.1, .int x.2]) = true
  rw [isPt_pair]
  have g := h.g
  have s := h.s
  have p := h.p
  split
  · rename_i h0
    exact decide_eq_true (s h0)
  · rw [decide_eq_true (show 0 < x.2 by omega), decide_eq_true (show (Int.gcd x.1 x.2 : Int) = 1 by omega)]
    rfl
theorem StGood.six {c : Co} {x y : Pt} (h : StGood c x y) : c.sB 40 := h.bd.sB (by decide +kernel)
theorem Co.plain_self {c : Co} (h : c.IsPlain) : c.plain.list = c.list := by
  rw [Co.plain_list]
  exact h.eq
theorem nopt {x : Pt} {P : Prop} (h : IsPt x) (z : isPt (ptD x) = false) : P := by
  rw [isPt_pt h] at z
  cases z
theorem ptD_inj {x y : Pt} (h : ptD x = ptD y) : x = y := by
  obtain ⟨a, b⟩ := x
  obtain ⟨c, d⟩ := y
  simp only [ptD, PyData.tuple.injEq, List.cons.injEq, PyData.int.injEq, and_true] at h
  rw [h.1, h.2]
theorem pts_go {x y : Pt} {A B : Prop} {P : Pt → Pt → Prop} (px : IsPt x) (py : IsPt y) (k : P x y) :
    (isPt (ptD x) = false → A) ∧ (isPt (ptD x) = true → isPt (ptD y) = false → B) ∧ ∀ x' y', ptD x = ptD x' → ptD y = ptD y' → IsPt x' → IsPt y' → P x' y' := by
  refine ⟨fun z => nopt px z, fun _ z => nopt py z, fun x' y' e1 e2 _ _ => ?_⟩
  cases ptD_inj e1
  cases ptD_inj e2
  exact k
/-! ## numbers times a number have the same plain ones -/
theorem gcdF_mul (k : Int) : ∀ (ns : List Int) (g : Nat), gcdF (k.natAbs * g) (ns.map fun x => k * x) = k.natAbs * gcdF g ns
  | [], g => rfl
  | x :: ns, g => by
    show gcdF (Int.gcd (k * x) ((k.natAbs * g : Nat) : Int)) (ns.map fun x => k * x) = k.natAbs * gcdF (Int.gcd x (g : Int)) ns
    have e : Int.gcd (k * x) ((k.natAbs * g : Nat) : Int) = k.natAbs * Int.gcd x (g : Int) := by
      rw [Int.gcd_eq_natAbs_gcd_natAbs, Int.gcd_eq_natAbs_gcd_natAbs, Int.natAbs_mul, Int.natAbs_natCast, Int.natAbs_natCast, Nat.gcd_mul_left]
    rw [e]
    exact gcdF_mul k ns _
theorem gcdL_mul (k : Int) (ns : List Int) : gcdL (ns.map fun x => k * x) = k.natAbs * gcdL ns := gcdF_mul k ns 0
theorem nz_mul {k : Int} (hk : k ≠ 0) (ns : List Int) : nz (ns.map fun x => k * x) = (nz ns).map fun x => k * x := by
  unfold nz
  rw [List.filter_map]
  congr 1
  refine List.filter_congr fun x _ => ?_
  show (!decide (k * x = 0)) = !decide (x = 0)
  by_cases h : x = 0
  · rw [h, Int.mul_zero]
  · rw [decide_eq_false h, decide_eq_false (fun z => (Int.mul_eq_zero.mp z).elim hk h)]
theorem gcdL_nil {ns : List Int} (h : nz ns = []) : gcdL ns = 0 := by
  have hz : ∀ x ∈ ns, x = 0 := fun x hx => by
    by_cases e : x = 0
    · exact e
    · have : x ∈ nz ns := List.mem_filter.mpr ⟨hx, by simp [e]⟩
      rw [h] at this
      cases this
  clear h
  show gcdF 0 ns = 0
  induction ns with
  | nil => rfl
  | cons y ys ih =>
    have e := hz y List.mem_cons_self
    subst e
    exact ih fun x hx => hz x (List.mem_cons_of_mem _ hx)
theorem plainD_mul {k : Int} (hk : k ≠ 0) (ns : List Int) : plainD (ns.map fun x => k * x) = k * plainD ns := by
  have hh : (nz (ns.map fun x => k * x)).headD 0 = k * (nz ns).headD 0 := by
    rw [nz_mul hk]
    cases nz ns with
    | nil => exact (Int.mul_zero k).symm
    | cons y ys => rfl
  by_cases hn : nz ns = []
  · unfold plainD
    rw [gcdL_mul, gcdL_nil hn]
    split <;> split <;> simp
  · obtain ⟨x, _, hx0, hx⟩ := nz_mem hn
    unfold plainD
    rw [hh, hx, gcdL_mul, Int.natCast_mul]
    rcases Int.lt_or_gt_of_ne hk with h | h
    · rw [Int.ofNat_natAbs_of_nonpos (Int.le_of_lt h)]
      rcases Int.lt_or_gt_of_ne hx0 with h2 | h2
      · have := Int.mul_pos_of_neg_of_neg h h2
        rw [if_pos h2, if_neg (by omega), Int.zero_sub, Int.mul_neg, Int.neg_mul]
      · rw [if_neg (show ¬ x < 0 by omega), if_pos (Int.mul_neg_of_neg_of_pos h h2), Int.zero_sub, Int.neg_mul, Int.neg_neg]
    · rw [Int.natAbs_of_nonneg (Int.le_of_lt h)]
      rcases Int.lt_or_gt_of_ne hx0 with h2 | h2
      · rw [if_pos h2, if_pos (Int.mul_neg_of_pos_of_neg h h2), Int.zero_sub, Int.zero_sub, Int.mul_neg]
      · have := Int.mul_pos h h2
        rw [if_neg (show ¬ x < 0 by omega), if_neg (by omega)]
theorem plainL_mul {k : Int} (hk : k ≠ 0) (ns : List Int) : plainL (ns.map fun x => k * x) = plainL ns := by
  unfold plainL
  rw [plainD_mul hk, List.map_map]
  refine List.map_congr_left fun x hx => ?_
  show (k * x).fdiv (k * plainD ns) = x.fdiv (plainD ns)
  by_cases hn : nz ns = []
  · have e0 : x = 0 := by
      by_cases e : x = 0
      · exact e
      · have : x ∈ nz ns := List.mem_filter.mpr ⟨hx, by simp [e]⟩
        rw [hn] at this
        cases this
    rw [e0, Int.mul_zero, Int.zero_fdiv, Int.zero_fdiv]
  · have hd := plainD_ne hn
    obtain ⟨y, hy⟩ := plainD_dvd hx
    have hkd : k * plainD ns ≠ 0 := Int.mul_ne_zero hk hd
    rw [hy, Int.mul_fdiv_cancel_left _ hd, ← Int.mul_assoc, Int.mul_fdiv_cancel_left _ hkd]
/-! ## lines through corners -/
/-- the numbers of the line through two corners -/
def lineL (x y : Pt) : List Int := [x.1 * y.2 + y.1 * x.2, -x.2 * y.2, -x.1 * y.1]
/-! ## data that can be laid out, of little depth -/
def ShN (n : Nat) (d : PyData) : Prop := d.canLay0 = true ∧ d.depth ≤ n
theorem lay_all : ∀ {ds : List PyData} {n : Nat}, (∀ d ∈ ds, ShN n d) → PyData.canLayAll0 ds = true ∧ PyData.depthAll ds ≤ n
  | [], _, _ => ⟨rfl, Nat.zero_le _⟩
  | d :: ds, n, h => by
    obtain ⟨h1, h2⟩ := lay_all fun e he => h e (List.mem_cons_of_mem _ he)
    obtain ⟨h3, h4⟩ := h d List.mem_cons_self
    refine ⟨?_, ?_⟩
    · rw [PyData.canLayAll0, h1, h3]
      rfl
    · rw [PyData.depthAll]
      omega
theorem ShN.lst {n : Nat} {ds : List PyData} (h : ∀ d ∈ ds, ShN n d) : ShN (n + 1) (.list ds) := by
  obtain ⟨h1, h2⟩ := lay_all h
  refine ⟨?_, ?_⟩
  · rw [PyData.canLay0]
    exact h1
  · rw [PyData.depth]
    omega
theorem ShN.tup {n : Nat} {ds : List PyData} (h : ∀ d ∈ ds, ShN n d) : ShN (n + 1) (.tuple ds) := by
  obtain ⟨h1, h2⟩ := lay_all h
  refine ⟨?_, ?_⟩
  · rw [PyData.canLay0]
    exact h1
  · rw [PyData.depth]
    omega
theorem ShN.int {i : Int} : ShN 0 (.int i) := ⟨rfl, Nat.le_refl _⟩
theorem ShN.le {n m : Nat} {d : PyData} (h : ShN n d) (e : n ≤ m) : ShN m d := ⟨h.1, Nat.le_trans h.2 e⟩
theorem ShN.pt {x : Pt} : ShN 1 (ptD x) := .tup fun d hd => by
  simp only [List.mem_cons, List.not_mem_nil, or_false] at hd
  rcases hd with rfl | rfl <;> exact .int
theorem ShN.ok {n : Nat} {d : PyData} (h : ShN n d) (hn : n ≤ 64 := by decide) : SeqAt.shaped d = true := by
  show (d.canLay0 && decide (d.depth ≤ 64)) = true
  rw [h.1, decide_eq_true (Nat.le_trans h.2 hn)]
  rfl
theorem ShN.self {n : Nat} {d : PyData} (h : ShN n d) : PyData.eqv d d = true := SeqAt.eqv_refl d h.1
theorem ShN.ints {ns : List Int} : ShN 1 (.list (ns.map PyData.int)) := .lst fun d hd => by
  obtain ⟨x, _, rfl⟩ := List.mem_map.mp hd
  exact .int
/-! ## the curve that sides touch -/
def cofL (xx xy xz yy yz zz : Int) : List Int := [yy * zz - yz * yz, 2 * (xz * yz - xy * zz), xx * zz - xz * xz, 2 * (xy * yz - xz * yy), 2 * (xy * xz - xx * yz), xx * yy - xy * xy]
def curveL (c : Co) : List Int := cofL (2 * c.c) (-c.e) (-c.b) (2 * c.f) (c.d - 2 * c.c) (2 * c.a)
def rowL (xx xy xz yy yz zz u v w : Int) : List Int := [xx * u + xy * v + xz * w, xy * u + yy * v + yz * w, xz * u + yz * v + zz * w]
def touchL (c : Co) (x y : Pt) : List Int := rowL (2 * c.c) (-c.e) (-c.b) (2 * c.f) (c.d - 2 * c.c) (2 * c.a) (x.1 * y.2 + y.1 * x.2) (-x.2 * y.2) (-x.1 * y.1)
/-! ## a value in a tuple -/
section
variable {G : Gs} {B0 : Hp} {ρ : Ro} {O : Ow} {κ : D → Ow → Prop}
end
/-! ## a comprehension whose list may change later -/
section
variable {G : Gs} {B0 : Hp} {ρ : Ro} {O : Ow}
theorem le_mapW {wi : TI} {g : TG} {tt : TT} {te : TE} {vs : List Nat} {κ : D → Ow → Prop} (f : D → PyData) (sel : D → Bool) (own : GIn g vs)
    (walk : LI G B0 wi ρ O fun ds O1 => ds.length < 100000 ∧ (∀ d ∈ ds, ∀ r acc, O1 r = none → LG G B0 g d (wipeR ρ vs) (oset O1 r acc) fun ρ2 O2 => O2 = oset O1 r acc ∧ LT G B0 tt ρ2 O2 fun b O3 => O3 = oset O1 r acc ∧ b = sel d ∧
      (b = true → LE G B0 te ρ2 O3 fun y O4 => O4 = oset O1 r acc ∧ y = .py (f d))) ∧ ∀ r, O1 r = none → κ (.own r) (oset O1 r ((ds.filter sel).map f))) : LE G B0 (tLc wi g tt te vs) ρ O κ := by
  refine le_lc own ?_
  intro B H σ s t Q q
  refine walk B H σ s t Q ?_
  rintro J ds B1 H1 O1 ⟨many, each, last⟩ e1 s1 y
  refine q J ds B1 H1 O1 (fun r free => ?_) e1 s1 y
  refine ⟨fun i O' => O' = oset O1 r (((ds.take i).filter sel).map f), by simp, ?_, ?_⟩
  · rintro i d O' at_ rfl
    have more : ds.take (i + 1) = ds.take i ++ [d] := by
      rw [List.take_add_one, at_]
      rfl
    have few : (((ds.take i).filter sel).map f).length < 100000 := by
      have a1 := List.length_filter_le sel (ds.take i)
      have a2 : (ds.take i).length ≤ ds.length := by
        rw [List.length_take]
        exact Nat.min_le_right _ _
      rw [List.length_map]
      omega
    intro B2 H2 σ2 v s2 t2 r2 Q2 q2
    refine each d (List.mem_of_getElem? at_) r _ free B2 H2 σ2 v s2 t2 r2 Q2 ?_
    rintro B3 H3 σ3 ρ3 O3 ⟨rfl, test⟩ e3 s3 t3
    refine q2 B3 H3 σ3 ρ3 _ (test.imp ?_) e3 s3 t3
    rintro b O4 ⟨rfl, rfl, elt⟩
    cases hb : sel d with
    | true =>
      rw [if_pos rfl]
      refine (elt hb).imp ?_
      rintro d' O5 ⟨rfl, rfl⟩
      refine ⟨_, f d, rfl, oset_same, few, ?_⟩
      show _ = oset O1 r (((ds.take (i + 1)).filter sel).map f)
      rw [oset_oset, more, List.filter_append, List.map_append, List.filter_cons, if_pos hb]
      rfl
    | false =>
      rw [if_neg Bool.false_ne_true]
      show _ = oset O1 r (((ds.take (i + 1)).filter sel).map f)
      rw [more, List.filter_append, List.filter_cons, if_neg (by rw [hb]; exact Bool.false_ne_true)]
      show _ = oset O1 r (((ds.take i).filter sel ++ []).map f)
      rw [List.append_nil]
  · rintro O' rfl
    rw [List.take_length]
    exact last r free
/-! ## lists that may change, looked at as plain data for the time of a look -/
inductive Frz (O : Ow) : Ro → Ro → Prop
  | nil : Frz O [] []
  | keep {x : Option D} {l m : Ro} : Frz O l m → Frz O (x :: l) (x :: m)
  | frz {p : Addr} {ds : List PyData} {l m : Ro} : O p = some ds → Frz O l m → Frz O (some (.own p) :: l) (some (.py (.list ds)) :: m)
open Classical in
/-- the known part with all lists that may change -/
noncomputable def allB (O : Ow) (B H : Hp) : Hp := fun a => if O a = none then B a else H a
theorem allB_ex {B H : Hp} (s : SatH G B0 B H O) : Ex B (allB O B H) := fun a u h => by
  unfold allB
  split
  · exact h
  · rename_i n
    cases e : O a with
    | none => exact absurd e n
    | some ds =>
      obtain ⟨hb, _⟩ := s.ow a ds e
      rw [hb] at h
      cases h
theorem allB_own {B H : Hp} {p : Addr} {ds : List PyData} (s : SatH G B0 B H O) (h : O p = some ds) : Dd G.K (allB O B H) (.ref p) (.list ds) := by
  obtain ⟨_, vs, h2, h3⟩ := s.ow p ds h
  refine .lst (xs := vs) ?_ (h3.mono (allB_ex s))
  unfold allB
  rw [if_neg (by rw [h]; exact fun z => nomatch z), h2]
theorem Frz.len {ρ ρ' : Ro} (f : Frz O ρ ρ') : ρ.length = ρ'.length := by
  induction f with
  | nil => rfl
  | keep _ ih => rw [List.length_cons, List.length_cons, ih]
  | frz _ _ ih => rw [List.length_cons, List.length_cons, ih]
theorem Frz.at {ρ ρ' : Ro} (f : Frz O ρ ρ') : ∀ (i : Nat) (d : D), ρ'[i]? = some (some d) → ρ[i]? = some (some d) ∨ ∃ p ds, O p = some ds ∧ d = .py (.list ds) ∧ ρ[i]? = some (some (.own p)) := by
  induction f with
  | nil => exact fun i d h => .inl h
  | keep _ ih =>
    intro i d h
    cases i with
    | zero => exact .inl h
    | succ i => exact ih i d h
  | frz hp _ ih =>
    intro i d h
    cases i with
    | zero =>
      cases h
      exact .inr ⟨_, _, hp, rfl, rfl⟩
    | succ i => exact ih i d h
theorem Frz.slots {ρ ρ' : Ro} {B H : Hp} {σ : L2.St} (f : Frz O ρ ρ') (s : SatH G B0 B H O) (t : Slots G B σ ρ) : Slots G (allB O B H) σ ρ' :=
  ⟨t.len.trans f.len, fun i d h => by
    rcases f.at i d h with g | ⟨p, ds, hp, rfl, g⟩
    · obtain ⟨v, hv, r⟩ := t.get i d g
      exact ⟨v, hv, r.mono (allB_ex s)⟩
    · obtain ⟨v, hv, r⟩ := t.get i _ g
      cases (show v = V.ref p from r)
      exact ⟨_, hv, allB_own s hp⟩⟩
end
end DL

namespace DL
open PySem PySem.Spec PyProof.Rows L2 Evl
/-! ## the curve that sides touch: what is needed of it -/
end DL

namespace DL
open PySem PySem.Spec PyProof.Rows L2 Evl
/-! ## the parts of written comprehensions -/
def valE (ss : List Stmt) (k : Nat) : Expr := match ss.getD k (.Pass ⟨0, 0, 0, 0⟩) with
  | .Assign _ v _ => v
  | .Return (some v) _ => v
  | _ => .Name "?" ⟨0, 0, 0, 0⟩
def lcS : Expr → Scope
  | .ListComp _ _ s _ => s
  | _ => { kind := .function, names := [], isGenerator := false, isCoroutine := false }
theorem look_re {f : Str × NameKind → Str × NameKind} (hf : ∀ n k, f (n, k) = (n, k) ∨ (k = .free ∧ f (n, k) = (n, .cell))) {x : Str} : ∀ {names : List (Str × NameKind)}, names.lookup x = some .cell ∨ names.lookup x = some .free →
    (names.map f).lookup x = some .cell ∨ (names.map f).lookup x = some .free
  | [], h => by simp at h
  | (n, k) :: r, h => by
    have ih := @look_re f hf x r
    rw [List.map_cons]
    rcases hf n k with e | ⟨e0, e⟩
    · rw [e]
      cases hx : x == n with
      | true =>
        simp only [List.lookup_cons, hx] at h ⊢
        exact h
      | false =>
        simp only [List.lookup_cons, hx] at h ⊢
        exact ih h
    · rw [e]
      cases hx : x == n with
      | true => exact .inl (by simp only [List.lookup_cons, hx])
      | false =>
        simp only [List.lookup_cons, hx] at h ⊢
        exact ih h
/-- a comprehension within another one -/
theorem blkIn {N : List Str} {sc scope : Scope} {own : List (Str × Nat)} {env : Env} (h : BlkOk N sc scope own) : BlkOk N (relabel sc env) scope own :=
  ⟨h.kind, h.uniq, h.ix, fun y hy e => look_re (fun n k => by
    by_cases hc : (k == NameKind.free && env.scope.kind == .function && env.kindOf n == some .cell) = true
    · refine .inr ⟨?_, if_pos hc⟩
      simp only [Bool.and_eq_true] at hc
      revert hc
      cases k <;> simp
    · exact .inl (if_neg hc)) (h.free y hy e), h.own⟩
/-! ## taking out of a list -/
section
variable {G : Gs} {B0 : Hp} {ρ : Ro} {O : Ow} {κ : D → Ow → Prop}
end
end DL

namespace DL
open PySem PySem.Spec PyProof.Rows L2 Evl
/-! ## the form of the sides has a determinant -/
/-- what holds of a side, the curve, and the point at which they touch -/
structure TouchF (c : Co) (x y : Pt) (A B C D E F t1 t2 t3 e1 e2 e3 : Int) : Prop where
  cur : plainL (curveL c) = [A, B, C, D, E, F]
  tou : plainL (touchL c x y) = [t1, t2, t3]
  edg : plainL (lineL x y) = [e1, e2, e3]
  on : t1 * e1 + t2 * e2 + t3 * e3 = 0
  onc : t1 * (2 * A * t1 + B * t2 + D * t3) + t2 * (B * t1 + 2 * C * t2 + E * t3) + t3 * (D * t1 + E * t2 + 2 * F * t3) = 0
  c1 : (B * t1 + 2 * C * t2 + E * t3) * e3 - (D * t1 + E * t2 + 2 * F * t3) * e2 = 0
  c2 : (D * t1 + E * t2 + 2 * F * t3) * e1 - (2 * A * t1 + B * t2 + D * t3) * e3 = 0
  c3 : (2 * A * t1 + B * t2 + D * t3) * e2 - (B * t1 + 2 * C * t2 + E * t3) * e1 = 0
  sne : ¬ (2 * A * t1 + B * t2 + D * t3 = 0 ∧ B * t1 + 2 * C * t2 + E * t3 = 0 ∧ D * t1 + E * t2 + 2 * F * t3 = 0)
  ene : ¬ (e1 = 0 ∧ e2 = 0 ∧ e3 = 0)
  tpl : plainL [t1, t2, t3] = [t1, t2, t3]
  tne : nz [t1, t2, t3] ≠ []
/-! ## a list that may change, taken apart -/
section
variable {G : Gs} {B0 : Hp} {ρ : Ro} {O : Ow}
end
end DL

namespace DL
open PySem PySem.Spec PyProof.Rows L2 Evl
/-! ## bounds -/
/-! ## lines that touch the curve -/
end DL

namespace DL
open PySem PySem.Spec PyProof.Rows L2 Evl
/-! ## written numbers with a name; is None -/
theorem pe_globI {X : Cx} {x : Str} {i : Int} {pos : Pos} (own : Gl X x) (at_ : ∃ t, X.mg x = some (.int i t)) (dbg : (x == ("__debug__" : Str)) = false := by decide) : PE X (.Name x pos) (tC (.int i)) :=
  at_.elim fun t e => pe_glob (u := .int i t) own e ⟨t, rfl⟩ dbg
section
variable {G : Gs} {B0 : Hp} {ρ : Ro} {O : Ow} {κ : D → Ow → Prop}
end
/-! ## the multiples of a relation -/
def Co.I (c : Co) : Int := bendI (q4 c.a c.b c.c c.d c.e c.f) (q3 c.a c.b c.c c.d c.e c.f) (q2 c.a c.b c.c c.d c.e c.f) (q1 c.a c.b c.c c.d c.e c.f) (q0 c.a c.b c.c c.d c.e c.f)
def Co.J (c : Co) : Int := bendJ (q4 c.a c.b c.c c.d c.e c.f) (q3 c.a c.b c.c c.d c.e c.f) (q2 c.a c.b c.c c.d c.e c.f) (q1 c.a c.b c.c c.d c.e c.f) (q0 c.a c.b c.c c.d c.e c.f)
def Co.X (c : Co) : Int := (c.d - 2 * c.c) * (c.d - 10 * c.c) + 4 * (c.b * c.e - c.a * c.f)
def addOf (i j x : Int) : Co := ⟨1, -2 * x, x * x, 6 * i - 2 * x * x, 6 * i * x + 4 * j, 9 * i * i + 4 * j * x⟩
def Co.add (c : Co) : Co := addOf c.I c.J c.X
structure MulOK (c : Co) : Prop where
  lim : Lim c.add (1, 0) (c.X, 1) 13
  six : c.sB 40
theorem gcdF_one : ∀ (ns : List Int), gcdF 1 ns = 1
  | [] => rfl
  | x :: ns => by
    show gcdF (Int.gcd x (1 : Int)) ns = 1
    rw [Int.gcd_one_right]
    exact gcdF_one ns
theorem add_plain (i j x : Int) : (addOf i j x).IsPlain := by
  unfold Co.IsPlain plainD addOf Co.list
  have h1 : gcdL [1, -2 * x, x * x, 6 * i - 2 * x * x, 6 * i * x + 4 * j, 9 * i * i + 4 * j * x] = 1 := gcdF_one _
  have h2 : (nz [1, -2 * x, x * x, 6 * i - 2 * x * x, 6 * i * x + 4 * j, 9 * i * i + 4 * j * x]).headD 0 = 1 := rfl
  simp only [h1, h2]
  decide
/-- the least number of steps behind which the chains close -/
def Co.close (c : Co) : Option Nat := (List.range 13).find? fun n => decide (0 < n) && decide (c.add.mem (1, 0) (c.X, 1) n = (1, 0))
def Co.after (c : Co) (n : Int) : Bool := decide (n = 0) || match c.close with
  | some l => decide (n.fmod (l : Int) = 0)
  | none => false
end DL

namespace DL
open PySem PySem.Spec PyProof.Rows L2 Evl
/-! ## the multiples of the relations that everybody knows -/
end DL

namespace DL
open PySem PySem.Spec PyProof.Rows L2 Evl
/-! ## lists of numbers that are multiples of one another -/
/-- the five numbers -/
def Co.five (c : Co) : List Int := [q4 c.a c.b c.c c.d c.e c.f, q3 c.a c.b c.c c.d c.e c.f, q2 c.a c.b c.c c.d c.e c.f, q1 c.a c.b c.c c.d c.e c.f, q0 c.a c.b c.c c.d c.e c.f]
end DL

namespace DL
open PySem PySem.Spec PyProof.Rows L2 Evl
/-! ## the greatest of four ints -/
section
variable {G : Gs} {B0 : Hp} {ρ : Ro} {O : Ow} {κ : D → Ow → Prop}
end
end DL

namespace DL
open PySem PySem.Spec PyProof.Rows L2 Evl
/-! ## primes from 5 to 199, residues -/
def primesL : List Nat := (List.range 200).filter fun n => decide (5 ≤ n) && (List.range n).all fun d => decide (d < 2) || n % d != 0
/-- a number multiplied so often modulo p -/
def pwN (b p : Nat) : Nat → Nat
  | 0 => 1
  | k + 1 => pwN b p k * b % p
def pw (b p : Int) : Nat → Int
  | 0 => 1
  | k + 1 => pw b p k * b % p
def invOK (p : Nat) : Bool := decide (5 ≤ p) && decide (p < 200) && (List.range p).all fun x => x == 0 || pwN x p (p - 2) * x % p == 1
theorem inv_all : primesL.all invOK = true := by decide +kernel
theorem primes_div : (primesL.all fun p => (List.range p).all fun d => decide (d < 2) || p % d != 0) = true := by decide +kernel
end DL

namespace DL
open PySem PySem.Spec PyProof.Rows L2 Evl
def PrI (p : Int) : Prop := ∃ n ∈ primesL, p = (n : Int)
theorem PrI.bd {p : Int} (h : PrI p) : 5 ≤ p ∧ p < 200 := by
  obtain ⟨n, hn, rfl⟩ := h
  have h1 := List.all_eq_true.mp inv_all n hn
  simp only [invOK, Bool.and_eq_true, decide_eq_true_eq] at h1
  omega
theorem PrI.pt {p : Int} (h : PrI p) {x : Pt} (hx : IsPt x) (h2 : p ∣ x.2) (h1 : p ∣ x.1) : False := by
  have hb := h.bd
  have hg : Int.gcd x.1 x.2 = 1 := hx.1
  have := Int.dvd_coe_gcd h1 h2
  rw [hg] at this
  have := Int.le_of_dvd (by decide) this
  omega
theorem PrI.div {p : Int} (h : PrI p) {d : Int} (h2 : 2 ≤ d) (hd : d < p) : p % d ≠ 0 := by
  obtain ⟨n, hn, rfl⟩ := h
  have h1 := List.all_eq_true.mp (List.all_eq_true.mp primes_div n hn) d.toNat (List.mem_range.mpr (by omega))
  rw [Bool.or_eq_true] at h1
  have e : ((d.toNat : Nat) : Int) = d := Int.toNat_of_nonneg (by omega)
  rcases h1 with h1 | h1
  · have := of_decide_eq_true h1
    omega
  · intro z
    have z2 : n % d.toNat = 0 := by
      rw [← e] at z
      exact_mod_cast z
    rw [z2] at h1
    exact absurd h1 (by decide)
end DL

namespace DL
open PySem PySem.Spec PyProof.Rows L2 Evl
/-! ## == and != of relations, by their own __eq__ -/
end DL

namespace DL
open PySem PySem.Spec PyProof.Rows L2 Evl
/-- what is known of a class whose things are compared by its own def -/
structure EqCls (K : PySem.W.Frag) (C f : Addr) : Prop where
  eq : PySem.W.findIn K (.ref C) (Str.ofString "__eq__") = some (some (.ref f))
  fn : PySem.W.isFn K (.ref f) = true
  ne : PySem.W.findIn K (.ref C) (Str.ofString "__ne__") = some (some (.builtin "object.__ne__"))
  sub : PySem.W.subIn K (.ref C) (.type "object") = some true
section
variable {G : Gs} {B0 : Hp} {ρ : Ro} {O : Ow} {κ : D → Ow → Prop}
end
end DL

namespace DL
open PySem PySem.Spec PyProof.Rows L2 Evl
/-! ## isinstance of a relation, or of plain data, with the class of relations -/
structure RelCls (K : PySem.W.Frag) (C : Addr) : Prop where
  c : Cls K C
  cl : PySem.W.findIn K (.ref C) "__class__" = some (some (.builtin "object.__class__"))
  sp : PySem.W.specialIn K (.builtin "object.__class__") "__get__" = some (some (.builtin "getset_descriptor.__get__"))
  ta : PySem.W.takesIn K (.builtin "object.__class__") = some true
  ob : PySem.W.mroIn K C (.type "object") = some true
  ic : PySem.W.isClsIn K C = true
  it : PySem.W.typeIn K (.ref C) = some (.type "type")
theorem sub_ty {K : PySem.W.Frag} {C : Addr} : ∀ d : PyData, PySem.W.subIn K (.type (tyN d)) (.ref C) = some false
  | .none => rfl
  | .bool _ => rfl
  | .int _ => rfl
  | .str _ => rfl
  | .list _ => rfl
  | .tuple _ => rfl
  | .dict _ => rfl
theorem ne_ty {C : Addr} (T : String) : (Value.type T == Value.ref C) = false := rfl
theorem RelCls.data {K : PySem.W.Frag} {C : Addr} (h : RelCls K C) (d : PyData) : PySem.W.kitOne K (.type (tyN d)) (.ref C) = some false := by
  show (if (Value.type (tyN d) == Value.ref C) = true then some true else (if ((PySem.W.clsIn K C).isSome && PySem.W.typeIn K (.ref C) == some (.type "type")) = true then PySem.W.subIn K (.type (tyN d)) (.ref C) else none)) = some false
  rw [if_neg (by rw [ne_ty]; exact Bool.false_ne_true), if_pos (cls_ok h.ic h.it)]
  exact sub_ty d
section
variable {G : Gs} {B0 : Hp} {ρ : Ro} {O : Ow} {κ : D → Ow → Prop}
/-- the known part without the lists that may change -/
noncomputable def dropB (O : Ow) (B1 : Hp) : Hp := fun a => if O a = none then B1 a else none
/-- two things at once, by a tuple (names that a comprehension reads) -/
theorem ls_tup2 {i j : Nat} {ta : TA} {N : Ro → Ow → Prop} {R : D → Ow → Prop} {Bk Ct : Ro → Ow → Prop} (h : LA G B0 ta ρ O fun ds O1 => ∃ x y, ds = [x, y] ∧ ∃ ρ1, SetAt ρ i (some x) ρ1 ∧ ∃ ρ2, SetAt ρ1 j (some y) ρ2 ∧ N ρ2 O1) :
    LS G B0 (tAsg (tTup ta) (gTup G.K 2 (gCons (gName i) (gCons (gName j) gNil)))) ρ O N R Bk Ct := fun B H σ s t Dn hn hr hb hc =>
  h B H σ s t _ fun vs ds B1 H1 O1 ⟨x, y, ex, ρ1, a1, ρ2, a2, k⟩ e1 s1 r1 => by
    subst ex
    cases r1 with
    | cons rx r1 =>
      cases r1 with
      | cons ry r1 =>
        cases r1
        refine ⟨by show 2 ≤ sizeLine; decide, fun p hp => ⟨p, _, rfl, st_of upd_same, rfl, _, _, rfl, _, _, rfl, rfl, ?_⟩⟩
        have b1 := a1.eq
        subst b1
        have b2 := a2.eq
        subst b2
        exact hn B1 _ _ _ O1 k e1 (s1.newF hp) (((t.mono e1).set i rx).set j ry)
end
end DL

namespace DL
open PySem PySem.Spec PyProof.Rows L2
open PySem.W (EachIs KeyedOut AllAlike Sortable dataLe keyedOut_each)

/-! ## sorted by a key whose call may change what is around -/
/-- tuples stay tuples -/
def KeepT (H H2 : Hp) : Prop := (∀ b xs, H b = some (.tup xs) → H2 b = some (.tup xs)) ∧ ∀ b o u, H b = some (.frz o u) → H2 b = some (.frz o u)
theorem KeepT.t {K : PySem.W.Frag} {H H2 : Hp} {a : Addr} {xs : List V} (k : KeepT H H2) (h : SqT K H a xs) : SqT K H2 a xs := by
  rcases h with (h | ⟨o, h⟩) | h
  · exact .inl (.inl (k.1 _ _ h))
  · exact .inl (.inr ⟨o, k.2 _ _ _ h⟩)
  · exact .inr h
/-- an object of the sort's own -/
structure Own1 (X : Cx) (pins : List (Addr × Obj)) (q : Addr) : Prop where
  nl : q ≠ X.env.locals
  nf : q ∉ X.fs
  lo : X.s_0.heap.objs.size ≤ q
  nc : ∀ x c, X.env.cells.lookup x = some c → c ≠ q
  np : ∀ p ∈ X.pn ++ pins, p.1 ≠ q
section
variable {X : Cx} {pins : List (Addr × Obj)} {σ : L2.St} {H : Hp} {s : Shared}
abbrev kkD (b : V × (Int × Int)) : PyData := .tuple [.int b.2.1, .int b.2.2]
end
end DL

namespace DL
open PySem PySem.Spec PyProof.Rows L2
open PySem.W (EachIs KeyedOut AllAlike Sortable dataLe)
/-! ## a lambda of one parameter, called while its maker runs -/
/-- the lambda's names: its parameter x, captured ones and globals -/
structure Lam1 (sc scope : Scope) (x : Str) : Prop where
  kind : scope.kind = .function
  co : scope.isCoroutine = false
  gen : scope.isGenerator = false
  nocell : ∀ y ∈ scope.names, y.2 ≠ .cell
  loc : ∀ y ∈ scope.names, y.2 = .local → y.1 = x
  par : scope.names.lookup x = some .local
  free : ∀ y ∈ scope.names, y.2 = .free → sc.names.lookup y.1 = some .cell ∨ sc.names.lookup y.1 = some .free
section
variable {X : Cx} {pins : List (Addr × Obj)} {σ : L2.St} {H : Hp} {s : Shared} {scope : Scope} {x : Str}
theorem Lam1.has (L : Lam1 X.env.scope scope x) (ok : X.Ok) : ∀ y ∈ scope.names, y.2 = .free → ∃ c, X.env.cells.lookup y.1 = some c := fun y hy e =>
  (L.free y hy e).elim (fun k => ok.has _ (.inl k)) fun k => ok.has _ (.inr k)
end
end DL

namespace DL
open PySem PySem.Spec PyProof.Rows L2
open PySem.W (EachIs KeyedOut AllAlike Sortable dataLe copyHeap copyHeap_at copyHeap_old)
section
variable {X : Cx} {pins : List (Addr × Obj)} {σ : L2.St} {H : Hp} {s : Shared}
end
end DL

namespace DL
open PySem PySem.Spec PyProof.Rows L2 Evl
/-! ## sorted by a key, on data -/
/-- the order of pairs -/
def leL (x y : Int × Int) : Bool := decide (x.1 < y.1 ∨ (x.1 = y.1 ∧ x.2 ≤ y.2))
theorem ddAll_map {K : PySem.W.Frag} {B : Hp} {α : Type} (f : α → V) (g : α → PyData) : ∀ {l : List α}, (∀ z ∈ l, Dd K B (f z) (g z)) → DdAll K B (l.map f) (l.map g)
  | [], _ => .nil
  | z :: l, h => .cons (h z (.head _)) (ddAll_map f g fun y hy => h y (.tail _ hy))
theorem ddAll_zip {K : PySem.W.Frag} {B : Hp} {α : Type} (g : α → PyData) : ∀ {vs : List V} {ps : List α}, DdAll K B vs (ps.map g) → ∀ z ∈ vs.zip ps, Dd K B z.1 (g z.2)
  | v :: vs, p :: ps, .cons h t, z, hz => by
    rw [List.zip_cons_cons] at hz
    rcases List.mem_cons.mp hz with rfl | hz
    · exact h
    · exact ddAll_zip g t z hz
theorem sort_fst (vs : List V) (ps : List (Int × Int)) (rk : Int × Int → Int × Int) :
    ((((vs.zip ps).map fun z => (z.1, rk z.2)).mergeSort (PySem.W.dataLe false kkD)).map (·.1)) = (((vs.zip ps).mergeSort fun a b => leL (rk a.2) (rk b.2)).map (·.1)) := by
  have e : PySem.W.dataLe false kkD = fun (a b : V × (Int × Int)) => leL a.2 b.2 := PySem.W.dataLe_ii (fun b : V × (Int × Int) => b.2.1) fun b => b.2.2
  rw [e, ← List.map_mergeSort (r := fun a b => leL (rk a.2) (rk b.2)) (fun a _ b _ => rfl), List.map_map]
  rfl
theorem sort_snd {vs : List V} {ps : List (Int × Int)} (hl : vs.length = ps.length) (rk : Int × Int → Int × Int) :
    ps.mergeSort (fun a b => leL (rk a) (rk b)) = (((vs.zip ps).mergeSort fun a b => leL (rk a.2) (rk b.2)).map (·.2)) := by
  rw [List.map_mergeSort (s := fun a b => leL (rk a) (rk b)) (fun a _ b _ => rfl)]
  have e : (vs.zip ps).map (·.2) = ps := List.map_snd_zip (by omega)
  rw [e]
section
variable {G : Gs} {B0 : Hp} {ρ : Ro} {O : Ow} {κ : D → Ow → Prop}
end
end DL

namespace DL
open PySem PySem.Spec PyProof.Rows L2 Evl
/-! ## a def by its lookup: its code is known -/
section
variable {P : Program} {w : World} {K : PySem.W.Frag} {mg : Str → Option Value} {base : Heap}
end
/-! ## the law's call, with a table -/
section
variable {P : Program} {w : World} {K : PySem.W.Frag} {mg mb : Str → Option Value} {k : Nat} {fa a c p : Addr} {fd : FuncData} {x : Str} {sp : Sp} {t1 : Shared} {vs : List Value} {ns : List Int}
end
end DL

namespace DL
open PySem PySem.Spec PyProof.Rows L2 Evl
/-! ## pairs in their order -/
/-! ## lists that can be shown -/
theorem okRs_of : ∀ {ds : List PyData}, (∀ d ∈ ds, okR d) → okRs ds
  | [], _ => trivial
  | d :: ds, h => ⟨h d (.head _), okRs_of fun e he => h e (.tail _ he)⟩
theorem szRs_of {m : Nat} : ∀ {ds : List PyData}, (∀ d ∈ ds, szR d ≤ m) → szRs ds ≤ ds.length * (m + 2)
  | [], _ => by
    rw [List.length_nil, Nat.zero_mul]
    exact Nat.le_refl _
  | d :: ds, h => by
    have h1 := h d (.head _)
    have h2 := szRs_of (ds := ds) fun e he => h e (.tail _ he)
    have e1 : szRs (d :: ds) = szR d + 2 + szRs ds := by rw [szRs]
    rw [e1, List.length_cons, Nat.add_mul]
    omega
theorem depthAll_of {m : Nat} : ∀ {ds : List PyData}, (∀ d ∈ ds, d.depth ≤ m) → PyData.depthAll ds ≤ m
  | [], _ => by
    rw [PyData.depthAll]
    exact Nat.zero_le _
  | d :: ds, h => by
    have h1 := h d (.head _)
    have h2 := depthAll_of (ds := ds) fun e he => h e (.tail _ he)
    rw [PyData.depthAll]
    omega
/-- a thing that can be shown, of so many signs and so deep -/
structure Sho (n k : Nat) (d : PyData) : Prop where
  ok : okR d
  sz : szR d ≤ n
  dp : d.depth ≤ k
theorem Sho.le {n k n' k' : Nat} {d : PyData} (h : Sho n k d) (hn : n ≤ n') (hk : k ≤ k') : Sho n' k' d := ⟨h.ok, Nat.le_trans h.sz hn, Nat.le_trans h.dp hk⟩
theorem Sho.lst {n k m : Nat} {ds : List PyData} (h : ∀ d ∈ ds, Sho n k d) (hl : ds.length ≤ m) : Sho (m * (n + 2) + 3) (k + 1) (.list ds) where
  ok := okRs_of fun d hd => (h d hd).ok
  sz := by
    have := szRs_of fun d hd => (h d hd).sz
    have h2 : ds.length * (n + 2) ≤ m * (n + 2) := Nat.mul_le_mul_right _ hl
    rw [szR]
    omega
  dp := by
    have := depthAll_of fun d hd => (h d hd).dp
    rw [PyData.depth]
    omega
theorem Sho.tup {n k m : Nat} {ds : List PyData} (h : ∀ d ∈ ds, Sho n k d) (hl : ds.length ≤ m) : Sho (m * (n + 2) + 3) (k + 1) (.tuple ds) where
  ok := okRs_of fun d hd => (h d hd).ok
  sz := by
    have := szRs_of fun d hd => (h d hd).sz
    have h2 : ds.length * (n + 2) ≤ m * (n + 2) := Nat.mul_le_mul_right _ hl
    rw [szR]
    omega
  dp := by
    have := depthAll_of fun d hd => (h d hd).dp
    rw [PyData.depth]
    omega
theorem Sho.int {i : Int} (h : i.natAbs < 10 ^ 570) : Sho 600 0 (.int i) := ⟨ok_int h, by rw [szR]; exact Nat.le_refl _, by rw [PyData.depth]; exact Nat.le_refl _⟩
theorem Sho.bool {b : Bool} : Sho 600 0 (.bool b) := ⟨trivial, by rw [szR]; decide, by rw [PyData.depth]; exact Nat.le_refl _⟩
theorem Sho.none : Sho 600 0 .none := ⟨trivial, by rw [szR]; decide, by rw [PyData.depth]; exact Nat.le_refl _⟩
theorem Sho.pt {x : Int × Int} (h1 : x.1.natAbs < 10 ^ 570) (h2 : x.2.natAbs < 10 ^ 570) : Sho 1300 1 (ptD x) :=
  (Sho.tup (m := 2) (n := 600) (k := 0) (fun d hd => by
    rcases List.mem_cons.mp hd with rfl | hd
    · exact Sho.int h1
    · rw [List.mem_singleton.mp hd]
      exact Sho.int h2) (Nat.le_refl _)).le (by decide) (by decide)
/-! ## drawn lists with a test that does not depend on the turn -/
section
variable {G : Gs} {B0 : Hp} {ρ : Ro} {O : Ow} {κ : D → Ow → Prop}
end
/-! ## lists cut -/
theorem cut_to (ds : List PyData) (j : Nat) : cutD ds none (some (j : Int)) = ds.take j := by
  unfold cutD
  rw [HT.sIx_none, HT.sIx_nat, List.drop_zero, Nat.sub_zero]
  by_cases h : j ≤ ds.length
  · rw [Nat.min_eq_left h]
  · rw [Nat.min_eq_right (by omega), List.take_length, List.take_of_length_le (by omega)]
theorem cut_from (ds : List PyData) (j : Nat) : cutD ds (some (j : Int)) none = ds.drop j := by
  unfold cutD
  rw [HT.sIx_none, HT.sIx_nat]
  by_cases h : j ≤ ds.length
  · rw [Nat.min_eq_left h, List.take_of_length_le (by rw [List.length_drop]; exact Nat.le_refl _)]
  · rw [Nat.min_eq_right (by omega), List.drop_length, List.take_nil, List.drop_of_length_le (by omega)]
end DL

namespace DL
open PySem PySem.Spec PyProof.Rows L2 Evl
open PySem.W (EachIs AllAlike Sortable dataLe)
/-! ## sorted of a list of pairs, and of a set of pairs -/
/-- sorted(xs), xs a list of pairs -/
def rSortP (K : PySem.W.Frag) : List V → Hp → VK → Prop := fun vs H Q => ∃ (l : Addr) (bs : List (V × (Int × Int))), vs = [V.ref l] ∧ SqL K H l (bs.map (·.1)) ∧ (∀ b ∈ bs, ∃ p, b.1 = V.ref p ∧ SqT K H p [.int b.2.1, .int b.2.2]) ∧
  ∀ p, H p = none → Q (.ref p) (upd H p (.lst ((bs.mergeSort (dataLe false kkD)).map (·.1))))
section
variable {X : Cx}
/-- the first and the second number -/
def fstL (q : Addr × List Int) : Int := q.2.getD 0 0
def sndL (q : Addr × List Int) : Int := q.2.getD 1 0
abbrev kqD (q : Addr × List Int) : PyData := .tuple [.int (fstL q), .int (sndL q)]
variable {P : Program} {w : World} {A : Around} {E : Value → Shared → Prop} {s : Shared}
end
section
variable {X : Cx}
/-- sorted(set(e)), e a list of pairs -/
def tSortSet (K : PySem.W.Frag) (ta : TA) : TE := fun σ H Q => ta σ H fun xs H1 => ∃ (l : Addr) (ks : List (Addr × List Int)), xs = [V.ref l] ∧ SqL K H1 l (ks.map fun p => V.ref p.1) ∧ (∀ p ∈ ks, SqT K H1 p.1 (p.2.map V.int)) ∧ ks.length < 64 ∧ (∀ p ∈ ks, p.2.length = 2) ∧
  ∀ (a p : Addr) (o : HO) (L' : List (Addr × List Int)), H1 a = none → (∀ ps, o ≠ .tbl ps) → (∀ q ∈ L', q ∈ ks) → (∀ q ∈ ks, q.2 ∈ L'.map (·.2)) → (L'.map (·.2)).Nodup → L'.Pairwise (fun q r => dataLe false kqD q r = true) → p ≠ a → H1 p = none →
    Q (.ref p) (upd (upd H1 a o) p (.lst (L'.map fun q => V.ref q.1)))
end
section
variable {G : Gs} {B0 : Hp} {ρ : Ro} {O : Ow} {κ : D → Ow → Prop}
theorem ddAll_ptks {K : PySem.W.Frag} {B : Hp} : ∀ {us : List V} {ps : List Pt}, DdAll K B us (ps.map ptD) → ∃ ks : List (Addr × List Int), us = (ks.map fun q => V.ref q.1) ∧ (ks.map (·.2)) = (ps.map fun p => [p.1, p.2]) ∧ ∀ q ∈ ks, SqT K B q.1 (q.2.map V.int)
  | _, [], .nil => ⟨[], rfl, rfl, fun _ h => nomatch h⟩
  | _ :: us, p :: ps, .cons h t => by
    obtain ⟨a, ys, rfl, sq, dd⟩ := Dd.tup_inv h
    have two : DdAll K B ys ([p.1, p.2].map PyData.int) := dd
    rw [DdAll.ints two] at sq
    obtain ⟨ks, rfl, e2, m⟩ := ddAll_ptks t
    exact ⟨(a, [p.1, p.2]) :: ks, rfl, by rw [List.map_cons, List.map_cons, e2], fun q hq => by
      rcases List.mem_cons.mp hq with rfl | hq
      · exact sq
      · exact m q hq⟩
theorem dd_pt {K : PySem.W.Frag} {B : Hp} {a : Addr} {p : Pt} (h : SqT K B a [.int p.1, .int p.2]) : Dd K B (.ref a) (ptD p) := .tup h (.cons (.int _) (.cons (.int _) .nil))
theorem le_sortP {ta : TA} (h : LA G B0 ta ρ O fun xs O1 => ∃ (x : D) (ps : List Pt), xs = [x] ∧ asPy O1 x = some (.list (ps.map ptD)) ∧ (κ (.py (.list ((ps.mergeSort leL).map ptD))) O1 ∨ ∀ r, O1 r = none → κ (.own r) (oset O1 r ((ps.mergeSort leL).map ptD)))) :
    LE G B0 (tCB (rSortP G.K) ta) ρ O κ := fun B H σ s t Q qq =>
  h B H σ s t _ fun vs xs B1 H1 O1 ⟨x, ps, ex, hx, k⟩ e1 s1 r1 => by
    subst ex
    obtain ⟨v, rfl, rv⟩ := one_inv r1
    obtain ⟨l, us, rfl, hl, hd, _⟩ := lst_of s1 rv hx
    have len : us.length = ps.length := by rw [hd.len, List.length_map]
    have efst : ((us.zip ps).map (·.1)) = us := List.map_fst_zip (by omega)
    refine ⟨l, us.zip ps, rfl, by rw [efst]; exact hl, fun b hb => ?_, fun p hp => ?_⟩
    · obtain ⟨a, ys, e, sq, dd⟩ := Dd.tup_inv (ddAll_zip ptD hd b hb)
      have two : DdAll G.K B1 ys ([b.2.1, b.2.2].map PyData.int) := dd
      rw [DdAll.ints two] at sq
      exact ⟨a, e, ex_t s1.ex sq⟩
    · have z1 := sort_fst us ps (fun z => z)
      have z2 := sort_snd len (fun z => z)
      have e0 : ((us.zip ps).map fun z => (z.1, z.2)) = us.zip ps := by simp
      rw [e0] at z1
      have all : DdAll G.K B1 (((us.zip ps).mergeSort (PySem.W.dataLe false kkD)).map (·.1)) ((ps.mergeSort leL).map ptD) := by
        rw [z1]
        have z3 : ps.mergeSort leL = ((us.zip ps).mergeSort fun a b => leL a.2 b.2).map (·.2) := z2
        rw [z3, List.map_map]
        exact ddAll_map _ _ fun z hz => ddAll_zip ptD hd z (List.mem_mergeSort.mp hz)
      rcases k with k | k
      · obtain ⟨e4, s4⟩ := s1.newB (o := .lst (((us.zip ps).mergeSort (PySem.W.dataLe false kkD)).map (·.1))) hp
        exact qq _ _ _ _ O1 k (e1.trans e4) s4 (show Dd _ _ _ _ from .lst upd_same (DdAll.mono e4 all))
      · have no : O1 p = none := by
          cases ho : O1 p with
          | none => rfl
          | some ds =>
            obtain ⟨_, ws, hw, _⟩ := s1.ow p ds ho
            rw [hp] at hw
            cases hw
        exact qq _ _ _ _ _ (k p no) e1 (s1.newO hp all) rfl
theorem le_sortSet {ta : TA} (h : LA G B0 ta ρ O fun xs O1 => ∃ (x : D) (ps : List Pt), xs = [x] ∧ asPy O1 x = some (.list (ps.map ptD)) ∧ ps.length < 64 ∧
      ((∀ qs : List Pt, qs.Nodup → qs.Pairwise (fun p q => leL p q = true) → (∀ p, p ∈ qs ↔ p ∈ ps) → κ (.py (.list (qs.map ptD))) O1) ∨
       (∀ qs : List Pt, qs.Nodup → qs.Pairwise (fun p q => leL p q = true) → (∀ p, p ∈ qs ↔ p ∈ ps) → ∀ r, O1 r = none → κ (.own r) (oset O1 r (qs.map ptD))))) :
    LE G B0 (tSortSet G.K ta) ρ O κ := fun B H σ s t Q qq =>
  h B H σ s t _ fun vs xs B1 H1 O1 ⟨x, ps, ex, hx, hl64, k⟩ e1 s1 r1 => by
    subst ex
    obtain ⟨v, rfl, rv⟩ := one_inv r1
    obtain ⟨l, us, rfl, hl, hd, _⟩ := lst_of s1 rv hx
    obtain ⟨ks, rfl, e2, m⟩ := ddAll_ptks hd
    have lk : ks.length = ps.length := by
      have z := congrArg List.length e2
      rwa [List.length_map, List.length_map] at z
    have form : ∀ q ∈ ks, ∃ p ∈ ps, q.2 = [p.1, p.2] := fun q hq => by
      have z : q.2 ∈ ks.map (·.2) := List.mem_map.mpr ⟨q, hq, rfl⟩
      rw [e2] at z
      obtain ⟨p, hp, e⟩ := List.mem_map.mp z
      exact ⟨p, hp, e.symm⟩
    refine ⟨l, ks, rfl, hl, fun q hq => ex_t s1.ex (m q hq), by omega, fun q hq => ?_, fun a p o L' na no sub all nd pw pa np => ?_⟩
    · obtain ⟨p, _, e⟩ := form q hq
      rw [e]
      rfl
    · obtain ⟨e3, s3⟩ := s1.newB (o := o) na no
      have np' : upd H1 a o p = none := by rw [upd_ne pa]; exact np
      let f : Addr × List Int → Pt := fun q => (fstL q, sndL q)
      have fe : ∀ q ∈ L', q.2 = [(f q).1, (f q).2] := fun q hq => by
        obtain ⟨p, _, e⟩ := form q (sub q hq)
        show q.2 = [q.2.getD 0 0, q.2.getD 1 0]
        rw [e]
        rfl
      have nd2 : (L'.map f).Nodup := by
        refine List.pairwise_map.mpr (List.Pairwise.imp_of_mem (fun {q r} hq hr hne e => ?_) (List.pairwise_map.mp nd))
        exact hne (by rw [fe q hq, fe r hr, e])
      have pw2 : (L'.map f).Pairwise (fun p q => leL p q = true) := by
        have el : dataLe false kqD = fun (a b : Addr × List Int) => leL (fstL a, sndL a) (fstL b, sndL b) := PySem.W.dataLe_ii fstL sndL
        rw [el] at pw
        exact List.pairwise_map.mpr pw
      have mem : ∀ p, p ∈ L'.map f ↔ p ∈ ps := fun p => by
        constructor
        · intro h
          obtain ⟨q, hq, e⟩ := List.mem_map.mp h
          obtain ⟨p', hp', e'⟩ := form q (sub q hq)
          rw [fe q hq, e] at e'
          injection e' with e5 e6
          injection e6 with e6 _
          have : p = p' := Prod.ext e5 e6
          rw [this]
          exact hp'
        · intro h
          have z : [p.1, p.2] ∈ ks.map (·.2) := by
            rw [e2]
            exact List.mem_map.mpr ⟨p, h, rfl⟩
          obtain ⟨q, hq, e⟩ := List.mem_map.mp z
          obtain ⟨r, hr, e'⟩ := List.mem_map.mp (all q hq)
          refine List.mem_map.mpr ⟨r, hr, ?_⟩
          have e5 := fe r hr
          rw [e', e] at e5
          injection e5 with e5 e6
          injection e6 with e6 _
          exact Prod.ext e5.symm e6.symm
      have dd : DdAll G.K B1 (L'.map fun q => V.ref q.1) ((L'.map f).map ptD) := by
        rw [List.map_map]
        refine ddAll_map _ _ fun q hq => ?_
        have z := m q (sub q hq)
        rw [fe q hq] at z
        exact dd_pt z
      rcases k with k | k
      · obtain ⟨e4, s4⟩ := s3.newB (o := .lst (L'.map fun q => V.ref q.1)) np'
        exact qq _ _ _ _ O1 (k _ nd2 pw2 mem) (e1.trans (e3.trans e4)) s4 (show Dd _ _ _ _ from .lst upd_same (DdAll.mono (e3.trans e4) dd))
      · have no : O1 p = none := by
          cases ho : O1 p with
          | none => rfl
          | some ds =>
            obtain ⟨_, ws, hw, _⟩ := s1.ow p ds ho
            rw [np] at hw
            cases hw
        exact qq _ _ _ _ _ (k _ nd2 pw2 mem p no) (e1.trans e3) (s3.newO np' (DdAll.mono e3 dd)) rfl
end
end DL

namespace DL
open PySem PySem.Spec PyProof.Rows L2 Evl
/-! ## bits, and the root of a number as a law takes it -/
def tBits (to : TE) : TE := fun σ H Q => to σ H fun x H1 => ∃ n : Int, x = .int n ∧ Q (.int (Builtin.Int.intBits n)) H1
section
variable {G : Gs} {B0 : Hp} {ρ : Ro} {O : Ow} {κ : D → Ow → Prop}
theorem le_bits {te : TE} (h : LE G B0 te ρ O fun x O1 => ∃ n : Int, x = .py (.int n) ∧ κ (.py (.int (Builtin.Int.intBits n : Int))) O1) : LE G B0 (tBits te) ρ O κ := fun B H σ s t Q q =>
  h B H σ s t _ fun v x B1 H1 O1 ⟨n, ex, k⟩ e1 s1 r1 => by
    subst ex
    rw [Dd.int_inv r1]
    exact ⟨n, rfl, q _ _ B1 H1 O1 k e1 s1 (show Dd _ _ _ _ from .int _)⟩
end
end DL

namespace DL
open PySem PySem.Spec PyProof.Rows L2 Evl
/-! ## a list that may change, walked by a comprehension that leaves it alone -/
section
variable {G : Gs} {B0 : Hp} {ρ : Ro} {O : Ow} {κ : D → Ow → Prop}
end
end DL

namespace DL
open PySem PySem.Spec PyProof.Rows L2 Evl
/-! ## the lists of numbers that pairs leave free -/
def dotL (xs ys : List Int) : Int := ((xs.zip ys).map fun p => p.1 * p.2).sum
def wiL (f : Int) (xs : List Int) (g : Int) (ys : List Int) : List Int := plainL ((xs.zip ys).map fun p => f * p.1 - g * p.2)
def fstN (ss : List Int) : Option Nat := (List.range ss.length).find? fun i => !decide (ss.getD i 0 = 0)
def narrow (ls : List (List Int)) (t : List Int) : List (List Int) :=
  match fstN (ls.map fun l => dotL l t) with
  | none => ls
  | some g => ((List.range ls.length).filter fun i => !decide (i = g)).map fun i => wiL (dotL (ls.getD g []) t) (ls.getD i []) (dotL (ls.getD i []) t) (ls.getD g [])
def termsL (x y : Pt) : List Int := [x.1 * x.1 * y.1 * y.1, x.1 * y.1 * (x.1 * y.2 + y.1 * x.2), x.1 * x.1 * y.2 * y.2 + y.1 * y.1 * x.2 * x.2, x.1 * x.2 * y.1 * y.2, x.2 * y.2 * (x.1 * y.2 + y.1 * x.2), x.2 * x.2 * y.2 * y.2]
def unitL : List (List Int) := [[1, 0, 0, 0, 0, 0], [0, 1, 0, 0, 0, 0], [0, 0, 1, 0, 0, 0], [0, 0, 0, 1, 0, 0], [0, 0, 0, 0, 1, 0], [0, 0, 0, 0, 0, 1]]
def commonL (ps : List (Pt × Pt)) : List (List Int) := ps.foldl (fun ls p => narrow ls (termsL p.1 p.2)) unitL
/-- six numbers each, none too great -/
def Six (b : Nat) (ls : List (List Int)) : Prop := ∀ l ∈ ls, l.length = 6 ∧ ∀ x ∈ l, x.natAbs < 10 ^ b
theorem Six.le {b c : Nat} {ls : List (List Int)} (h : Six b ls) (e : b ≤ c) : Six c ls := fun l hl => ⟨(h l hl).1, fun x hx => Nat.lt_of_lt_of_le ((h l hl).2 x hx) (ten_mono e)⟩
theorem plain_bd {ns : List Int} {b : Nat} (h : ∀ x ∈ ns, x.natAbs < 10 ^ b) : ∀ x ∈ plainL ns, x.natAbs < 10 ^ b := by
  intro x hx
  obtain ⟨y, hy, rfl⟩ := List.mem_map.mp hx
  have hb := h y hy
  by_cases h0 : plainD ns = 0
  · rw [h0, Int.fdiv_zero]
    exact Nat.lt_of_le_of_lt (Nat.zero_le _) hb
  · refine Nat.lt_of_le_of_lt ?_ hb
    have d : plainD ns ∣ y := plainD_dvd hy
    obtain ⟨k, rfl⟩ := d
    rw [Int.mul_fdiv_cancel_left _ h0, Int.natAbs_mul]
    exact Nat.le_mul_of_pos_left _ (by omega)
theorem sum_bd {b : Nat} : ∀ {ns : List Int}, (∀ x ∈ ns, x.natAbs < 10 ^ b) → ns.sum.natAbs ≤ ns.length * 10 ^ b
  | [], _ => Nat.zero_le _
  | x :: ns, h => by
    have h1 := h x (.head _)
    have h2 := sum_bd fun y hy => h y (.tail _ hy)
    rw [List.sum_cons, List.length_cons, Nat.succ_mul]
    have := Int.natAbs_add_le x ns.sum
    omega
theorem dot_bd {xs ys : List Int} {b : Nat} (hx : xs.length = 6) (bx : ∀ x ∈ xs, x.natAbs < 10 ^ b) (bY : ∀ y ∈ ys, y.natAbs < 10 ^ 34) : (dotL xs ys).natAbs < 10 ^ (b + 35) := by
  have h : ∀ z ∈ (xs.zip ys).map (fun p => p.1 * p.2), z.natAbs < 10 ^ (b + 34) := by
    intro z hz
    obtain ⟨p, hp, rfl⟩ := List.mem_map.mp hz
    obtain ⟨h1, h2⟩ := List.of_mem_zip hp
    exact bd_mul (bx _ h1) (bY _ h2)
  have := sum_bd h
  rw [List.length_map, List.length_zip, hx] at this
  have e : 10 ^ (b + 35) = 10 * 10 ^ (b + 34) := by
    rw [show b + 35 = (b + 34) + 1 by omega, Nat.pow_succ, Nat.mul_comm]
  have p : 0 < 10 ^ (b + 34) := Nat.pow_pos (by decide)
  have m : min 6 ys.length * 10 ^ (b + 34) ≤ 6 * 10 ^ (b + 34) := Nat.mul_le_mul_right _ (Nat.min_le_left _ _)
  unfold dotL
  omega
theorem wi_len {f g : Int} {xs ys : List Int} (hx : xs.length = 6) (hy : ys.length = 6) : (wiL f xs g ys).length = 6 := by
  unfold wiL plainL
  rw [List.length_map, List.length_map, List.length_zip, hx, hy]
  rfl
theorem wi_pre {f g : Int} {xs ys : List Int} {b : Nat} (hf : f.natAbs < 10 ^ (b + 35)) (hg : g.natAbs < 10 ^ (b + 35)) (bx : ∀ x ∈ xs, x.natAbs < 10 ^ b) (bY : ∀ y ∈ ys, y.natAbs < 10 ^ b) :
    ∀ z ∈ (xs.zip ys).map (fun p => f * p.1 - g * p.2), z.natAbs < 10 ^ (2 * b + 36) := by
  intro z hz
  obtain ⟨p, hp, rfl⟩ := List.mem_map.mp hz
  obtain ⟨h1, h2⟩ := List.of_mem_zip hp
  have a1 : (f * p.1).natAbs < 10 ^ (b + 35 + b) := bd_mul hf (bx _ h1)
  have a2 : (g * p.2).natAbs < 10 ^ (b + 35 + b) := bd_mul hg (bY _ h2)
  have e : 10 ^ (2 * b + 36) = 10 * 10 ^ (b + 35 + b) := by
    rw [show 2 * b + 36 = (b + 35 + b) + 1 by omega, Nat.pow_succ, Nat.mul_comm]
  have p : 0 < 10 ^ (b + 35 + b) := Nat.pow_pos (by decide)
  omega
theorem fstN_some {ss : List Int} {g : Nat} (h : fstN ss = some g) : g < ss.length ∧ ss.getD g 0 ≠ 0 := by
  unfold fstN at h
  have h1 := List.find?_some h
  have h2 := List.mem_of_find?_eq_some h
  exact ⟨List.mem_range.mp h2, by simpa using h1⟩
theorem count_but : ∀ (n g : Nat), g < n → ((List.range n).filter fun i => !decide (i = g)).length = n - 1
  | 0, g, h => by omega
  | n + 1, g, h => by
    rw [List.range_succ, List.filter_append, List.length_append]
    by_cases hg : g = n
    · subst hg
      have e : (List.range g).filter (fun i => !decide (i = g)) = List.range g := List.filter_eq_self.mpr fun i hi => by
        have := List.mem_range.mp hi
        rw [decide_eq_false (by omega)]
        rfl
      rw [e, List.length_range]
      simp
    · rw [count_but n g (by omega)]
      rw [List.filter_cons, if_pos (by rw [decide_eq_false (fun z => hg z.symm)]; rfl)]
      simp
      omega
theorem getD_mem {α : Type} {l : List α} {d : α} {i : Nat} (h : i < l.length) : l.getD i d ∈ l := by
  rw [List.getD_eq_getElem?_getD, List.getElem?_eq_getElem h]
  exact List.getElem_mem h
theorem narrow_len {ls : List (List Int)} {t : List Int} : (narrow ls t = ls ∧ fstN (ls.map fun l => dotL l t) = none) ∨ ∃ g, fstN (ls.map fun l => dotL l t) = some g ∧ g < ls.length ∧ (narrow ls t).length = ls.length - 1 := by
  unfold narrow
  cases h : fstN (ls.map fun l => dotL l t) with
  | none => exact .inl ⟨rfl, rfl⟩
  | some g =>
    have := (fstN_some h).1
    rw [List.length_map] at this
    exact .inr ⟨g, rfl, this, by rw [List.length_map, count_but _ _ this]⟩
theorem narrow_six {ls : List (List Int)} {t : List Int} {b : Nat} (h : Six b ls) (ht : ∀ x ∈ t, x.natAbs < 10 ^ 34) : narrow ls t = ls ∨ ((narrow ls t).length + 1 = ls.length ∧ Six (2 * b + 36) (narrow ls t)) := by
  rcases narrow_len (ls := ls) (t := t) with ⟨e, _⟩ | ⟨g, hg, hl, e⟩
  · exact .inl e
  · refine .inr ⟨by omega, ?_⟩
    unfold narrow
    rw [hg]
    intro l hl'
    obtain ⟨i, hi, rfl⟩ := List.mem_map.mp hl'
    have hi := List.mem_range.mp (List.mem_filter.mp hi).1
    obtain ⟨g1, g2⟩ := h _ (getD_mem (d := []) hl)
    obtain ⟨i1, i2⟩ := h _ (getD_mem (d := []) hi)
    exact ⟨wi_len i1 g1, plain_bd (wi_pre (dot_bd g1 g2 ht) (dot_bd i1 i2 ht) i2 g2)⟩
/-- how great the numbers of so many lists may be -/
def bigOf : Nat → Nat
  | 6 => 1
  | 5 => 38
  | 4 => 112
  | 3 => 260
  | 2 => 556
  | 1 => 1148
  | _ => 2332
structure Lists (ls : List (List Int)) : Prop where
  len : ls.length ≤ 6
  six : Six (bigOf ls.length) ls
theorem bigOf_step : ∀ n, n ≤ 6 → 0 < n → 2 * bigOf n + 36 ≤ bigOf (n - 1)
  | 1, _, _ => by decide
  | 2, _, _ => by decide
  | 3, _, _ => by decide
  | 4, _, _ => by decide
  | 5, _, _ => by decide
  | 6, _, _ => by decide
  | 0, _, h => by omega
  | n + 7, h, _ => by omega
theorem Lists.narrow {ls : List (List Int)} {t : List Int} (h : Lists ls) (ht : ∀ x ∈ t, x.natAbs < 10 ^ 34) : Lists (narrow ls t) := by
  rcases narrow_six h.six ht with e | ⟨e, s⟩
  · rw [e]
    exact h
  · have hl := h.len
    refine ⟨by omega, s.le ?_⟩
    have := bigOf_step ls.length hl (by omega)
    rw [show (DL.narrow ls t).length = ls.length - 1 by omega]
    exact this
theorem Lists.unit : Lists unitL := ⟨by decide, by
  intro l hl
  have : l ∈ unitL := hl
  have all : unitL.all (fun l => decide (l.length = 6) && l.all fun x => decide (x.natAbs < 10)) = true := by decide
  have h := List.all_eq_true.mp all l hl
  rw [Bool.and_eq_true, decide_eq_true_eq, List.all_eq_true] at h
  refine ⟨h.1, fun x hx => ?_⟩
  have := h.2 x hx
  rw [decide_eq_true_eq] at this
  exact this⟩
end DL

namespace DL
open PySem PySem.Spec PyProof.Rows L2 Evl
/-! ## try with several clauses, each of which names the error alike -/
/-- a clause: the class it is for, what its suite does with the error -/
abbrev Cl := Value × (Addr → Value → Option Addr → TS)
inductive ClsOk (X : Cx) (n : Str) : List ExceptHandler → List Cl → Prop
  | nil : ClsOk X n [] []
  | cons {x : Str} {k : Cl} {s₁ : Stmt} {suite : List Stmt} {np pos' : Pos} {hs : List ExceptHandler} {ks : List Cl} (hc : Names X x k.1) (hsu : TryS X (s₁ :: suite) k.2) (r : ClsOk X n hs ks) :
      ClsOk X n (.ExceptHandler (some (.Name x np)) (some n) (s₁ :: suite) pos' :: hs) (k :: ks)
section
variable {X : Cx} {n : Str} {i : Nat} {body : List Stmt} {h₀ : ExceptHandler} {hs : List ExceptHandler} {ks : List Cl} {pos : Pos} {tb : WX → TS} {Wout : WX}
end
/-- the clause that takes an error of the class at C -/
inductive Pick (K : PySem.W.Frag) (C : Addr) : List Cl → (Addr → Value → Option Addr → TS) → Prop
  | here {k : Cl} {ks : List Cl} : PySem.W.exmOne K (.ref C) k.1 = some true → Pick K C (k :: ks) k.2
  | next {k : Cl} {ks : List Cl} {ts : Addr → Value → Option Addr → TS} : PySem.W.exmOne K (.ref C) k.1 = some false → Pick K C ks ts → Pick K C (k :: ks) ts
/-! ## texts cut, and read as numbers -/
def rSpl : V → List V → Hp → VK → Prop := fun x xs H Q => ∃ a b, x = .str a ∧ xs = [.str b] ∧ (b.length == 0) = false ∧ a.length + 2 ≤ sizeLine ∧ rNewStrs (Txt.split a b) H Q
section
variable {G : Gs} {B0 : Hp} {ρ : Ro} {O : Ow} {κ : D → Ow → Prop}
theorem ddAll_strs {K : PySem.W.Frag} {B : Hp} : ∀ l : List Str, DdAll K B (l.map V.str) (l.map PyData.str)
  | [] => .nil
  | s :: l => .cons (.str s) (ddAll_strs l)
theorem le_split {to te : TE} (h : LE G B0 to ρ O fun x O1 => ∃ a, x = .py (.str a) ∧ LE G B0 te ρ O1 fun y O2 => ∃ b, y = .py (.str b) ∧ (b.length == 0) = false ∧ a.length + 2 ≤ 100000 ∧ κ (.py (.list ((Txt.split a b).map PyData.str))) O2) :
    LE G B0 (tM1 rSpl to te) ρ O κ := fun B H σ s t Q q =>
  h B H σ s t _ fun v x B1 H1 O1 ⟨a, ex, h1⟩ e1 s1 r1 => by
    subst ex
    rw [Dd.str_inv r1]
    refine ⟨⟨a, rfl⟩, h1 B1 H1 σ s1 (t.mono e1) _ fun w y B2 H2 O2 ⟨b, ey, hb, hl, k⟩ e2 s2 r2 => ?_⟩
    subst ey
    rw [Dd.str_inv r2]
    refine ⟨a, b, rfl, rfl, hb, sz_of hl, fun p hp => ?_⟩
    obtain ⟨e3, s3⟩ := s2.newB (o := .lst ((Txt.split a b).map V.str)) hp
    exact q _ _ _ _ O2 k ((e1.trans e2).trans e3) s3 (show Dd _ _ _ _ from .lst upd_same (ddAll_strs _))
end
end DL

namespace DL
/-! ## how many vectors: sums, dependence, bases of what is 0 on given rows -/
def sm : Nat → (Nat → Int) → Int
  | 0, _ => 0
  | n + 1, f => sm n f + f n
theorem sm_congr : ∀ {n : Nat} {f g : Nat → Int}, (∀ i, i < n → f i = g i) → sm n f = sm n g
  | 0, _, _, _ => rfl
  | n + 1, f, g, h => by
    show sm n f + f n = sm n g + g n
    rw [sm_congr (fun i hi => h i (by omega)), h n (by omega)]
theorem sm_zero : ∀ {n : Nat} {f : Nat → Int}, (∀ i, i < n → f i = 0) → sm n f = 0
  | 0, _, _ => rfl
  | n + 1, f, h => by
    show sm n f + f n = 0
    rw [sm_zero (fun i hi => h i (by omega)), h n (by omega)]
    rfl
theorem sm_add : ∀ {n : Nat} {f g : Nat → Int}, sm n (fun i => f i + g i) = sm n f + sm n g
  | 0, _, _ => rfl
  | n + 1, f, g => by
    show sm n (fun i => f i + g i) + (f n + g n) = (sm n f + f n) + (sm n g + g n)
    rw [sm_add]
    omega
theorem sm_sub : ∀ {n : Nat} {f g : Nat → Int}, sm n (fun i => f i - g i) = sm n f - sm n g
  | 0, _, _ => rfl
  | n + 1, f, g => by
    show sm n (fun i => f i - g i) + (f n - g n) = (sm n f + f n) - (sm n g + g n)
    rw [sm_sub]
    omega
theorem sm_mul {c : Int} : ∀ {n : Nat} {f : Nat → Int}, sm n (fun i => c * f i) = c * sm n f
  | 0, _ => (Int.mul_zero c).symm
  | n + 1, f => by
    show sm n (fun i => c * f i) + c * f n = c * (sm n f + f n)
    rw [sm_mul, Int.mul_add]
theorem sm_swap {m : Nat} : ∀ {n : Nat} {f : Nat → Nat → Int}, sm n (fun i => sm m (fun j => f i j)) = sm m (fun j => sm n (fun i => f i j))
  | 0, f => (sm_zero fun _ _ => rfl).symm
  | n + 1, f => by
    show sm n (fun i => sm m (fun j => f i j)) + sm m (fun j => f n j) = sm m (fun j => sm n (fun i => f i j) + f n j)
    rw [sm_swap, sm_add]
def skp (g i : Nat) : Nat := if i < g then i else i + 1
theorem sm_skp : ∀ {n : Nat} {g : Nat} {f : Nat → Int}, g ≤ n → sm (n + 1) f = f g + sm n (fun i => f (skp g i))
  | 0, g, f, h => by
    have : g = 0 := by omega
    subst this
    show (0 : Int) + f 0 = f 0 + 0
    omega
  | n + 1, g, f, h => by
    show sm (n + 1) f + f (n + 1) = f g + (sm n (fun i => f (skp g i)) + f (skp g n))
    by_cases e : g = n + 1
    · subst e
      have e1 : sm (n + 1) (fun i => f (skp (n + 1) i)) = sm (n + 1) f := sm_congr fun i hi => by
        unfold skp
        rw [if_pos hi]
      have e2 : sm n (fun i => f (skp (n + 1) i)) + f (skp (n + 1) n) = sm (n + 1) f := e1
      rw [e2]
      omega
    · rw [sm_skp (n := n) (g := g) (f := f) (by omega)]
      have : skp g n = n + 1 := by
        unfold skp
        rw [if_neg (by omega)]
      rw [this]
      omega
/-- one more vector than coordinates: they depend on one another -/
theorem dep : ∀ (n : Nat) (v : Nat → Nat → Int), ∃ c : Nat → Int, (∃ i, i ≤ n ∧ c i ≠ 0) ∧ ∀ k, k < n → sm (n + 1) (fun i => c i * v i k) = 0
  | 0, v => ⟨fun _ => 1, ⟨0, Nat.le_refl _, by decide⟩, fun k h => absurd h (by omega)⟩
  | n + 1, v => by
    by_cases h : ∃ g, g ≤ n + 1 ∧ v g n ≠ 0
    · obtain ⟨g, hg, hv⟩ := h
      obtain ⟨d, ⟨j, hj, dj⟩, hd⟩ := dep n (fun i k => v g n * v (skp g i) k - v (skp g i) n * v g k)
      have us : ∀ i, (if skp g i < g then skp g i else skp g i - 1) = i := fun i => by
        unfold skp
        by_cases h : i < g
        · rw [if_pos h, if_pos h]
        · rw [if_neg h, if_neg (by omega)]
          rfl
      have ng : ∀ i, skp g i ≠ g := fun i => by
        unfold skp
        by_cases h : i < g
        · rw [if_pos h]
          omega
        · rw [if_neg h]
          omega
      refine ⟨fun i => if i = g then - sm (n + 1) (fun i => d i * v (skp g i) n) else d (if i < g then i else i - 1) * v g n, ⟨skp g j, ?_, ?_⟩, fun k hk => ?_⟩
      · unfold skp
        split <;> omega
      · show (if skp g j = g then _ else _) ≠ (0 : Int)
        rw [if_neg (ng j), us j]
        exact Int.mul_ne_zero dj hv
      · have e0 : ∀ k, sm (n + 1) (fun i => d i * (v g n * v (skp g i) k - v (skp g i) n * v g k)) = 0 → sm (n + 1 + 1) (fun i => (if i = g then - sm (n + 1) (fun i => d i * v (skp g i) n) else d (if i < g then i else i - 1) * v g n) * v i k) = 0 := fun k hz => by
          rw [sm_skp hg]
          simp only [if_true, if_neg (ng _), us]
          have e1 : sm (n + 1) (fun i => d i * (v g n * v (skp g i) k - v (skp g i) n * v g k)) = sm (n + 1) (fun i => d i * v g n * v (skp g i) k) - sm (n + 1) (fun i => v g k * (d i * v (skp g i) n)) := by
            rw [← sm_sub]
            refine sm_congr fun i _ => ?_
            grind
          rw [sm_mul] at e1
          grind
        by_cases e : k = n
        · subst e
          refine e0 k (sm_zero fun i _ => ?_)
          grind
        · exact e0 k (hd k (by omega))
    · obtain ⟨c, ⟨j, hj, cj⟩, hc⟩ := dep n v
      refine ⟨fun i => if i ≤ n then c i else 0, ⟨j, by omega, by show (if j ≤ n then c j else 0) ≠ 0; rw [if_pos hj]; exact cj⟩, fun k hk => ?_⟩
      by_cases e : k = n
      · subst e
        refine sm_zero fun i hi => ?_
        have : v i k = 0 := Classical.byContradiction fun z => h ⟨i, by omega, z⟩
        rw [this, Int.mul_zero]
      · have h1 := hc k (by omega)
        show sm (n + 1) (fun i => (if i ≤ n then c i else 0) * v i k) + (if n + 1 ≤ n then c (n + 1) else 0) * v (n + 1) k = 0
        rw [if_neg (by omega), Int.zero_mul, Int.add_zero, ← h1]
        refine sm_congr fun i hi => ?_
        rw [if_pos (by omega)]
def dt (v t : Nat → Int) : Int := sm 6 (fun k => v k * t k)
def Sol (T : (Nat → Int) → Prop) (v : Nat → Int) : Prop := ∀ t, T t → dt v t = 0
/-- so many vectors of V that do not depend on one another, of which all others come, but for a factor -/
structure Bas (V : (Nat → Int) → Prop) (n : Nat) (b : Nat → Nat → Int) : Prop where
  mem : ∀ i, i < n → V (b i)
  ind : ∀ c : Nat → Int, (∀ k, k < 6 → sm n (fun i => c i * b i k) = 0) → ∀ i, i < n → c i = 0
  span : ∀ v, V v → ∃ (q : Int) (c : Nat → Int), q ≠ 0 ∧ ∀ k, k < 6 → q * v k = sm n (fun i => c i * b i k)
theorem Bas.le {V : (Nat → Int) → Prop} {n m : Nat} {b b' : Nat → Nat → Int} (h : Bas V n b) (h' : Bas V m b') : n ≤ m := by
  refine Classical.byContradiction fun hn => ?_
  have hx : ∀ i, ∃ (q : Int) (c : Nat → Int), i < n → q ≠ 0 ∧ ∀ k, k < 6 → q * b i k = sm m (fun j => c j * b' j k) := fun i => by
    by_cases hi : i < n
    · obtain ⟨q, c, hq⟩ := h'.span _ (h.mem i hi)
      exact ⟨q, c, fun _ => hq⟩
    · exact ⟨0, fun _ => 0, fun z => absurd z hi⟩
  let q : Nat → Int := fun i => (hx i).choose
  let C : Nat → Nat → Int := fun i => (hx i).choose_spec.choose
  have hC : ∀ i, i < n → q i ≠ 0 ∧ ∀ k, k < 6 → q i * b i k = sm m (fun j => C i j * b' j k) := fun i => (hx i).choose_spec.choose_spec
  obtain ⟨d, ⟨j, hj, dj⟩, hd⟩ := dep m C
  have key : ∀ k, k < 6 → sm n (fun i => (if i ≤ m then d i * q i else 0) * b i k) = 0 := fun k hk => by
    have e1 : ∀ r, r + (m + 1) ≤ n → sm (r + (m + 1)) (fun i => (if i ≤ m then d i * q i else 0) * b i k) = sm (m + 1) (fun i => d i * (q i * b i k)) := fun r => by
      induction r with
      | zero =>
        intro hr
        rw [Nat.zero_add]
        refine sm_congr fun i hi => ?_
        show (if i ≤ m then d i * q i else 0) * b i k = d i * (q i * b i k)
        rw [if_pos (by omega), Int.mul_assoc]
      | succ r ih =>
        intro hr
        rw [show r + 1 + (m + 1) = (r + (m + 1)) + 1 by omega]
        show sm (r + (m + 1)) _ + (if r + (m + 1) ≤ m then _ else 0) * _ = _
        rw [if_neg (by omega), Int.zero_mul, Int.add_zero]
        exact ih (by omega)
    have e2 := e1 (n - (m + 1)) (by omega)
    rw [show n - (m + 1) + (m + 1) = n by omega] at e2
    rw [e2]
    have e3 : sm (m + 1) (fun i => d i * (q i * b i k)) = sm (m + 1) (fun i => sm m (fun j => d i * (C i j * b' j k))) := sm_congr fun i hi => by
      rw [(hC i (by omega)).2 k hk, ← sm_mul]
    rw [e3, sm_swap]
    refine sm_zero fun j hj => ?_
    have e4 : sm (m + 1) (fun i => d i * (C i j * b' j k)) = b' j k * sm (m + 1) (fun i => d i * C i j) := by
      rw [← sm_mul]
      refine sm_congr fun i _ => ?_
      grind
    rw [e4, hd j hj, Int.mul_zero]
  have this : (if j ≤ m then d j * q j else 0) = 0 := h.ind _ key j (by omega)
  rw [if_pos hj] at this
  exact Int.mul_ne_zero dj (hC j (by omega)).1 this
theorem Bas.eq {V : (Nat → Int) → Prop} {n m : Nat} {b b' : Nat → Nat → Int} (h : Bas V n b) (h' : Bas V m b') : n = m := Nat.le_antisymm (h.le h') (h'.le h)
theorem dt_lin {n : Nat} {c : Nat → Int} {b : Nat → Nat → Int} {v t : Nat → Int} {q : Int} (h : ∀ k, k < 6 → q * v k = sm n (fun i => c i * b i k)) : q * dt v t = sm n (fun i => c i * dt (b i) t) := by
  unfold dt
  rw [← sm_mul]
  have e1 : sm 6 (fun k => q * (v k * t k)) = sm 6 (fun k => sm n (fun i => c i * (b i k * t k))) := sm_congr fun k hk => by
    have e2 : sm n (fun i => c i * (b i k * t k)) = t k * sm n (fun i => c i * b i k) := by
      rw [← sm_mul]
      exact sm_congr fun i _ => by grind
    rw [e2, ← h k hk]
    grind
  rw [e1, sm_swap]
  exact sm_congr fun i _ => sm_mul
/-- one more row: nothing new -/
theorem Bas.same {T : (Nat → Int) → Prop} {n : Nat} {b : Nat → Nat → Int} {t : Nat → Int} (h : Bas (Sol T) n b) (h0 : ∀ i, i < n → dt (b i) t = 0) : Bas (Sol fun u => T u ∨ u = t) n b where
  mem := fun i hi u hu => hu.elim (h.mem i hi u) fun e => by
    rw [e]
    exact h0 i hi
  ind := h.ind
  span := fun v hv => h.span v fun u hu => hv u (.inl hu)
/-- one more row: one vector is given up -/
theorem Bas.less {T : (Nat → Int) → Prop} {n : Nat} {b b' : Nat → Nat → Int} {t : Nat → Int} {g : Nat} {p : Nat → Int} (h : Bas (Sol T) (n + 1) b) (hg : g ≤ n) (hf : dt (b g) t ≠ 0) (hp : ∀ i, i < n → p i ≠ 0)
    (hb : ∀ i, i < n → ∀ k, k < 6 → p i * b' i k = dt (b g) t * b (skp g i) k - dt (b (skp g i)) t * b g k) : Bas (Sol fun u => T u ∨ u = t) n b' := by
  have sl : ∀ i, i < n → skp g i < n + 1 := fun i hi => by
    unfold skp
    split <;> omega
  have ng : ∀ i, skp g i ≠ g := fun i => by
    unfold skp
    by_cases h : i < g
    · rw [if_pos h]
      omega
    · rw [if_neg h]
      omega
  have us : ∀ i, (if skp g i < g then skp g i else skp g i - 1) = i := fun i => by
    unfold skp
    by_cases h : i < g
    · rw [if_pos h, if_pos h]
    · rw [if_neg h, if_neg (by omega)]
      rfl
  have dp : ∀ i, i < n → ∀ u, p i * dt (b' i) u = dt (b g) t * dt (b (skp g i)) u - dt (b (skp g i)) t * dt (b g) u := fun i hi u => by
    have e := dt_lin (n := 2) (v := b' i) (q := p i) (t := u) (c := fun j => if j = 0 then dt (b g) t else - dt (b (skp g i)) t) (b := fun j => if j = 0 then b (skp g i) else b g) fun k hk => by
      rw [hb i hi k hk]
      show _ = 0 + dt (b g) t * b (skp g i) k + - dt (b (skp g i)) t * b g k
      grind
    rw [e]
    show 0 + dt (b g) t * dt (b (skp g i)) u + - dt (b (skp g i)) t * dt (b g) u = _
    grind
  refine ⟨fun i hi u hu => ?_, fun c hc i hi => ?_, fun v hv => ?_⟩
  · have e := dp i hi u
    have z : p i * dt (b' i) u = 0 := by
      rw [e]
      rcases hu with hu | rfl
      · rw [h.mem _ (sl i hi) u hu, h.mem g (by omega) u hu]
        grind
      · grind
    exact (Int.mul_eq_zero.mp z).resolve_left (hp i hi)
  · -- multiply by all p
    have hP : ∃ (P : Int) (r : Nat → Int), P ≠ 0 ∧ ∀ i, i < n → P = r i * p i := by
      have go : ∀ m, m ≤ n → ∃ (P : Int) (r : Nat → Int), P ≠ 0 ∧ ∀ i, i < m → P = r i * p i := fun m => by
        induction m with
        | zero => exact fun _ => ⟨1, fun _ => 0, by decide, fun i hi => absurd hi (by omega)⟩
        | succ m ih =>
          intro hm
          obtain ⟨P, r, hP, hr⟩ := ih (by omega)
          refine ⟨P * p m, fun i => if i = m then P else r i * p m, Int.mul_ne_zero hP (hp m (by omega)), fun i hi => ?_⟩
          by_cases e : i = m
          · simp only [e, if_true]
          · simp only [e, if_false]
            rw [hr i (by omega)]
            grind
      exact go n (Nat.le_refl _)
    obtain ⟨P, r, hP, hr⟩ := hP
    have h1 : ∀ k, k < 6 → sm (n + 1) (fun i => (if i = g then - sm n (fun j => c j * r j * dt (b (skp g j)) t) else c (if i < g then i else i - 1) * r (if i < g then i else i - 1) * dt (b g) t) * b i k) = 0 := fun k hk => by
      rw [sm_skp hg]
      simp only [if_true, if_neg (ng _), us]
      have e1 : sm n (fun j => P * (c j * b' j k)) = sm n (fun j => c j * r j * dt (b g) t * b (skp g j) k) - sm n (fun j => b g k * (c j * r j * dt (b (skp g j)) t)) := by
        rw [← sm_sub]
        refine sm_congr fun j hj => ?_
        have a1 := hb j hj k hk
        have a2 := hr j hj
        grind
      rw [sm_mul, hc k hk, sm_mul] at e1
      grind
    have h2 := h.ind _ h1 (skp g i) (sl i hi)
    simp only [if_neg (ng _), us] at h2
    have r0 : r i ≠ 0 := fun z => hP (by rw [hr i hi, z, Int.zero_mul])
    rcases Int.mul_eq_zero.mp h2 with h2 | h2
    · exact (Int.mul_eq_zero.mp h2).resolve_right r0
    · exact absurd h2 hf
  · obtain ⟨q, c, hq, hc⟩ := h.span v fun u hu => hv u (.inl hu)
    refine ⟨dt (b g) t * q, fun i => c (skp g i) * p i, Int.mul_ne_zero hf hq, fun k hk => ?_⟩
    have e1 := hc k hk
    rw [sm_skp hg] at e1
    have e2 := dt_lin (t := t) hc
    rw [hv t (.inr rfl), Int.mul_zero, sm_skp hg] at e2
    have e3 : sm n (fun i => c (skp g i) * p i * b' i k) = sm n (fun i => dt (b g) t * (c (skp g i) * b (skp g i) k)) - sm n (fun i => b g k * (c (skp g i) * dt (b (skp g i)) t)) := by
      rw [← sm_sub]
      refine sm_congr fun i hi => ?_
      have := hb i hi k hk
      grind
    rw [e3, sm_mul, sm_mul]
    grind
/-! ### clearing column by column -/
def un (s : Nat) : Nat → Int := fun k => if k = s then 1 else 0
theorem sm_un : ∀ {n s : Nat} {v : Nat → Int}, s < n → sm n (fun k => v k * un s k) = v s
  | n + 1, s, v, h => by
    show sm n (fun k => v k * un s k) + v n * un s n = v s
    by_cases e : s = n
    · subst e
      rw [sm_zero (n := s) fun i hi => by unfold un; rw [if_neg (by omega), Int.mul_zero]]
      unfold un
      rw [if_pos rfl]
      omega
    · rw [sm_un (by omega)]
      unfold un
      rw [if_neg (fun z => e z.symm)]
      omega
theorem dt_un {s : Nat} {v : Nat → Int} (h : s < 6) : dt v (un s) = v s := sm_un h
/-- 0 ahead of a column, and on all rows -/
def SolC (s : Nat) (T : (Nat → Int) → Prop) : (Nat → Int) → Prop := Sol fun t => T t ∨ ∃ j, j < s ∧ t = un j
theorem SolC.of {s : Nat} {T : (Nat → Int) → Prop} {v : Nat → Int} (h1 : ∀ j, j < s → j < 6 → v j = 0) (hs : s ≤ 6) (h2 : ∀ t, T t → dt v t = 0) : SolC s T v := fun t ht => by
  rcases ht with ht | ⟨j, hj, rfl⟩
  · exact h2 t ht
  · rw [dt_un (by omega)]
    exact h1 j hj (by omega)
theorem SolC.zero {s : Nat} {T : (Nat → Int) → Prop} {v : Nat → Int} (h : SolC s T v) (hs : s ≤ 6) : ∀ j, j < s → v j = 0 := fun j hj => by
  have := h (un j) (.inr ⟨j, hj, rfl⟩)
  rw [dt_un (by omega)] at this
  exact this
theorem SolC.row {s : Nat} {T : (Nat → Int) → Prop} {v : Nat → Int} (h : SolC s T v) : ∀ t, T t → dt v t = 0 := fun t ht => h t (.inl ht)
end DL

namespace DL
open PySem PySem.Spec PyProof.Rows L2 Evl
/-! ## lists as vectors; the lists that pairs leave free are a basis; how many rows do not come of others -/
def vc (r : List Int) : Nat → Int := fun k => r.getD k 0
theorem dot_vc {l t : List Int} (hl : l.length = 6) (ht : t.length = 6) : dotL l t = dt (vc l) (vc t) := by
  match l, t, hl, ht with
  | [a, b, c, d, e, f], [a', b', c', d', e', f'], _, _ =>
    show a * a' + (b * b' + (c * c' + (d * d' + (e * e' + (f * f' + 0))))) = 0 + a * a' + b * b' + c * c' + d * d' + e * e' + f * f'
    omega
theorem nz_nil {ns : List Int} (h : nz ns = []) {x : Int} (hx : x ∈ ns) : x = 0 := by
  unfold nz at h
  have := List.filter_eq_nil_iff.mp h x hx
  simpa using this
theorem getD_or (ns : List Int) (k : Nat) : ns.getD k 0 ∈ ns ∨ ns.length ≤ k := by
  by_cases h : k < ns.length
  · exact .inl (getD_mem h)
  · exact .inr (by omega)
theorem plain_vc (ns : List Int) : ∃ q : Int, q ≠ 0 ∧ ∀ k, q * vc (plainL ns) k = vc ns k := by
  have e : ∀ k, vc (plainL ns) k = (vc ns k).fdiv (plainD ns) := fun k => by
    unfold vc plainL
    rw [List.getD_eq_getElem?_getD, List.getElem?_map, List.getD_eq_getElem?_getD]
    cases ns[k]? with
    | none => exact (Int.zero_fdiv _).symm
    | some x => rfl
  by_cases hz : nz ns = []
  · refine ⟨1, by decide, fun k => ?_⟩
    have h0 : vc ns k = 0 := by
      rcases getD_or ns k with h | h
      · exact nz_nil hz h
      · unfold vc
        rw [List.getD_eq_getElem?_getD, List.getElem?_eq_none h]
        rfl
    rw [e, h0, Int.zero_fdiv]
    rfl
  · refine ⟨plainD ns, plainD_ne hz, fun k => ?_⟩
    rw [e, Int.mul_comm]
    rcases getD_or ns k with h | h
    · exact plain_at hz h
    · unfold vc
      rw [List.getD_eq_getElem?_getD, List.getElem?_eq_none h]
      show (0 : Int).fdiv _ * _ = 0
      rw [Int.zero_fdiv, Int.zero_mul]
theorem but_skp : ∀ {n g : Nat}, g < n → (List.range n).filter (fun i => !decide (i = g)) = (List.range (n - 1)).map (skp g)
  | n + 1, g, h => by
    rw [List.range_succ, List.filter_append]
    by_cases e : g = n
    · subst e
      have e1 : (List.range g).filter (fun i => !decide (i = g)) = List.range g := List.filter_eq_self.mpr fun i hi => by
        have := List.mem_range.mp hi
        rw [decide_eq_false (by omega)]
        rfl
      have e2 : (List.range (g + 1 - 1)).map (skp g) = List.range g := by
        rw [Nat.add_sub_cancel]
        have : (List.range g).map (skp g) = (List.range g).map id := List.map_congr_left fun i hi => by
          have := List.mem_range.mp hi
          unfold skp
          rw [if_pos this]
          rfl
        rw [this, List.map_id]
      rw [e1, e2]
      simp
    · rw [but_skp (n := n) (by omega)]
      obtain ⟨m, rfl⟩ : ∃ m, n = m + 1 := ⟨n - 1, by omega⟩
      rw [Nat.add_sub_cancel, Nat.add_sub_cancel, List.range_succ, List.map_append]
      have : skp g m = m + 1 := by
        unfold skp
        rw [if_neg (by omega)]
      simp [this]
      omega
theorem wi_vc {f g : Int} {xs ys : List Int} (hx : xs.length = 6) (hy : ys.length = 6) : ∃ q : Int, q ≠ 0 ∧ ∀ k, k < 6 → q * vc (wiL f xs g ys) k = f * vc xs k - g * vc ys k := by
  obtain ⟨q, hq, h⟩ := plain_vc ((xs.zip ys).map fun p => f * p.1 - g * p.2)
  refine ⟨q, hq, fun k hk => ?_⟩
  show q * vc (plainL _) k = _
  rw [h k]
  unfold vc
  rw [List.getD_eq_getElem?_getD, List.getElem?_map, List.getD_eq_getElem?_getD, List.getD_eq_getElem?_getD]
  have e : (xs.zip ys)[k]? = some (xs[k]'(by omega), ys[k]'(by omega)) := by
    rw [List.getElem?_zip_eq_some]
    exact ⟨List.getElem?_eq_getElem _, List.getElem?_eq_getElem _⟩
  rw [e, List.getElem?_eq_getElem (by omega), List.getElem?_eq_getElem (by omega)]
  rfl
theorem fstN_none {ss : List Int} (h : fstN ss = none) {i : Nat} (hi : i < ss.length) : ss.getD i 0 = 0 := by
  unfold fstN at h
  have := List.find?_eq_none.mp h i (List.mem_range.mpr hi)
  simpa using this
theorem getD_dots {ls : List (List Int)} {t : List Int} {i : Nat} (h : i < ls.length) : (ls.map fun l => dotL l t).getD i 0 = dotL (ls.getD i []) t := by
  rw [List.getD_eq_getElem?_getD, List.getElem?_map, List.getD_eq_getElem?_getD, List.getElem?_eq_getElem h]
  rfl
theorem Bas.to {V W : (Nat → Int) → Prop} {n : Nat} {b : Nat → Nat → Int} (h : Bas V n b) (e : ∀ v, V v ↔ W v) : Bas W n b := by
  have : V = W := funext fun v => propext (e v)
  rw [← this]
  exact h
theorem narrow_bas {T : (Nat → Int) → Prop} {ls : List (List Int)} {t : List Int} (h6 : ∀ l ∈ ls, l.length = 6) (t6 : t.length = 6) (h : Bas (Sol T) ls.length (fun i => vc (ls.getD i []))) :
    Bas (Sol fun u => T u ∨ u = vc t) (narrow ls t).length (fun i => vc ((narrow ls t).getD i [])) := by
  unfold narrow
  cases hf : fstN (ls.map fun l => dotL l t) with
  | none =>
    refine h.same fun i hi => ?_
    rw [← dot_vc (h6 _ (getD_mem hi)) t6, ← getD_dots hi]
    exact fstN_none hf (by rw [List.length_map]; exact hi)
  | some g =>
    obtain ⟨gl, gn⟩ := fstN_some hf
    rw [List.length_map] at gl
    rw [getD_dots gl] at gn
    simp only
    rw [but_skp gl, List.map_map, List.length_map, List.length_range]
    obtain ⟨n, hn⟩ : ∃ n, ls.length = n + 1 := ⟨ls.length - 1, by omega⟩
    rw [hn] at h gl
    rw [hn, Nat.add_sub_cancel]
    have sl : ∀ i, i < n → skp g i < ls.length := fun i hi => by
      unfold skp
      split <;> omega
    have hx : ∀ i, ∃ q : Int, i < n → q ≠ 0 ∧ ∀ k, k < 6 → q * vc (wiL (dotL (ls.getD g []) t) (ls.getD (skp g i) []) (dotL (ls.getD (skp g i) []) t) (ls.getD g [])) k = dotL (ls.getD g []) t * vc (ls.getD (skp g i) []) k - dotL (ls.getD (skp g i) []) t * vc (ls.getD g []) k := fun i => by
      by_cases hi : i < n
      · obtain ⟨q, hq⟩ := wi_vc (f := dotL (ls.getD g []) t) (g := dotL (ls.getD (skp g i) []) t) (h6 _ (getD_mem (d := []) (sl i hi))) (h6 _ (getD_mem (d := []) (show g < ls.length by omega)))
        exact ⟨q, fun _ => hq⟩
      · exact ⟨0, fun z => absurd z hi⟩
    have eg := dot_vc (h6 _ (getD_mem (d := []) (show g < ls.length by omega))) t6
    refine h.less (g := g) (p := fun i => (hx i).choose) (by omega) (by rw [← eg]; exact gn) (fun i hi => ((hx i).choose_spec hi).1) fun i hi k hk => ?_
    have e1 : ((List.range n).map ((fun i => wiL (dotL (ls.getD g []) t) (ls.getD i []) (dotL (ls.getD i []) t) (ls.getD g [])) ∘ skp g)).getD i [] = wiL (dotL (ls.getD g []) t) (ls.getD (skp g i) []) (dotL (ls.getD (skp g i) []) t) (ls.getD g []) := by
      rw [List.getD_eq_getElem?_getD, List.getElem?_map, List.getElem?_range hi]
      rfl
    rw [e1, ← eg, ← dot_vc (h6 _ (getD_mem (d := []) (sl i hi))) t6]
    exact ((hx i).choose_spec hi).2 k hk
theorem narrow_6 {ls : List (List Int)} {t : List Int} (h6 : ∀ l ∈ ls, l.length = 6) : ∀ l ∈ narrow ls t, l.length = 6 := by
  unfold narrow
  cases hf : fstN (ls.map fun l => dotL l t) with
  | none => exact h6
  | some g =>
    obtain ⟨gl, _⟩ := fstN_some hf
    rw [List.length_map] at gl
    intro l hl
    obtain ⟨i, hi, rfl⟩ := List.mem_map.mp hl
    have hi := List.mem_range.mp (List.mem_filter.mp hi).1
    exact wi_len (h6 _ (getD_mem hi)) (h6 _ (getD_mem gl))
theorem terms_6 (x y : Pt) : (termsL x y).length = 6 := rfl
def TP (ps : List (Pt × Pt)) : (Nat → Int) → Prop := fun t => ∃ p ∈ ps, t = vc (termsL p.1 p.2)
theorem unit_bas : Bas (Sol fun _ => False) unitL.length (fun i => vc (unitL.getD i [])) := by
  have e : ∀ i k, i < 6 → k < 6 → vc (unitL.getD i []) k = un i k := fun i k hi hk => by
    have hi' : i = 0 ∨ i = 1 ∨ i = 2 ∨ i = 3 ∨ i = 4 ∨ i = 5 := by omega
    have hk' : k = 0 ∨ k = 1 ∨ k = 2 ∨ k = 3 ∨ k = 4 ∨ k = 5 := by omega
    rcases hi' with rfl | rfl | rfl | rfl | rfl | rfl <;> rcases hk' with rfl | rfl | rfl | rfl | rfl | rfl <;> rfl
  have s6 : ∀ (c : Nat → Int) k, k < 6 → sm 6 (fun i => c i * vc (unitL.getD i []) k) = c k := fun c k hk => by
    rw [sm_congr (g := fun i => c i * un k i) fun i hi => by
      rw [e i k hi hk]
      unfold un
      by_cases h : k = i
      · rw [if_pos h, if_pos h.symm]
      · rw [if_neg h, if_neg fun z => h z.symm], sm_un hk]
  refine ⟨fun i hi t ht => ht.elim, fun c hc i hi => ?_, fun v _ => ⟨1, v, by decide, fun k hk => ?_⟩⟩
  · rw [← s6 c i hi]
    exact hc i hi
  · rw [show unitL.length = 6 from rfl, s6 v k hk, Int.one_mul]
theorem common_bas (ps : List (Pt × Pt)) : (∀ l ∈ commonL ps, l.length = 6) ∧ Bas (Sol (TP ps)) (commonL ps).length (fun i => vc ((commonL ps).getD i [])) := by
  have go : ∀ (ps : List (Pt × Pt)) (ls : List (List Int)) (T : (Nat → Int) → Prop), (∀ l ∈ ls, l.length = 6) → Bas (Sol T) ls.length (fun i => vc (ls.getD i [])) →
      (∀ l ∈ ps.foldl (fun ls p => narrow ls (termsL p.1 p.2)) ls, l.length = 6) ∧ Bas (Sol fun u => T u ∨ TP ps u) (ps.foldl (fun ls p => narrow ls (termsL p.1 p.2)) ls).length (fun i => vc ((ps.foldl (fun ls p => narrow ls (termsL p.1 p.2)) ls).getD i [])) := by
    intro ps
    induction ps with
    | nil =>
      intro ls T h6 h
      refine ⟨h6, h.to fun v => ?_⟩
      constructor
      · intro hv t ht
        rcases ht with ht | ⟨p, hp, _⟩
        · exact hv t ht
        · cases hp
      · exact fun hv t ht => hv t (.inl ht)
    | cons p ps ih =>
      intro ls T h6 h
      obtain ⟨i1, i2⟩ := ih (narrow ls (termsL p.1 p.2)) (fun u => T u ∨ u = vc (termsL p.1 p.2)) (narrow_6 h6) (narrow_bas h6 (terms_6 _ _) h)
      refine ⟨i1, i2.to fun v => ?_⟩
      constructor
      · intro hv t ht
        rcases ht with ht | ⟨q, hq, rfl⟩
        · exact hv t (.inl (.inl ht))
        · rcases List.mem_cons.mp hq with rfl | hq
          · exact hv _ (.inl (.inr rfl))
          · exact hv _ (.inr ⟨q, hq, rfl⟩)
      · intro hv t ht
        rcases ht with (ht | rfl) | ⟨q, hq, rfl⟩
        · exact hv t (.inl ht)
        · exact hv _ (.inr ⟨p, .head _, rfl⟩)
        · exact hv _ (.inr ⟨q, .tail _ hq, rfl⟩)
  obtain ⟨h1, h2⟩ := go ps unitL (fun _ => False) (by decide) unit_bas
  refine ⟨h1, h2.to fun v => ?_⟩
  constructor
  · exact fun hv t ht => hv t (.inr ht)
  · exact fun hv t ht => hv t (ht.resolve_left id)
/-! ### the law's own way -/
def elimR (s : Nat) (h r : List Int) : List Int := (r.zip h).map fun p => h.getD s 0 * p.1 - r.getD s 0 * p.2
structure RowsAt (s B : Nat) (L : List (List Int)) : Prop where
  six : ∀ r ∈ L, r.length = 6
  zero : ∀ r ∈ L, ∀ j, j < s → r.getD j 0 = 0
  bd : ∀ r ∈ L, ∀ x ∈ r, x.natAbs < 10 ^ B
theorem elim_len {s : Nat} {h r : List Int} (h1 : h.length = 6) (h2 : r.length = 6) : (elimR s h r).length = 6 := by
  unfold elimR
  rw [List.length_map, List.length_zip, h1, h2]
  rfl
theorem elim_vc {s : Nat} {h r : List Int} (h1 : h.length = 6) (h2 : r.length = 6) {k : Nat} (hk : k < 6) : vc (elimR s h r) k = h.getD s 0 * vc r k - r.getD s 0 * vc h k := by
  unfold vc elimR
  rw [List.getD_eq_getElem?_getD, List.getElem?_map, List.getD_eq_getElem?_getD, List.getD_eq_getElem?_getD, List.getD_eq_getElem?_getD, List.getD_eq_getElem?_getD]
  have e : (r.zip h)[k]? = some (r[k]'(by omega), h[k]'(by omega)) := by
    rw [List.getElem?_zip_eq_some]
    exact ⟨List.getElem?_eq_getElem _, List.getElem?_eq_getElem _⟩
  rw [e, List.getElem?_eq_getElem (show k < r.length by omega), List.getElem?_eq_getElem (show k < h.length by omega)]
  rfl
end DL

namespace DL
open PySem PySem.Spec PyProof.Rows L2 Evl
/-! ## texts of plain signs, shown again as texts -/
def Asc (s : Str) : Prop := ∀ c ∈ s.cps.toList, c < 128
theorem repr_char : ∀ q, q = 34 ∨ q = 39 → ∀ c, c < 128 → (Builtin.Str.reprChar q c).length ≤ 4 := by
  have h : ∀ c : Fin 128, (Builtin.Str.reprChar 34 c.val).length ≤ 4 ∧ (Builtin.Str.reprChar 39 c.val).length ≤ 4 := by decide +kernel
  rintro q (rfl | rfl) c hc
  · exact (h ⟨c, hc⟩).1
  · exact (h ⟨c, hc⟩).2
theorem repr_fold (q : Nat) (hq : q = 34 ∨ q = 39) : ∀ (l : List Nat) (a : Array Nat), (∀ c ∈ l, c < 128) → (l.foldl (fun out c => out ++ (Builtin.Str.reprChar q c).toArray) a).size ≤ a.size + 4 * l.length
  | [], a, _ => Nat.le_refl _
  | c :: l, a, h => by
    have h1 := repr_fold q hq l (a ++ (Builtin.Str.reprChar q c).toArray) fun d hd => h d (.tail _ hd)
    have h2 := repr_char q hq c (h c (.head _))
    have e : (Builtin.Str.reprChar q c).toArray.size = (Builtin.Str.reprChar q c).length := rfl
    rw [Array.size_append, e] at h1
    rw [List.foldl_cons, List.length_cons]
    omega
theorem repr_len {s : Str} (h : Asc s) : (reprText s).length ≤ 4 * s.length + 2 := by
  have hq : reprQuote s = 34 ∨ reprQuote s = 39 := by
    unfold reprQuote
    split
    · exact .inl rfl
    · exact .inr rfl
  have h1 := repr_fold (reprQuote s) hq s.cps.toList #[reprQuote s] h
  show (reprText s).cps.size ≤ 4 * s.cps.size + 2
  unfold reprText
  rw [Array.size_push, ← Array.foldl_toList]
  rw [show (#[reprQuote s] : Array Nat).size = 1 from rfl, Array.length_toList] at h1
  omega
/-- a shown thing, as a text in a list -/
theorem Sho.again {n k : Nat} {d : PyData} (h : Sho n k d) (a : Asc d.shown) : Sho (4 * n + 2) 0 (.str d.shown) := ⟨trivial, by
  have h1 := okR_len h.ok
  have h2 := repr_len a
  have h3 := h.sz
  rw [szR]
  omega, by rw [PyData.depth]; exact Nat.le_refl _⟩
end DL

namespace DL
open PySem PySem.Spec PyProof.Rows L2 Evl
/-! ## try with several clauses, of which each names the error alike or not at all -/
/-- a clause: the class it is for, whether it names the error, what its suite does -/
abbrev ClU := Value × Bool × (Addr → Value → Option Addr → TS)
inductive ClsOkU (X : Cx) (i : Nat) : List ExceptHandler → List ClU → Prop
  | nil : ClsOkU X i [] []
  | named {n x : Str} {v : Value} {ts : Addr → Value → Option Addr → TS} {s₁ : Stmt} {suite : List Stmt} {np pos' : Pos} {hs : List ExceptHandler} {ks : List ClU} (h4 : X.N[i]? = some n) (h5 : X.env.kindOf n = some .local) (hc : Names X x v) (hsu : TryS X (s₁ :: suite) ts) (r : ClsOkU X i hs ks) :
      ClsOkU X i (.ExceptHandler (some (.Name x np)) (some n) (s₁ :: suite) pos' :: hs) ((v, true, ts) :: ks)
  | bare {x : Str} {v : Value} {ts : Addr → Value → Option Addr → TS} {s₁ : Stmt} {suite : List Stmt} {np pos' : Pos} {hs : List ExceptHandler} {ks : List ClU} (hc : Names X x v) (hsu : TryS X (s₁ :: suite) ts) (r : ClsOkU X i hs ks) :
      ClsOkU X i (.ExceptHandler (some (.Name x np)) none (s₁ :: suite) pos' :: hs) ((v, false, ts) :: ks)
section
variable {X : Cx} {i : Nat} {body : List Stmt} {h₀ : ExceptHandler} {hs : List ExceptHandler} {ks : List ClU} {pos : Pos} {tb : WX → TS} {Wout : WX}
end
/-- the clause that takes an error of the class at C -/
inductive PickU (K : PySem.W.Frag) (C : Addr) : List ClU → Bool × (Addr → Value → Option Addr → TS) → Prop
  | here {k : ClU} {ks : List ClU} : PySem.W.exmOne K (.ref C) k.1 = some true → PickU K C (k :: ks) k.2
  | next {k : ClU} {ks : List ClU} {ts : Bool × (Addr → Value → Option Addr → TS)} : PySem.W.exmOne K (.ref C) k.1 = some false → PickU K C ks ts → PickU K C (k :: ks) ts
end DL

namespace DL
open PySem PySem.Spec PyProof.Rows L2 Evl
/-! ## quotients of any size: nothing watches divisions -/
def CDivP : Int → Int → Prop := fun _ j => j ≠ 0
def rFdivP : R2 := rI CDivP fun i j => .int (i.fdiv j)
/-- the frame in which a division stands -/
def Stk (l : List Env) : Prop := ∃ env r, l = env :: r ∧ env.scope.isGenerator = false ∧ env.scope.isCoroutine = false ∧ env.builtins = builtinsNs ∧ env.globals = mainGlobals
theorem op_fdivP {X : Cx} (ns : X.base.NoSeer) (ht : X.prog.given.tree = none) (hr : Room 35 X.A) (hs : Stk X.stack) : OpR X (binaryOp .FloorDiv) rFdivP := by
  rintro pins s σ H x y v u Q I rx ry ⟨i, j, rfl, rfl, hc, q⟩
  obtain ⟨t, rfl⟩ := rx
  obtain ⟨t', rfl⟩ := ry
  obtain ⟨env, r, es, g1, g2, g3, g4⟩ := hs
  have hd := hr.dp
  refine floordiv_int hc ⟨.int (i.fdiv j), H, I.tok _, ⟨_, rfl⟩, q⟩ (.inr (PylongRoom.of I.nolimit ?_ (SeerAt.of (env := env) (l := r) (ns.keeps fun b o e => (I.bs b o e).1) ht ?_ g1 g2 g3 g4)))
  · show X.A.depth + 100 < recursionLimit
    omega
  · rw [I.ok.frames, es]
section
variable {G : Gs} {B0 : Hp} {ρ : Ro} {O : Ow} {κ : D → Ow → Prop}
theorem lr_fdivP {i j : Int} (c : j ≠ 0) (k : κ (.py (.int (i.fdiv j))) O) : LR G B0 rFdivP (.py (.int i)) (.py (.int j)) O κ := lr_I c k
end
section
variable {P : Program} {w : World} {K : PySem.W.Frag} {mg mb : Str → Option Value} {k : Nat} {fa a : Addr} {fd : FuncData} {x : Str} {sp : Sp} {t1 : Shared} {vs : List Value} {ns : List Int}
theorem hid_seer {H : Hp} (h : t1.heap.NoSeer) (keep : ∀ {b : Addr} {m : Str → Option Value}, t1.heap.Ns b m → (hidT t1.heap H).Ns b m) (md : ∀ b o, t1.heap.get? b = some o → o.cls = .type "module" → H b = none) : (hidT t1.heap H).NoSeer := by
  obtain ⟨⟨mc, a1, a2, a3⟩, ⟨mm, b1, b2⟩, ⟨mb, c1, c2⟩, ⟨mg, bm, ob, d1, d2, d3, d4, d5⟩⟩ := h
  exact ⟨⟨mc, keep a1, a2, a3⟩, ⟨mm, keep b1, b2⟩, ⟨mb, keep c1, c2⟩, ⟨mg, bm, ob, keep d1, d2, hidT_get d3 (md bm ob d3 d4), d4, d5⟩⟩
theorem lawGS (inK : K.In t1.heap) (hns : t1.heap.Ns mainGlobals mg) (hb : t1.heap.Ns builtinsNs mb) (hbb : ∀ x : Str, x ≠ "__name__" → mb x = bootBuiltins x) (hlim : t1.heap.NoLimit) (hg : t1.gens = #[]) (hse : t1.heap.NoSeer)
    (ha : t1.heap.get? a = some { cls := .type "list", data := .seq vs.toArray }) (hi : IntsAre vs ns) (hl : ns.length ≤ sizeLine) (hr : Room k callerA)
    (F : ∀ base : Heap, K.In base → base.Ns mainGlobals mg → base.NoSeer → FnG P w K mg base CX0 k fa fd [x] sp) (bind : ∀ (s : Shared) (u : Value), BindsTo s fd ⟨[u], []⟩ [(x, u)])
    (want : ∀ H : Hp, Only H → SqL K H a (ns.map V.int) → sp [.ref a] H (fun v _ => v = .bl true) fun _ _ _ => False) :
    codeAny (model P w) callerA (.call (.ref fa) ⟨[.ref a], []⟩) (fun r s' => r = .ok (.ret (.bool true)) ∧ OldK t1.heap s'.heap ∧ s'.os = t1.os ∧ AllBare s'.gens) t1 := by
  have rv := vals_ints hi
  have main : ∀ H : Hp, Only H → SqL K H a (ns.map V.int) → HOk P w H t1.heap → (∀ b, H b ≠ none → b = a) → (H a ≠ none → K.lookup a = none) →
      codeAny (model P w) callerA (.call (.ref fa) ⟨[.ref a], []⟩) (fun r s' => r = .ok (.ret (.bool true)) ∧ OldK t1.heap s'.heap ∧ s'.os = t1.os ∧ AllBare s'.gens) t1 := by
    intro H hO hS hok only noK
    have inB : K.In (hidT t1.heap H) := fun b o e => hidT_get (inK b o e) (by
      cases q : H b with
      | none => rfl
      | some u =>
        have eb : b = a := only b (by rw [q]; exact fun z => nomatch z)
        subst eb
        rw [noK (by rw [q]; exact fun z => nomatch z)] at e
        cases e)
    have gB := hid_ns ha only hns
    have md : Mod K mg (hidT t1.heap H) := ⟨inB, gB, ⟨mb, hid_ns ha only hb, hbb⟩, by
      obtain ⟨mc, h1, h2⟩ := hlim
      exact ⟨mc, hid_ns ha only h1, h2⟩⟩
    have ee : Env0 P w K mg (hidT t1.heap H) callerA [] t1 H := ⟨rfl, md, fun b o e => of_hidT e, Nat.le_of_eq (hidT_size _ _), trivial, fun b z => absurd (show b ∈ ([] : List Addr) from z) List.not_mem_nil, hok, .of_eq hg⟩
    refine codeAny_mono ((F _ inB gB (hid_seer hse (fun n => hid_ns ha only n) fun b o e ec => by
      cases q : H b with
      | none => rfl
      | some u =>
        rw [only b (by rw [q]; exact fun z => nomatch z), ha] at e
        cases e
        simp at ec)).go callerA [] t1 H ⟨[.ref a], []⟩ [.ref a] [.ref a] _ _ rfl hr ee (bind t1 (.ref a)) (.cons rfl .nil) (want H hO hS)) fun res s' h => ?_
    rcases res with e | fl
    · exact False.elim h
    · rcases fl with _ | _ | _ | u
      · exact False.elim h
      · exact False.elim h
      · exact False.elim h
      · obtain ⟨v, H', ho, hbr, un, hok', rv', ev⟩ := h
        subst ev
        cases rv'
        refine ⟨rfl, OldK.of_keep fun b o e => ?_, ho, hbr⟩
        cases z : H b with
        | none => exact un.keep b o e z (fun m => absurd (show b ∈ ([] : List Addr) from m) List.not_mem_nil) List.not_mem_nil
        | some y =>
          obtain y0 | ⟨ob, xs, y1⟩ := hO b
          · rw [y0] at z
            cases z
          · have kept := (hok' b _ (un.frzs b ob _ y1)).1
            have was := (hok b _ y1).1
            rw [e] at was
            cases was
            exact kept
  have cnt : vs.toArray.size ≤ sizeLine := by
    rw [List.size_toArray, hi.length]
    exact hl
  rcases hk : K.lookup a with _ | o
  · let H : Hp := fun b => if b = a then some (.frz { cls := .type "list", data := .seq vs.toArray } (.lst (ns.map V.int))) else none
    have hH : H a = some (.frz { cls := .type "list", data := .seq vs.toArray } (.lst (ns.map V.int))) := if_pos rfl
    have off : ∀ b, b ≠ a → H b = none := fun b hb => if_neg hb
    refine main H (fun b => ?_) (.inl (.inr ⟨_, hH⟩)) (fun b u z => ?_) (fun b z => ?_) fun _ => hk
    · by_cases e : b = a
      · exact .inr ⟨_, _, e ▸ hH⟩
      · exact .inl (off b e)
    · by_cases e : b = a
      · subst e
        rw [hH] at z
        cases z
        exact ⟨ha, by rw [List.length_map]; exact hl, vs, _, rv, ha⟩
      · rw [off b e] at z
        cases z
    · by_cases e : b = a
      · exact e
      · exact absurd (off b e) z
  · have same := inK a o hk
    rw [ha] at same
    cases same
    exact main (fun _ => none) (fun _ => .inl rfl) (.inr ⟨_, vs.toArray, _, hk, rfl, rfl, rfl, cnt, rv⟩) (fun b u z => nomatch z) (fun b z => absurd rfl z) fun z => absurd rfl z
end
theorem walkGS {l : PySem.W.OpenLaw} {n k : Nat} {q : Program} {loose : List Str} {XP : (Str → Option Value) → Heap → Prop} {YP : World → Heap → Prop} {d : DefRec} {K : Params → PySem.W.Frag} {sp : World → Sp} {x : Str} (hn : l.most = some n) (hn2 : n ≤ sizeLine)
    (him : PyProof.Rows.importsNone q = true) (hdf : d.params.defaults = []) (hr : Room k callerA) (hY : ∀ (w : World) (h : Heap), YP w h → (K w.params).In h)
    (F : ∀ (w : World) (mg : Str → Option Value) (fa : Addr) (h : Heap), (K w.params).In h → h.Ns mainGlobals mg → mg d.name = some (.ref fa) → ∃ fd : FuncData, (∀ (s : Shared) (u : Value), BindsTo s fd ⟨[u], []⟩ [(x, u)]) ∧
      ∀ base : Heap, (K w.params).In base → base.Ns mainGlobals mg → base.NoSeer → FnG l.prog w (K w.params) mg base CX0 k fa fd [x] (sp w))
    (want : ∀ (w : World) (H : Hp) (a : Addr) (ns : List Int), ns.length ≤ n → Only H → SqL (K w.params) H a (ns.map V.int) → sp w [.ref a] H (fun v _ => v = .bl true) fun _ _ _ => False) :
    PySem.W.WalkO q loose XP YP l.row.toRowW d [] (fun f vs => PySem.call f vs) := by
  refine Att.attach_call hn hdf fun w s0 s1 mg mb fa o pm cd doc a vs ns gr y ho hd hcd hmg hobj hints hlen hg => ?_
  obtain ⟨fd, bind, hF⟩ := F w mg fa _ (hY w _ y) gr.T.g hmg
  exact lawGS (hY w _ y) gr.T.g gr.T.b gr.T.builtins gr.T.nolimit hg (gr.T.seer him) hobj hints (Nat.le_trans hlen hn2) hr hF bind fun H hO hS => want w H a ns hlen hO hS
section
variable {P : Program} {w : World} {K : PySem.W.Frag} {mg mb : Str → Option Value} {k : Nat} {fa a c p : Addr} {fd : FuncData} {x : Str} {sp : Sp} {t1 : Shared} {vs : List Value} {ns : List Int}
end
end DL

namespace DL
/-! ## steps of a relation: what is the same whatever the coordinates; the identities in the coordinates of two neighbours -/
def Qd (d4 d3 d2 d1 d0 : Int) (x : Int × Int) : Int := d4*x.1*x.1*x.1*x.1+d3*x.1*x.1*x.1*x.2+d2*x.1*x.1*x.2*x.2+d1*x.1*x.2*x.2*x.2+d0*x.2*x.2*x.2*x.2
def Wd (d4 d3 d2 d1 d0 : Int) (x y : Int × Int) : Int := 6*d0*x.2*x.2*y.2*y.2+3*d1*x.1*x.2*y.2*y.2+3*d1*x.2*x.2*y.1*y.2+d2*x.1*x.1*y.2*y.2+4*d2*x.1*x.2*y.1*y.2+d2*x.2*x.2*y.1*y.1+3*d3*x.1*x.1*y.1*y.2+3*d3*x.1*x.2*y.1*y.1+6*d4*x.1*x.1*y.1*y.1
def wd (x y : Int × Int) : Int := x.1*y.2-x.2*y.1

def Vd (d4 d3 d2 d1 d0 : Int) (x y : Int × Int) : Int := -(24*d0*d2*x.2*x.2*y.2*y.2 + 36*d0*d3*x.1*x.2*y.2*y.2 + 36*d0*d3*x.2*x.2*y.1*y.2 + 36*d0*d4*x.1*x.1*y.2*y.2 + 72*d0*d4*x.1*x.2*y.1*y.2 + 36*d0*d4*x.2*x.2*y.1*y.1 - 9*d1*d1*x.2*x.2*y.2*y.2 - 6*d1*d2*x.1*x.2*y.2*y.2 - 6*d1*d2*x.2*x.2*y.1*y.2 + 18*d1*d3*x.1*x.2*y.1*y.2 + 36*d1*d4*x.1*x.1*y.1*y.2 + 36*d1*d4*x.1*x.2*y.1*y.1 - d2*d2*x.1*x.1*y.2*y.2 - 10*d2*d2*x.1*x.2*y.1*y.2 - d2*d2*x.2*x.2*y.1*y.1 - 6*d2*d3*x.1*x.1*y.1*y.2 - 6*d2*d3*x.1*x.2*y.1*y.1 + 24*d2*d4*x.1*x.1*y.1*y.1 - 9*d3*d3*x.1*x.1*y.1*y.1)

theorem Vd_W (d4 d3 d2 d1 d0 : Int) (x y : Int × Int) : 2*Vd d4 d3 d2 d1 d0 x y = Wd (3*d3*d3-8*d4*d2) (4*(d3*d2-6*d4*d1)) (2*(2*d2*d2-24*d4*d0-3*d3*d1)) (4*(d2*d1-6*d3*d0)) (3*d1*d1-8*d2*d0) x y - 2*(12*d4*d0-3*d3*d1+d2*d2)*wd x y*wd x y := by
  unfold Vd Wd wd
  grind
theorem Wd_sq (d4 d3 d2 d1 d0 : Int) (x y : Int × Int) : Wd d4 d3 d2 d1 d0 x y * Wd d4 d3 d2 d1 d0 x y - 36*Qd d4 d3 d2 d1 d0 x*Qd d4 d3 d2 d1 d0 y = wd x y*wd x y*Vd d4 d3 d2 d1 d0 x y := by
  unfold Wd Vd Qd wd
  grind
theorem Wd_mul (k d4 d3 d2 d1 d0 : Int) (x y : Int × Int) : Wd (k*d4) (k*d3) (k*d2) (k*d1) (k*d0) x y = k*Wd d4 d3 d2 d1 d0 x y := by
  unfold Wd
  grind
theorem Qd_mul (k d4 d3 d2 d1 d0 : Int) (x : Int × Int) : Qd (k*d4) (k*d3) (k*d2) (k*d1) (k*d0) x = k*Qd d4 d3 d2 d1 d0 x := by
  unfold Qd
  grind
theorem Vd_mul (k d4 d3 d2 d1 d0 : Int) (x y : Int × Int) : Vd (k*d4) (k*d3) (k*d2) (k*d1) (k*d0) x y = k*k*Vd d4 d3 d2 d1 d0 x y := by
  unfold Vd
  grind
theorem Wd_comm (d4 d3 d2 d1 d0 : Int) (x y : Int × Int) : Wd d4 d3 d2 d1 d0 x y = Wd d4 d3 d2 d1 d0 y x := by
  unfold Wd
  grind
theorem Vd_comm (d4 d3 d2 d1 d0 : Int) (x y : Int × Int) : Vd d4 d3 d2 d1 d0 x y = Vd d4 d3 d2 d1 d0 y x := by
  unfold Vd
  grind
theorem Wd_self (d4 d3 d2 d1 d0 : Int) (x : Int × Int) : Wd d4 d3 d2 d1 d0 x x = 6*Qd d4 d3 d2 d1 d0 x := by
  unfold Wd Qd
  grind
theorem Wd_scale (d4 d3 d2 d1 d0 k l : Int) (x y : Int × Int) : Wd d4 d3 d2 d1 d0 (k*x.1, k*x.2) (l*y.1, l*y.2) = k*k*(l*l)*Wd d4 d3 d2 d1 d0 x y := by
  unfold Wd
  grind
theorem Vd_scale (d4 d3 d2 d1 d0 k l : Int) (x y : Int × Int) : Vd d4 d3 d2 d1 d0 (k*x.1, k*x.2) (l*y.1, l*y.2) = k*k*(l*l)*Vd d4 d3 d2 d1 d0 x y := by
  unfold Vd
  grind
theorem Qd_scale (d4 d3 d2 d1 d0 k : Int) (x : Int × Int) : Qd d4 d3 d2 d1 d0 (k*x.1, k*x.2) = k*k*(k*k)*Qd d4 d3 d2 d1 d0 x := by
  unfold Qd
  grind
theorem wd_scale (k l : Int) (x y : Int × Int) : wd (k*x.1, k*x.2) (l*y.1, l*y.2) = k*l*wd x y := by
  unfold wd
  grind
theorem Vd_self1 (d4 d3 d2 d1 d0 : Int) (x : Int × Int) : Vd d4 d3 d2 d1 d0 x x*(x.2*x.2) = 9*((4*d4*(x.1*x.1*x.1)+3*d3*(x.1*x.1*x.2)+2*d2*(x.1*x.2*x.2)+d1*(x.2*x.2*x.2))*(4*d4*(x.1*x.1*x.1)+3*d3*(x.1*x.1*x.2)+2*d2*(x.1*x.2*x.2)+d1*(x.2*x.2*x.2))) - Qd d4 d3 d2 d1 d0 x*(24*(d2*(x.2*x.2)+3*d3*(x.1*x.2)+6*d4*(x.1*x.1))) := by
  unfold Vd Qd
  grind

/-- a form of degree four in the coordinates of y and z -/
def e4 (d4 d3 d2 d1 d0 : Int) (y z : Int × Int) : Int := d4*y.1*y.1*y.1*y.1+d3*y.1*y.1*y.1*y.2+d2*y.1*y.1*y.2*y.2+d1*y.1*y.2*y.2*y.2+d0*y.2*y.2*y.2*y.2
def e3 (d4 d3 d2 d1 d0 : Int) (y z : Int × Int) : Int := 4*d4*y.1*y.1*y.1*z.1+d3*(3*y.1*y.1*z.1*y.2+y.1*y.1*y.1*z.2)+d2*(2*y.1*z.1*y.2*y.2+2*y.1*y.1*y.2*z.2)+d1*(z.1*y.2*y.2*y.2+3*y.1*y.2*y.2*z.2)+4*d0*y.2*y.2*y.2*z.2
def e2 (d4 d3 d2 d1 d0 : Int) (y z : Int × Int) : Int := 6*d4*y.1*y.1*z.1*z.1+d3*(3*y.1*z.1*z.1*y.2+3*y.1*y.1*z.1*z.2)+d2*(z.1*z.1*y.2*y.2+4*y.1*z.1*y.2*z.2+y.1*y.1*z.2*z.2)+d1*(3*z.1*y.2*y.2*z.2+3*y.1*y.2*z.2*z.2)+6*d0*y.2*y.2*z.2*z.2
def e1 (d4 d3 d2 d1 d0 : Int) (y z : Int × Int) : Int := 4*d4*y.1*z.1*z.1*z.1+d3*(z.1*z.1*z.1*y.2+3*y.1*z.1*z.1*z.2)+d2*(2*z.1*z.1*y.2*z.2+2*y.1*z.1*z.2*z.2)+d1*(3*z.1*y.2*z.2*z.2+y.1*z.2*z.2*z.2)+4*d0*y.2*z.2*z.2*z.2
def e0 (d4 d3 d2 d1 d0 : Int) (y z : Int × Int) : Int := d4*z.1*z.1*z.1*z.1+d3*z.1*z.1*z.1*z.2+d2*z.1*z.1*z.2*z.2+d1*z.1*z.2*z.2*z.2+d0*z.2*z.2*z.2*z.2
abbrev lin (x y z : Int × Int) : Int × Int := (x.1*y.1+x.2*z.1, x.1*y.2+x.2*z.2)

theorem Qd_cov (d4 d3 d2 d1 d0 : Int) (y z x : Int × Int) : Qd (e4 d4 d3 d2 d1 d0 y z) (e3 d4 d3 d2 d1 d0 y z) (e2 d4 d3 d2 d1 d0 y z) (e1 d4 d3 d2 d1 d0 y z) (e0 d4 d3 d2 d1 d0 y z) x = Qd d4 d3 d2 d1 d0 (lin x y z) := by
  unfold Qd e4 e3 e2 e1 e0
  grind
theorem Wd_cov (d4 d3 d2 d1 d0 : Int) (y z x w : Int × Int) : Wd (e4 d4 d3 d2 d1 d0 y z) (e3 d4 d3 d2 d1 d0 y z) (e2 d4 d3 d2 d1 d0 y z) (e1 d4 d3 d2 d1 d0 y z) (e0 d4 d3 d2 d1 d0 y z) x w = Wd d4 d3 d2 d1 d0 (lin x y z) (lin w y z) := by
  unfold Wd e4 e3 e2 e1 e0
  grind
theorem wd_cov (y z x w : Int × Int) : wd (lin x y z) (lin w y z) = wd y z*wd x w := by
  unfold wd
  grind
theorem I_cov (d4 d3 d2 d1 d0 : Int) (y z : Int × Int) : 12*e4 d4 d3 d2 d1 d0 y z*e0 d4 d3 d2 d1 d0 y z-3*e3 d4 d3 d2 d1 d0 y z*e1 d4 d3 d2 d1 d0 y z+e2 d4 d3 d2 d1 d0 y z*e2 d4 d3 d2 d1 d0 y z = wd y z*wd y z*(wd y z*wd y z)*(12*d4*d0-3*d3*d1+d2*d2) := by
  simp only [wd, e4, e3, e2, e1, e0]
  grind
theorem J_cov (d4 d3 d2 d1 d0 : Int) (y z : Int × Int) : 72*e4 d4 d3 d2 d1 d0 y z*e2 d4 d3 d2 d1 d0 y z*e0 d4 d3 d2 d1 d0 y z+9*e3 d4 d3 d2 d1 d0 y z*e2 d4 d3 d2 d1 d0 y z*e1 d4 d3 d2 d1 d0 y z-27*e4 d4 d3 d2 d1 d0 y z*e1 d4 d3 d2 d1 d0 y z*e1 d4 d3 d2 d1 d0 y z-27*e3 d4 d3 d2 d1 d0 y z*e3 d4 d3 d2 d1 d0 y z*e0 d4 d3 d2 d1 d0 y z-2*e2 d4 d3 d2 d1 d0 y z*e2 d4 d3 d2 d1 d0 y z*e2 d4 d3 d2 d1 d0 y z = wd y z*wd y z*(wd y z*wd y z)*(wd y z*wd y z)*(72*d4*d2*d0+9*d3*d2*d1-27*d4*d1*d1-27*d3*d3*d0-2*d2*d2*d2) := by
  simp only [wd, e4, e3, e2, e1, e0]
  grind

theorem H4_cov (d4 d3 d2 d1 d0 : Int) (y z : Int × Int) : (3*(e3 d4 d3 d2 d1 d0 y z)*(e3 d4 d3 d2 d1 d0 y z)-8*(e4 d4 d3 d2 d1 d0 y z)*(e2 d4 d3 d2 d1 d0 y z)) = wd y z*wd y z*e4 (3*d3*d3-8*d4*d2) (4*(d3*d2-6*d4*d1)) (2*(2*d2*d2-24*d4*d0-3*d3*d1)) (4*(d2*d1-6*d3*d0)) (3*d1*d1-8*d2*d0) y z := by
  simp only [wd, e4, e3, e2, e1, e0]
  grind

theorem H3_cov (d4 d3 d2 d1 d0 : Int) (y z : Int × Int) : (4*((e3 d4 d3 d2 d1 d0 y z)*(e2 d4 d3 d2 d1 d0 y z)-6*(e4 d4 d3 d2 d1 d0 y z)*(e1 d4 d3 d2 d1 d0 y z))) = wd y z*wd y z*e3 (3*d3*d3-8*d4*d2) (4*(d3*d2-6*d4*d1)) (2*(2*d2*d2-24*d4*d0-3*d3*d1)) (4*(d2*d1-6*d3*d0)) (3*d1*d1-8*d2*d0) y z := by
  simp only [wd, e4, e3, e2, e1, e0]
  grind

theorem H2_cov (d4 d3 d2 d1 d0 : Int) (y z : Int × Int) : (2*(2*(e2 d4 d3 d2 d1 d0 y z)*(e2 d4 d3 d2 d1 d0 y z)-24*(e4 d4 d3 d2 d1 d0 y z)*(e0 d4 d3 d2 d1 d0 y z)-3*(e3 d4 d3 d2 d1 d0 y z)*(e1 d4 d3 d2 d1 d0 y z))) = wd y z*wd y z*e2 (3*d3*d3-8*d4*d2) (4*(d3*d2-6*d4*d1)) (2*(2*d2*d2-24*d4*d0-3*d3*d1)) (4*(d2*d1-6*d3*d0)) (3*d1*d1-8*d2*d0) y z := by
  simp only [wd, e4, e3, e2, e1, e0]
  grind

theorem H1_cov (d4 d3 d2 d1 d0 : Int) (y z : Int × Int) : (4*((e2 d4 d3 d2 d1 d0 y z)*(e1 d4 d3 d2 d1 d0 y z)-6*(e3 d4 d3 d2 d1 d0 y z)*(e0 d4 d3 d2 d1 d0 y z))) = wd y z*wd y z*e1 (3*d3*d3-8*d4*d2) (4*(d3*d2-6*d4*d1)) (2*(2*d2*d2-24*d4*d0-3*d3*d1)) (4*(d2*d1-6*d3*d0)) (3*d1*d1-8*d2*d0) y z := by
  simp only [wd, e4, e3, e2, e1, e0]
  grind

theorem H0_cov (d4 d3 d2 d1 d0 : Int) (y z : Int × Int) : (3*(e1 d4 d3 d2 d1 d0 y z)*(e1 d4 d3 d2 d1 d0 y z)-8*(e2 d4 d3 d2 d1 d0 y z)*(e0 d4 d3 d2 d1 d0 y z)) = wd y z*wd y z*e0 (3*d3*d3-8*d4*d2) (4*(d3*d2-6*d4*d1)) (2*(2*d2*d2-24*d4*d0-3*d3*d1)) (4*(d2*d1-6*d3*d0)) (3*d1*d1-8*d2*d0) y z := by
  simp only [wd, e4, e3, e2, e1, e0]
  grind

theorem Vd_cov (d4 d3 d2 d1 d0 : Int) (y z x w : Int × Int) : Vd (e4 d4 d3 d2 d1 d0 y z) (e3 d4 d3 d2 d1 d0 y z) (e2 d4 d3 d2 d1 d0 y z) (e1 d4 d3 d2 d1 d0 y z) (e0 d4 d3 d2 d1 d0 y z) x w = wd y z*wd y z*Vd d4 d3 d2 d1 d0 (lin x y z) (lin w y z) := by
  have h1 := Vd_W (e4 d4 d3 d2 d1 d0 y z) (e3 d4 d3 d2 d1 d0 y z) (e2 d4 d3 d2 d1 d0 y z) (e1 d4 d3 d2 d1 d0 y z) (e0 d4 d3 d2 d1 d0 y z) x w
  have h2 := Vd_W d4 d3 d2 d1 d0 (lin x y z) (lin w y z)
  rw [H4_cov, H3_cov, H2_cov, H1_cov, H0_cov, I_cov, Wd_mul, Wd_cov] at h1
  rw [wd_cov] at h2
  grind

/-- six numbers in the coordinates of y and z -/
def m1 (a b c d e f : Int) (y z : Int × Int) : Int := a*y.1*y.1*y.1*y.1 + 2*b*y.1*y.1*y.1*y.2 + (2*c+d)*y.1*y.1*y.2*y.2+2*e*y.1*y.2*y.2*y.2+f*y.2*y.2*y.2*y.2
def m2 (a b c d e f : Int) (y z : Int × Int) : Int := 2*a*y.1*y.1*y.1*z.1 + b*(y.1*y.1*y.1*z.2+3*y.1*y.1*y.2*z.1) + (2*c+d)*(y.1*y.1*y.2*z.2+y.1*y.2*y.2*z.1)+e*(y.2*y.2*y.2*z.1+3*y.1*y.2*y.2*z.2)+2*f*y.2*y.2*y.2*z.2
def m3 (a b c d e f : Int) (y z : Int × Int) : Int := a*y.1*y.1*z.1*z.1 + b*y.1*z.1*(y.1*z.2+z.1*y.2)+c*(y.1*y.1*z.2*z.2+z.1*z.1*y.2*y.2)+d*y.1*y.2*z.1*z.2+e*y.2*z.2*(y.1*z.2+z.1*y.2)+f*y.2*y.2*z.2*z.2
def m4 (a b c d e f : Int) (y z : Int × Int) : Int := 4*a*y.1*y.1*z.1*z.1 + 4*b*y.1*z.1*(y.1*z.2+z.1*y.2)+8*c*y.1*y.2*z.1*z.2+d*(y.1*z.2+z.1*y.2)*(y.1*z.2+z.1*y.2)+4*e*y.2*z.2*(y.1*z.2+z.1*y.2)+4*f*y.2*y.2*z.2*z.2
def m5 (a b c d e f : Int) (y z : Int × Int) : Int := 2*a*z.1*z.1*z.1*y.1 + b*(z.1*z.1*z.1*y.2+3*z.1*z.1*z.2*y.1) + (2*c+d)*(z.1*z.1*z.2*y.2+z.1*z.2*z.2*y.1)+e*(z.2*z.2*z.2*y.1+3*z.1*z.2*z.2*y.2)+2*f*z.2*z.2*z.2*y.2
def m6 (a b c d e f : Int) (y z : Int × Int) : Int := a*z.1*z.1*z.1*z.1 + 2*b*z.1*z.1*z.1*z.2 + (2*c+d)*z.1*z.1*z.2*z.2+2*e*z.1*z.2*z.2*z.2+f*z.2*z.2*z.2*z.2

theorem D4_cov (a b c d e f : Int) (y z : Int × Int) : ((m2 a b c d e f y z)*(m2 a b c d e f y z)-4*(m1 a b c d e f y z)*(m3 a b c d e f y z)) = wd y z*wd y z*e4 (b*b-4*a*c) (2*b*d-4*a*e-4*b*c) (d*d-2*b*e-4*a*f-4*c*c) (2*d*e-4*b*f-4*c*e) (e*e-4*c*f) y z := by
  simp only [wd, e4, e3, e2, e1, e0, m1, m2, m3, m4, m5, m6]
  grind

theorem D3_cov (a b c d e f : Int) (y z : Int × Int) : (2*(m2 a b c d e f y z)*(m4 a b c d e f y z)-4*(m1 a b c d e f y z)*(m5 a b c d e f y z)-4*(m2 a b c d e f y z)*(m3 a b c d e f y z)) = wd y z*wd y z*e3 (b*b-4*a*c) (2*b*d-4*a*e-4*b*c) (d*d-2*b*e-4*a*f-4*c*c) (2*d*e-4*b*f-4*c*e) (e*e-4*c*f) y z := by
  simp only [wd, e4, e3, e2, e1, e0, m1, m2, m3, m4, m5, m6]
  grind

theorem D2_cov (a b c d e f : Int) (y z : Int × Int) : ((m4 a b c d e f y z)*(m4 a b c d e f y z)-2*(m2 a b c d e f y z)*(m5 a b c d e f y z)-4*(m1 a b c d e f y z)*(m6 a b c d e f y z)-4*(m3 a b c d e f y z)*(m3 a b c d e f y z)) = wd y z*wd y z*e2 (b*b-4*a*c) (2*b*d-4*a*e-4*b*c) (d*d-2*b*e-4*a*f-4*c*c) (2*d*e-4*b*f-4*c*e) (e*e-4*c*f) y z := by
  simp only [wd, e4, e3, e2, e1, e0, m1, m2, m3, m4, m5, m6]
  grind

theorem D1_cov (a b c d e f : Int) (y z : Int × Int) : (2*(m4 a b c d e f y z)*(m5 a b c d e f y z)-4*(m2 a b c d e f y z)*(m6 a b c d e f y z)-4*(m3 a b c d e f y z)*(m5 a b c d e f y z)) = wd y z*wd y z*e1 (b*b-4*a*c) (2*b*d-4*a*e-4*b*c) (d*d-2*b*e-4*a*f-4*c*c) (2*d*e-4*b*f-4*c*e) (e*e-4*c*f) y z := by
  simp only [wd, e4, e3, e2, e1, e0, m1, m2, m3, m4, m5, m6]
  grind

theorem D0_cov (a b c d e f : Int) (y z : Int × Int) : ((m5 a b c d e f y z)*(m5 a b c d e f y z)-4*(m3 a b c d e f y z)*(m6 a b c d e f y z)) = wd y z*wd y z*e0 (b*b-4*a*c) (2*b*d-4*a*e-4*b*c) (d*d-2*b*e-4*a*f-4*c*c) (2*d*e-4*b*f-4*c*e) (e*e-4*c*f) y z := by
  simp only [wd, e4, e3, e2, e1, e0, m1, m2, m3, m4, m5, m6]
  grind

theorem X_cov (a b c d e f : Int) (y z : Int × Int) : ((m4 a b c d e f y z)-2*(m3 a b c d e f y z))*((m4 a b c d e f y z)-10*(m3 a b c d e f y z))+4*((m2 a b c d e f y z)*(m5 a b c d e f y z)-(m1 a b c d e f y z)*(m6 a b c d e f y z)) = wd y z*wd y z*(wd y z*wd y z)*((d-2*c)*(d-10*c)+4*(b*e-a*f)) := by
  simp only [wd, m1, m2, m3, m4, m5, m6]
  grind

theorem bend_Y (a b c d e f D4 D3 D2 D1 D0 I J Y : Int) (h4 : D4 = b*b-4*a*c) (h3 : D3 = 2*b*d-4*a*e-4*b*c) (h2 : D2 = d*d-2*b*e-4*a*f-4*c*c) (h1 : D1 = 2*d*e-4*b*f-4*c*e) (h0 : D0 = e*e-4*c*f)
  (hI : I = 12*D4*D0-3*D3*D1+D2*D2) (hJ : J = 72*D4*D2*D0+9*D3*D2*D1-27*D4*D1*D1-27*D3*D3*D0-2*D2*D2*D2) (hY : Y = 4*a*c*f-a*e*e-b*b*f-2*b*c*e+b*d*e-4*c*c*c+4*c*c*d-c*d*d) :
  4*I*I*I-J*J = 6912*Y*Y*(4*b*b*c*c*e*e-8*a*c*c*c*e*e+4*b*b*c*d*e*e-12*a*c*c*d*e*e+b*b*d*d*e*e-6*a*c*d*d*e*e-a*d*d*d*e*e-16*b*b*b*e*e*e+36*a*b*c*e*e*e+18*a*b*d*e*e*e-27*a*a*e*e*e*e-8*b*b*c*c*c*f+16*a*c*c*c*c*f-12*b*b*c*c*d*f+32*a*c*c*c*d*f-6*b*b*c*d*d*f+24*a*c*c*d*d*f-b*b*d*d*d*f+8*a*c*d*d*d*f+a*d*d*d*d*f+36*b*b*b*c*e*f-80*a*b*c*c*e*f+18*b*b*b*d*e*f-80*a*b*c*d*e*f-20*a*b*d*d*e*f-6*a*b*b*e*e*f+72*a*a*c*e*e*f+36*a*a*d*e*e*f-27*b*b*b*b*f*f+72*a*b*b*c*f*f-32*a*a*c*c*f*f+36*a*b*b*d*f*f-32*a*a*c*d*f*f-8*a*a*d*d*f*f-48*a*a*b*e*f*f+16*a*a*a*f*f*f) := by
  subst h4 h3 h2 h1 h0
  subst hI hJ hY
  grind
theorem X_Y (a b c d e f D4 D3 D2 D1 D0 I J X Y : Int) (h4 : D4 = b*b-4*a*c) (h3 : D3 = 2*b*d-4*a*e-4*b*c) (h2 : D2 = d*d-2*b*e-4*a*f-4*c*c) (h1 : D1 = 2*d*e-4*b*f-4*c*e) (h0 : D0 = e*e-4*c*f)
  (hI : I = 12*D4*D0-3*D3*D1+D2*D2) (hJ : J = 72*D4*D2*D0+9*D3*D2*D1-27*D4*D1*D1-27*D3*D3*D0-2*D2*D2*D2) (hX : X = (d-2*c)*(d-10*c)+4*(b*e-a*f)) (hY : Y = 4*a*c*f-a*e*e-b*b*f-2*b*c*e+b*d*e-4*c*c*c+4*c*c*d-c*d*d) : X*X*X-3*I*X-J = 432*Y*Y := by
  subst h4 h3 h2 h1 h0
  subst hI hJ hX hY
  grind
end DL

namespace DL
theorem n_p11e (a b d e f p q D4 D3 D2 D1 D0 H4 H3 H2 H1 H0 I J X Y Dx w0 w1 w2 V1 V2 em zz Gy Gx t0 t1 : Int)
  (h4 : D4 = b*b) (h3 : D3 = 2*b*d-4*a*e) (h2 : D2 = d*d-2*b*e-4*a*f) (h1 : D1 = 2*d*e-4*b*f) (h0 : D0 = e*e)
  (k4 : H4 = 3*D3*D3-8*D4*D2) (k3 : H3 = 4*(D3*D2-6*D4*D1)) (k2 : H2 = 2*(2*D2*D2-24*D4*D0-3*D3*D1)) (k1 : H1 = 4*(D2*D1-6*D3*D0)) (k0 : H0 = 3*D1*D1-8*D2*D0)
  (hI : I = 12*D4*D0-3*D3*D1+D2*D2) (hJ : J = 72*D4*D2*D0+9*D3*D2*D1-27*D4*D1*D1-27*D3*D3*D0-2*D2*D2*D2)
  (hX : X = d*d+4*(b*e-a*f)) (hY : Y = -a*e*e-b*b*f+b*d*e)
  (hDx : Dx = D4*p*p*p*p+D3*p*p*p*q+D2*p*p*q*q+D1*p*q*q*q+D0*q*q*q*q)
  (hw0 : w0 = (6*D0*q*q*0*0+3*D1*p*q*0*0+3*D1*q*q*1*0+D2*p*p*0*0+4*D2*p*q*1*0+D2*q*q+3*D3*p*p*1*0+3*D3*p*q+6*D4*p*p)) (hw1 : w1 = 6*D0*q*q+3*D1*p*q+D2*p*p) (hem : em = -(b*b*b-a*b*d+a*a*e)) (hzz : zz = p*a+q*b)
  (hw2 : w2 = (6*D0*q*q*a*a+3*D1*p*q*a*a+3*D1*q*q*(-b)*a+D2*p*p*a*a+4*D2*p*q*(-b)*a+D2*q*q*(-b)*(-b)+3*D3*p*p*(-b)*a+3*D3*p*q*(-b)*(-b)+6*D4*p*p*(-b)*(-b)))
  (hV1 : V1 = -(24*D0*D2*q*q+36*D0*D3*p*q+36*D0*D4*p*p-9*D1*D1*q*q-6*D1*D2*p*q-D2*D2*p*p))
  (hV2 : V2 = (-(24*D0*D2*q*q*a*a + 36*D0*D3*p*q*a*a + 36*D0*D3*q*q*(-b)*a + 36*D0*D4*p*p*a*a + 72*D0*D4*p*q*(-b)*a + 36*D0*D4*q*q*(-b)*(-b) - 9*D1*D1*q*q*a*a - 6*D1*D2*p*q*a*a - 6*D1*D2*q*q*(-b)*a + 18*D1*D3*p*q*(-b)*a + 36*D1*D4*p*p*(-b)*a + 36*D1*D4*p*q*(-b)*(-b) - D2*D2*p*p*a*a - 10*D2*D2*p*q*(-b)*a - D2*D2*q*q*(-b)*(-b) - 6*D2*D3*p*p*(-b)*a - 6*D2*D3*p*q*(-b)*(-b) + 24*D2*D4*p*p*(-b)*(-b) - 9*D3*D3*p*p*(-b)*(-b))))
  (hGy : Gy = 4*D4*p+D3*q) (hGx : Gx = 4*D4*p*p*p+3*D3*p*p*q+2*D2*p*q*q+D1*q*q*q)
  (ht0 : t0 = 432*Y*q*b*Gx) (ht1 : t1 = 432*Y*q*Gy) :
  2*(w0*w0+Dx*(36*b*b)-2*X*w0*(q*q)+X*X*(q*q*q*q))*w1+2*(12*w0*b-12*X*b*(q*q))*(6*e)*Dx+(-2*X*(w0*w0+Dx*(36*b*b))+(6*I-2*X*X)*w0*(q*q)+(6*I*X+4*J)*(q*q*q*q))*(p*p)-((p*p)*t0) = 0 := by
  subst h4 h3 h2 h1 h0
  subst k4 k3 k2 k1 k0
  subst hI hJ hX hY hDx hw0 hw1 hem hzz hw2 hV1 hV2 hGy hGx ht0 ht1
  grind

theorem n_p11o (a b d e f p q D4 D3 D2 D1 D0 H4 H3 H2 H1 H0 I J X Y Dx w0 w1 w2 V1 V2 em zz Gy Gx t0 t1 : Int)
  (h4 : D4 = b*b) (h3 : D3 = 2*b*d-4*a*e) (h2 : D2 = d*d-2*b*e-4*a*f) (h1 : D1 = 2*d*e-4*b*f) (h0 : D0 = e*e)
  (k4 : H4 = 3*D3*D3-8*D4*D2) (k3 : H3 = 4*(D3*D2-6*D4*D1)) (k2 : H2 = 2*(2*D2*D2-24*D4*D0-3*D3*D1)) (k1 : H1 = 4*(D2*D1-6*D3*D0)) (k0 : H0 = 3*D1*D1-8*D2*D0)
  (hI : I = 12*D4*D0-3*D3*D1+D2*D2) (hJ : J = 72*D4*D2*D0+9*D3*D2*D1-27*D4*D1*D1-27*D3*D3*D0-2*D2*D2*D2)
  (hX : X = d*d+4*(b*e-a*f)) (hY : Y = -a*e*e-b*b*f+b*d*e)
  (hDx : Dx = D4*p*p*p*p+D3*p*p*p*q+D2*p*p*q*q+D1*p*q*q*q+D0*q*q*q*q)
  (hw0 : w0 = (6*D0*q*q*0*0+3*D1*p*q*0*0+3*D1*q*q*1*0+D2*p*p*0*0+4*D2*p*q*1*0+D2*q*q+3*D3*p*p*1*0+3*D3*p*q+6*D4*p*p)) (hw1 : w1 = 6*D0*q*q+3*D1*p*q+D2*p*p) (hem : em = -(b*b*b-a*b*d+a*a*e)) (hzz : zz = p*a+q*b)
  (hw2 : w2 = (6*D0*q*q*a*a+3*D1*p*q*a*a+3*D1*q*q*(-b)*a+D2*p*p*a*a+4*D2*p*q*(-b)*a+D2*q*q*(-b)*(-b)+3*D3*p*p*(-b)*a+3*D3*p*q*(-b)*(-b)+6*D4*p*p*(-b)*(-b)))
  (hV1 : V1 = -(24*D0*D2*q*q+36*D0*D3*p*q+36*D0*D4*p*p-9*D1*D1*q*q-6*D1*D2*p*q-D2*D2*p*p))
  (hV2 : V2 = (-(24*D0*D2*q*q*a*a + 36*D0*D3*p*q*a*a + 36*D0*D3*q*q*(-b)*a + 36*D0*D4*p*p*a*a + 72*D0*D4*p*q*(-b)*a + 36*D0*D4*q*q*(-b)*(-b) - 9*D1*D1*q*q*a*a - 6*D1*D2*p*q*a*a - 6*D1*D2*q*q*(-b)*a + 18*D1*D3*p*q*(-b)*a + 36*D1*D4*p*p*(-b)*a + 36*D1*D4*p*q*(-b)*(-b) - D2*D2*p*p*a*a - 10*D2*D2*p*q*(-b)*a - D2*D2*q*q*(-b)*(-b) - 6*D2*D3*p*p*(-b)*a - 6*D2*D3*p*q*(-b)*(-b) + 24*D2*D4*p*p*(-b)*(-b) - 9*D3*D3*p*p*(-b)*(-b))))
  (hGy : Gy = 4*D4*p+D3*q) (hGx : Gx = 4*D4*p*p*p+3*D3*p*p*q+2*D2*p*q*q+D1*q*q*q)
  (ht0 : t0 = 432*Y*q*b*Gx) (ht1 : t1 = 432*Y*q*Gy) :
  2*(w0*w0+Dx*(36*b*b)-2*X*w0*(q*q)+X*X*(q*q*q*q))*(6*e)+2*(12*w0*b-12*X*b*(q*q))*w1+(-24*X*w0*b+(6*I-2*X*X)*(6*b)*(q*q))*(p*p)-((p*p)*t1) = 0 := by
  subst h4 h3 h2 h1 h0
  subst k4 k3 k2 k1 k0
  subst hI hJ hX hY hDx hw0 hw1 hem hzz hw2 hV1 hV2 hGy hGx ht0 ht1
  grind

theorem n_p12e (a b d e f p q D4 D3 D2 D1 D0 H4 H3 H2 H1 H0 I J X Y Dx w0 w1 w2 V1 V2 em zz Gy Gx t0 t1 : Int)
  (h4 : D4 = b*b) (h3 : D3 = 2*b*d-4*a*e) (h2 : D2 = d*d-2*b*e-4*a*f) (h1 : D1 = 2*d*e-4*b*f) (h0 : D0 = e*e)
  (k4 : H4 = 3*D3*D3-8*D4*D2) (k3 : H3 = 4*(D3*D2-6*D4*D1)) (k2 : H2 = 2*(2*D2*D2-24*D4*D0-3*D3*D1)) (k1 : H1 = 4*(D2*D1-6*D3*D0)) (k0 : H0 = 3*D1*D1-8*D2*D0)
  (hI : I = 12*D4*D0-3*D3*D1+D2*D2) (hJ : J = 72*D4*D2*D0+9*D3*D2*D1-27*D4*D1*D1-27*D3*D3*D0-2*D2*D2*D2)
  (hX : X = d*d+4*(b*e-a*f)) (hY : Y = -a*e*e-b*b*f+b*d*e)
  (hDx : Dx = D4*p*p*p*p+D3*p*p*p*q+D2*p*p*q*q+D1*p*q*q*q+D0*q*q*q*q)
  (hw0 : w0 = (6*D0*q*q*0*0+3*D1*p*q*0*0+3*D1*q*q*1*0+D2*p*p*0*0+4*D2*p*q*1*0+D2*q*q+3*D3*p*p*1*0+3*D3*p*q+6*D4*p*p)) (hw1 : w1 = 6*D0*q*q+3*D1*p*q+D2*p*p) (hem : em = -(b*b*b-a*b*d+a*a*e)) (hzz : zz = p*a+q*b)
  (hw2 : w2 = (6*D0*q*q*a*a+3*D1*p*q*a*a+3*D1*q*q*(-b)*a+D2*p*p*a*a+4*D2*p*q*(-b)*a+D2*q*q*(-b)*(-b)+3*D3*p*p*(-b)*a+3*D3*p*q*(-b)*(-b)+6*D4*p*p*(-b)*(-b)))
  (hV1 : V1 = -(24*D0*D2*q*q+36*D0*D3*p*q+36*D0*D4*p*p-9*D1*D1*q*q-6*D1*D2*p*q-D2*D2*p*p))
  (hV2 : V2 = (-(24*D0*D2*q*q*a*a + 36*D0*D3*p*q*a*a + 36*D0*D3*q*q*(-b)*a + 36*D0*D4*p*p*a*a + 72*D0*D4*p*q*(-b)*a + 36*D0*D4*q*q*(-b)*(-b) - 9*D1*D1*q*q*a*a - 6*D1*D2*p*q*a*a - 6*D1*D2*q*q*(-b)*a + 18*D1*D3*p*q*(-b)*a + 36*D1*D4*p*p*(-b)*a + 36*D1*D4*p*q*(-b)*(-b) - D2*D2*p*p*a*a - 10*D2*D2*p*q*(-b)*a - D2*D2*q*q*(-b)*(-b) - 6*D2*D3*p*p*(-b)*a - 6*D2*D3*p*q*(-b)*(-b) + 24*D2*D4*p*p*(-b)*(-b) - 9*D3*D3*p*p*(-b)*(-b))))
  (hGy : Gy = 4*D4*p+D3*q) (hGx : Gx = 4*D4*p*p*p+3*D3*p*p*q+2*D2*p*q*q+D1*q*q*q)
  (ht0 : t0 = 432*Y*q*b*Gx) (ht1 : t1 = 432*Y*q*Gy) :
  (-2*X*(w0*w0+Dx*(36*b*b))+(6*I-2*X*X)*w0*(q*q)+(6*I*X+4*J)*(q*q*q*q))*w1+(-24*X*w0*b+(6*I-2*X*X)*(6*b)*(q*q))*(6*e)*Dx+2*(X*X*(w0*w0+Dx*(36*b*b))+(6*I*X+4*J)*w0*(q*q)+(9*I*I+4*J*X)*(q*q*q*q))*(p*p)+(w1*t0+(6*e)*t1*Dx) = 0 := by
  subst h4 h3 h2 h1 h0
  subst k4 k3 k2 k1 k0
  subst hI hJ hX hY hDx hw0 hw1 hem hzz hw2 hV1 hV2 hGy hGx ht0 ht1
  grind

theorem n_p12o (a b d e f p q D4 D3 D2 D1 D0 H4 H3 H2 H1 H0 I J X Y Dx w0 w1 w2 V1 V2 em zz Gy Gx t0 t1 : Int)
  (h4 : D4 = b*b) (h3 : D3 = 2*b*d-4*a*e) (h2 : D2 = d*d-2*b*e-4*a*f) (h1 : D1 = 2*d*e-4*b*f) (h0 : D0 = e*e)
  (k4 : H4 = 3*D3*D3-8*D4*D2) (k3 : H3 = 4*(D3*D2-6*D4*D1)) (k2 : H2 = 2*(2*D2*D2-24*D4*D0-3*D3*D1)) (k1 : H1 = 4*(D2*D1-6*D3*D0)) (k0 : H0 = 3*D1*D1-8*D2*D0)
  (hI : I = 12*D4*D0-3*D3*D1+D2*D2) (hJ : J = 72*D4*D2*D0+9*D3*D2*D1-27*D4*D1*D1-27*D3*D3*D0-2*D2*D2*D2)
  (hX : X = d*d+4*(b*e-a*f)) (hY : Y = -a*e*e-b*b*f+b*d*e)
  (hDx : Dx = D4*p*p*p*p+D3*p*p*p*q+D2*p*p*q*q+D1*p*q*q*q+D0*q*q*q*q)
  (hw0 : w0 = (6*D0*q*q*0*0+3*D1*p*q*0*0+3*D1*q*q*1*0+D2*p*p*0*0+4*D2*p*q*1*0+D2*q*q+3*D3*p*p*1*0+3*D3*p*q+6*D4*p*p)) (hw1 : w1 = 6*D0*q*q+3*D1*p*q+D2*p*p) (hem : em = -(b*b*b-a*b*d+a*a*e)) (hzz : zz = p*a+q*b)
  (hw2 : w2 = (6*D0*q*q*a*a+3*D1*p*q*a*a+3*D1*q*q*(-b)*a+D2*p*p*a*a+4*D2*p*q*(-b)*a+D2*q*q*(-b)*(-b)+3*D3*p*p*(-b)*a+3*D3*p*q*(-b)*(-b)+6*D4*p*p*(-b)*(-b)))
  (hV1 : V1 = -(24*D0*D2*q*q+36*D0*D3*p*q+36*D0*D4*p*p-9*D1*D1*q*q-6*D1*D2*p*q-D2*D2*p*p))
  (hV2 : V2 = (-(24*D0*D2*q*q*a*a + 36*D0*D3*p*q*a*a + 36*D0*D3*q*q*(-b)*a + 36*D0*D4*p*p*a*a + 72*D0*D4*p*q*(-b)*a + 36*D0*D4*q*q*(-b)*(-b) - 9*D1*D1*q*q*a*a - 6*D1*D2*p*q*a*a - 6*D1*D2*q*q*(-b)*a + 18*D1*D3*p*q*(-b)*a + 36*D1*D4*p*p*(-b)*a + 36*D1*D4*p*q*(-b)*(-b) - D2*D2*p*p*a*a - 10*D2*D2*p*q*(-b)*a - D2*D2*q*q*(-b)*(-b) - 6*D2*D3*p*p*(-b)*a - 6*D2*D3*p*q*(-b)*(-b) + 24*D2*D4*p*p*(-b)*(-b) - 9*D3*D3*p*p*(-b)*(-b))))
  (hGy : Gy = 4*D4*p+D3*q) (hGx : Gx = 4*D4*p*p*p+3*D3*p*p*q+2*D2*p*q*q+D1*q*q*q)
  (ht0 : t0 = 432*Y*q*b*Gx) (ht1 : t1 = 432*Y*q*Gy) :
  (-2*X*(w0*w0+Dx*(36*b*b))+(6*I-2*X*X)*w0*(q*q)+(6*I*X+4*J)*(q*q*q*q))*(6*e)+(-24*X*w0*b+(6*I-2*X*X)*(6*b)*(q*q))*w1+2*(12*X*X*w0*b+(6*I*X+4*J)*(6*b)*(q*q))*(p*p)+(w1*t1+(6*e)*t0) = 0 := by
  subst h4 h3 h2 h1 h0
  subst k4 k3 k2 k1 k0
  subst hI hJ hX hY hDx hw0 hw1 hem hzz hw2 hV1 hV2 hGy hGx ht0 ht1
  grind

theorem n_p21e (a b d e f p q D4 D3 D2 D1 D0 H4 H3 H2 H1 H0 I J X Y Dx w0 w1 w2 V1 V2 em zz Gy Gx t0 t1 : Int)
  (h4 : D4 = b*b) (h3 : D3 = 2*b*d-4*a*e) (h2 : D2 = d*d-2*b*e-4*a*f) (h1 : D1 = 2*d*e-4*b*f) (h0 : D0 = e*e)
  (k4 : H4 = 3*D3*D3-8*D4*D2) (k3 : H3 = 4*(D3*D2-6*D4*D1)) (k2 : H2 = 2*(2*D2*D2-24*D4*D0-3*D3*D1)) (k1 : H1 = 4*(D2*D1-6*D3*D0)) (k0 : H0 = 3*D1*D1-8*D2*D0)
  (hI : I = 12*D4*D0-3*D3*D1+D2*D2) (hJ : J = 72*D4*D2*D0+9*D3*D2*D1-27*D4*D1*D1-27*D3*D3*D0-2*D2*D2*D2)
  (hX : X = d*d+4*(b*e-a*f)) (hY : Y = -a*e*e-b*b*f+b*d*e)
  (hDx : Dx = D4*p*p*p*p+D3*p*p*p*q+D2*p*p*q*q+D1*p*q*q*q+D0*q*q*q*q)
  (hw0 : w0 = (6*D0*q*q*0*0+3*D1*p*q*0*0+3*D1*q*q*1*0+D2*p*p*0*0+4*D2*p*q*1*0+D2*q*q+3*D3*p*p*1*0+3*D3*p*q+6*D4*p*p)) (hw1 : w1 = 6*D0*q*q+3*D1*p*q+D2*p*p) (hem : em = -(b*b*b-a*b*d+a*a*e)) (hzz : zz = p*a+q*b)
  (hw2 : w2 = (6*D0*q*q*a*a+3*D1*p*q*a*a+3*D1*q*q*(-b)*a+D2*p*p*a*a+4*D2*p*q*(-b)*a+D2*q*q*(-b)*(-b)+3*D3*p*p*(-b)*a+3*D3*p*q*(-b)*(-b)+6*D4*p*p*(-b)*(-b)))
  (hV1 : V1 = -(24*D0*D2*q*q+36*D0*D3*p*q+36*D0*D4*p*p-9*D1*D1*q*q-6*D1*D2*p*q-D2*D2*p*p))
  (hV2 : V2 = (-(24*D0*D2*q*q*a*a + 36*D0*D3*p*q*a*a + 36*D0*D3*q*q*(-b)*a + 36*D0*D4*p*p*a*a + 72*D0*D4*p*q*(-b)*a + 36*D0*D4*q*q*(-b)*(-b) - 9*D1*D1*q*q*a*a - 6*D1*D2*p*q*a*a - 6*D1*D2*q*q*(-b)*a + 18*D1*D3*p*q*(-b)*a + 36*D1*D4*p*p*(-b)*a + 36*D1*D4*p*q*(-b)*(-b) - D2*D2*p*p*a*a - 10*D2*D2*p*q*(-b)*a - D2*D2*q*q*(-b)*(-b) - 6*D2*D3*p*p*(-b)*a - 6*D2*D3*p*q*(-b)*(-b) + 24*D2*D4*p*p*(-b)*(-b) - 9*D3*D3*p*p*(-b)*(-b))))
  (hGy : Gy = 4*D4*p+D3*q) (hGx : Gx = 4*D4*p*p*p+3*D3*p*p*q+2*D2*p*q*q+D1*q*q*q)
  (ht0 : t0 = 432*Y*q*b*Gx) (ht1 : t1 = 432*Y*q*Gy) :
  2*(w0*w0+Dx*(36*b*b)-2*X*w0*(q*q)+X*X*(q*q*q*q))*V1+(-2*X*(w0*w0+Dx*(36*b*b))+(6*I-2*X*X)*w0*(q*q)+(6*I*X+4*J)*(q*q*q*q))*w1+(-24*X*w0*b+(6*I-2*X*X)*(6*b)*(q*q))*(-6*e)*Dx-(w1*t0+(-6*e)*t1*Dx) = 0 := by
  subst h4 h3 h2 h1 h0
  subst k4 k3 k2 k1 k0
  subst hI hJ hX hY hDx hw0 hw1 hem hzz hw2 hV1 hV2 hGy hGx ht0 ht1
  grind

theorem n_p21o (a b d e f p q D4 D3 D2 D1 D0 H4 H3 H2 H1 H0 I J X Y Dx w0 w1 w2 V1 V2 em zz Gy Gx t0 t1 : Int)
  (h4 : D4 = b*b) (h3 : D3 = 2*b*d-4*a*e) (h2 : D2 = d*d-2*b*e-4*a*f) (h1 : D1 = 2*d*e-4*b*f) (h0 : D0 = e*e)
  (k4 : H4 = 3*D3*D3-8*D4*D2) (k3 : H3 = 4*(D3*D2-6*D4*D1)) (k2 : H2 = 2*(2*D2*D2-24*D4*D0-3*D3*D1)) (k1 : H1 = 4*(D2*D1-6*D3*D0)) (k0 : H0 = 3*D1*D1-8*D2*D0)
  (hI : I = 12*D4*D0-3*D3*D1+D2*D2) (hJ : J = 72*D4*D2*D0+9*D3*D2*D1-27*D4*D1*D1-27*D3*D3*D0-2*D2*D2*D2)
  (hX : X = d*d+4*(b*e-a*f)) (hY : Y = -a*e*e-b*b*f+b*d*e)
  (hDx : Dx = D4*p*p*p*p+D3*p*p*p*q+D2*p*p*q*q+D1*p*q*q*q+D0*q*q*q*q)
  (hw0 : w0 = (6*D0*q*q*0*0+3*D1*p*q*0*0+3*D1*q*q*1*0+D2*p*p*0*0+4*D2*p*q*1*0+D2*q*q+3*D3*p*p*1*0+3*D3*p*q+6*D4*p*p)) (hw1 : w1 = 6*D0*q*q+3*D1*p*q+D2*p*p) (hem : em = -(b*b*b-a*b*d+a*a*e)) (hzz : zz = p*a+q*b)
  (hw2 : w2 = (6*D0*q*q*a*a+3*D1*p*q*a*a+3*D1*q*q*(-b)*a+D2*p*p*a*a+4*D2*p*q*(-b)*a+D2*q*q*(-b)*(-b)+3*D3*p*p*(-b)*a+3*D3*p*q*(-b)*(-b)+6*D4*p*p*(-b)*(-b)))
  (hV1 : V1 = -(24*D0*D2*q*q+36*D0*D3*p*q+36*D0*D4*p*p-9*D1*D1*q*q-6*D1*D2*p*q-D2*D2*p*p))
  (hV2 : V2 = (-(24*D0*D2*q*q*a*a + 36*D0*D3*p*q*a*a + 36*D0*D3*q*q*(-b)*a + 36*D0*D4*p*p*a*a + 72*D0*D4*p*q*(-b)*a + 36*D0*D4*q*q*(-b)*(-b) - 9*D1*D1*q*q*a*a - 6*D1*D2*p*q*a*a - 6*D1*D2*q*q*(-b)*a + 18*D1*D3*p*q*(-b)*a + 36*D1*D4*p*p*(-b)*a + 36*D1*D4*p*q*(-b)*(-b) - D2*D2*p*p*a*a - 10*D2*D2*p*q*(-b)*a - D2*D2*q*q*(-b)*(-b) - 6*D2*D3*p*p*(-b)*a - 6*D2*D3*p*q*(-b)*(-b) + 24*D2*D4*p*p*(-b)*(-b) - 9*D3*D3*p*p*(-b)*(-b))))
  (hGy : Gy = 4*D4*p+D3*q) (hGx : Gx = 4*D4*p*p*p+3*D3*p*p*q+2*D2*p*q*q+D1*q*q*q)
  (ht0 : t0 = 432*Y*q*b*Gx) (ht1 : t1 = 432*Y*q*Gy) :
  2*(12*w0*b-12*X*b*(q*q))*V1+(-2*X*(w0*w0+Dx*(36*b*b))+(6*I-2*X*X)*w0*(q*q)+(6*I*X+4*J)*(q*q*q*q))*(-6*e)+(-24*X*w0*b+(6*I-2*X*X)*(6*b)*(q*q))*w1-(w1*t1+(-6*e)*t0) = 0 := by
  subst h4 h3 h2 h1 h0
  subst k4 k3 k2 k1 k0
  subst hI hJ hX hY hDx hw0 hw1 hem hzz hw2 hV1 hV2 hGy hGx ht0 ht1
  grind

theorem n_p22e (a b d e f p q D4 D3 D2 D1 D0 H4 H3 H2 H1 H0 I J X Y Dx w0 w1 w2 V1 V2 em zz Gy Gx t0 t1 : Int)
  (h4 : D4 = b*b) (h3 : D3 = 2*b*d-4*a*e) (h2 : D2 = d*d-2*b*e-4*a*f) (h1 : D1 = 2*d*e-4*b*f) (h0 : D0 = e*e)
  (k4 : H4 = 3*D3*D3-8*D4*D2) (k3 : H3 = 4*(D3*D2-6*D4*D1)) (k2 : H2 = 2*(2*D2*D2-24*D4*D0-3*D3*D1)) (k1 : H1 = 4*(D2*D1-6*D3*D0)) (k0 : H0 = 3*D1*D1-8*D2*D0)
  (hI : I = 12*D4*D0-3*D3*D1+D2*D2) (hJ : J = 72*D4*D2*D0+9*D3*D2*D1-27*D4*D1*D1-27*D3*D3*D0-2*D2*D2*D2)
  (hX : X = d*d+4*(b*e-a*f)) (hY : Y = -a*e*e-b*b*f+b*d*e)
  (hDx : Dx = D4*p*p*p*p+D3*p*p*p*q+D2*p*p*q*q+D1*p*q*q*q+D0*q*q*q*q)
  (hw0 : w0 = (6*D0*q*q*0*0+3*D1*p*q*0*0+3*D1*q*q*1*0+D2*p*p*0*0+4*D2*p*q*1*0+D2*q*q+3*D3*p*p*1*0+3*D3*p*q+6*D4*p*p)) (hw1 : w1 = 6*D0*q*q+3*D1*p*q+D2*p*p) (hem : em = -(b*b*b-a*b*d+a*a*e)) (hzz : zz = p*a+q*b)
  (hw2 : w2 = (6*D0*q*q*a*a+3*D1*p*q*a*a+3*D1*q*q*(-b)*a+D2*p*p*a*a+4*D2*p*q*(-b)*a+D2*q*q*(-b)*(-b)+3*D3*p*p*(-b)*a+3*D3*p*q*(-b)*(-b)+6*D4*p*p*(-b)*(-b)))
  (hV1 : V1 = -(24*D0*D2*q*q+36*D0*D3*p*q+36*D0*D4*p*p-9*D1*D1*q*q-6*D1*D2*p*q-D2*D2*p*p))
  (hV2 : V2 = (-(24*D0*D2*q*q*a*a + 36*D0*D3*p*q*a*a + 36*D0*D3*q*q*(-b)*a + 36*D0*D4*p*p*a*a + 72*D0*D4*p*q*(-b)*a + 36*D0*D4*q*q*(-b)*(-b) - 9*D1*D1*q*q*a*a - 6*D1*D2*p*q*a*a - 6*D1*D2*q*q*(-b)*a + 18*D1*D3*p*q*(-b)*a + 36*D1*D4*p*p*(-b)*a + 36*D1*D4*p*q*(-b)*(-b) - D2*D2*p*p*a*a - 10*D2*D2*p*q*(-b)*a - D2*D2*q*q*(-b)*(-b) - 6*D2*D3*p*p*(-b)*a - 6*D2*D3*p*q*(-b)*(-b) + 24*D2*D4*p*p*(-b)*(-b) - 9*D3*D3*p*p*(-b)*(-b))))
  (hGy : Gy = 4*D4*p+D3*q) (hGx : Gx = 4*D4*p*p*p+3*D3*p*p*q+2*D2*p*q*q+D1*q*q*q)
  (ht0 : t0 = 432*Y*q*b*Gx) (ht1 : t1 = 432*Y*q*Gy) :
  (-2*X*(w0*w0+Dx*(36*b*b))+(6*I-2*X*X)*w0*(q*q)+(6*I*X+4*J)*(q*q*q*q))*V1+2*(X*X*(w0*w0+Dx*(36*b*b))+(6*I*X+4*J)*w0*(q*q)+(9*I*I+4*J*X)*(q*q*q*q))*w1+2*(12*X*X*w0*b+(6*I*X+4*J)*(6*b)*(q*q))*(-6*e)*Dx+(V1*t0) = 0 := by
  subst h4 h3 h2 h1 h0
  subst k4 k3 k2 k1 k0
  subst hI hJ hX hY hDx hw0 hw1 hem hzz hw2 hV1 hV2 hGy hGx ht0 ht1
  grind

theorem n_p22o (a b d e f p q D4 D3 D2 D1 D0 H4 H3 H2 H1 H0 I J X Y Dx w0 w1 w2 V1 V2 em zz Gy Gx t0 t1 : Int)
  (h4 : D4 = b*b) (h3 : D3 = 2*b*d-4*a*e) (h2 : D2 = d*d-2*b*e-4*a*f) (h1 : D1 = 2*d*e-4*b*f) (h0 : D0 = e*e)
  (k4 : H4 = 3*D3*D3-8*D4*D2) (k3 : H3 = 4*(D3*D2-6*D4*D1)) (k2 : H2 = 2*(2*D2*D2-24*D4*D0-3*D3*D1)) (k1 : H1 = 4*(D2*D1-6*D3*D0)) (k0 : H0 = 3*D1*D1-8*D2*D0)
  (hI : I = 12*D4*D0-3*D3*D1+D2*D2) (hJ : J = 72*D4*D2*D0+9*D3*D2*D1-27*D4*D1*D1-27*D3*D3*D0-2*D2*D2*D2)
  (hX : X = d*d+4*(b*e-a*f)) (hY : Y = -a*e*e-b*b*f+b*d*e)
  (hDx : Dx = D4*p*p*p*p+D3*p*p*p*q+D2*p*p*q*q+D1*p*q*q*q+D0*q*q*q*q)
  (hw0 : w0 = (6*D0*q*q*0*0+3*D1*p*q*0*0+3*D1*q*q*1*0+D2*p*p*0*0+4*D2*p*q*1*0+D2*q*q+3*D3*p*p*1*0+3*D3*p*q+6*D4*p*p)) (hw1 : w1 = 6*D0*q*q+3*D1*p*q+D2*p*p) (hem : em = -(b*b*b-a*b*d+a*a*e)) (hzz : zz = p*a+q*b)
  (hw2 : w2 = (6*D0*q*q*a*a+3*D1*p*q*a*a+3*D1*q*q*(-b)*a+D2*p*p*a*a+4*D2*p*q*(-b)*a+D2*q*q*(-b)*(-b)+3*D3*p*p*(-b)*a+3*D3*p*q*(-b)*(-b)+6*D4*p*p*(-b)*(-b)))
  (hV1 : V1 = -(24*D0*D2*q*q+36*D0*D3*p*q+36*D0*D4*p*p-9*D1*D1*q*q-6*D1*D2*p*q-D2*D2*p*p))
  (hV2 : V2 = (-(24*D0*D2*q*q*a*a + 36*D0*D3*p*q*a*a + 36*D0*D3*q*q*(-b)*a + 36*D0*D4*p*p*a*a + 72*D0*D4*p*q*(-b)*a + 36*D0*D4*q*q*(-b)*(-b) - 9*D1*D1*q*q*a*a - 6*D1*D2*p*q*a*a - 6*D1*D2*q*q*(-b)*a + 18*D1*D3*p*q*(-b)*a + 36*D1*D4*p*p*(-b)*a + 36*D1*D4*p*q*(-b)*(-b) - D2*D2*p*p*a*a - 10*D2*D2*p*q*(-b)*a - D2*D2*q*q*(-b)*(-b) - 6*D2*D3*p*p*(-b)*a - 6*D2*D3*p*q*(-b)*(-b) + 24*D2*D4*p*p*(-b)*(-b) - 9*D3*D3*p*p*(-b)*(-b))))
  (hGy : Gy = 4*D4*p+D3*q) (hGx : Gx = 4*D4*p*p*p+3*D3*p*p*q+2*D2*p*q*q+D1*q*q*q)
  (ht0 : t0 = 432*Y*q*b*Gx) (ht1 : t1 = 432*Y*q*Gy) :
  (-24*X*w0*b+(6*I-2*X*X)*(6*b)*(q*q))*V1+2*(X*X*(w0*w0+Dx*(36*b*b))+(6*I*X+4*J)*w0*(q*q)+(9*I*I+4*J*X)*(q*q*q*q))*(-6*e)+2*(12*X*X*w0*b+(6*I*X+4*J)*(6*b)*(q*q))*w1+(V1*t1) = 0 := by
  subst h4 h3 h2 h1 h0
  subst k4 k3 k2 k1 k0
  subst hI hJ hX hY hDx hw0 hw1 hem hzz hw2 hV1 hV2 hGy hGx ht0 ht1
  grind

theorem n_m11e (a b d e f p q D4 D3 D2 D1 D0 H4 H3 H2 H1 H0 I J X Y Dx w0 w1 w2 V1 V2 em zz Gy Gx t0 t1 : Int)
  (h4 : D4 = b*b) (h3 : D3 = 2*b*d-4*a*e) (h2 : D2 = d*d-2*b*e-4*a*f) (h1 : D1 = 2*d*e-4*b*f) (h0 : D0 = e*e)
  (k4 : H4 = 3*D3*D3-8*D4*D2) (k3 : H3 = 4*(D3*D2-6*D4*D1)) (k2 : H2 = 2*(2*D2*D2-24*D4*D0-3*D3*D1)) (k1 : H1 = 4*(D2*D1-6*D3*D0)) (k0 : H0 = 3*D1*D1-8*D2*D0)
  (hI : I = 12*D4*D0-3*D3*D1+D2*D2) (hJ : J = 72*D4*D2*D0+9*D3*D2*D1-27*D4*D1*D1-27*D3*D3*D0-2*D2*D2*D2)
  (hX : X = d*d+4*(b*e-a*f)) (hY : Y = -a*e*e-b*b*f+b*d*e)
  (hDx : Dx = D4*p*p*p*p+D3*p*p*p*q+D2*p*p*q*q+D1*p*q*q*q+D0*q*q*q*q)
  (hw0 : w0 = (6*D0*q*q*0*0+3*D1*p*q*0*0+3*D1*q*q*1*0+D2*p*p*0*0+4*D2*p*q*1*0+D2*q*q+3*D3*p*p*1*0+3*D3*p*q+6*D4*p*p)) (hw1 : w1 = 6*D0*q*q+3*D1*p*q+D2*p*p) (hem : em = -(b*b*b-a*b*d+a*a*e)) (hzz : zz = p*a+q*b)
  (hw2 : w2 = (6*D0*q*q*a*a+3*D1*p*q*a*a+3*D1*q*q*(-b)*a+D2*p*p*a*a+4*D2*p*q*(-b)*a+D2*q*q*(-b)*(-b)+3*D3*p*p*(-b)*a+3*D3*p*q*(-b)*(-b)+6*D4*p*p*(-b)*(-b)))
  (hV1 : V1 = -(24*D0*D2*q*q+36*D0*D3*p*q+36*D0*D4*p*p-9*D1*D1*q*q-6*D1*D2*p*q-D2*D2*p*p))
  (hV2 : V2 = (-(24*D0*D2*q*q*a*a + 36*D0*D3*p*q*a*a + 36*D0*D3*q*q*(-b)*a + 36*D0*D4*p*p*a*a + 72*D0*D4*p*q*(-b)*a + 36*D0*D4*q*q*(-b)*(-b) - 9*D1*D1*q*q*a*a - 6*D1*D2*p*q*a*a - 6*D1*D2*q*q*(-b)*a + 18*D1*D3*p*q*(-b)*a + 36*D1*D4*p*p*(-b)*a + 36*D1*D4*p*q*(-b)*(-b) - D2*D2*p*p*a*a - 10*D2*D2*p*q*(-b)*a - D2*D2*q*q*(-b)*(-b) - 6*D2*D3*p*p*(-b)*a - 6*D2*D3*p*q*(-b)*(-b) + 24*D2*D4*p*p*(-b)*(-b) - 9*D3*D3*p*p*(-b)*(-b))))
  (hGy : Gy = 4*D4*p+D3*q) (hGx : Gx = 4*D4*p*p*p+3*D3*p*p*q+2*D2*p*q*q+D1*q*q*q)
  (ht0 : t0 = 432*Y*q*b*Gx) (ht1 : t1 = 432*Y*q*Gy) :
  2*(w0*w0+Dx*(36*b*b)-2*X*w0*(q*q)+X*X*(q*q*q*q))*w2+2*(12*w0*b-12*X*b*(q*q))*(6*em)*Dx+(-2*X*(w0*w0+Dx*(36*b*b))+(6*I-2*X*X)*w0*(q*q)+(6*I*X+4*J)*(q*q*q*q))*(zz*zz)+((zz*zz)*t0) = 0 := by
  subst h4 h3 h2 h1 h0
  subst k4 k3 k2 k1 k0
  subst hI hJ hX hY hDx hw0 hw1 hem hzz hw2 hV1 hV2 hGy hGx ht0 ht1
  grind

theorem n_m11o (a b d e f p q D4 D3 D2 D1 D0 H4 H3 H2 H1 H0 I J X Y Dx w0 w1 w2 V1 V2 em zz Gy Gx t0 t1 : Int)
  (h4 : D4 = b*b) (h3 : D3 = 2*b*d-4*a*e) (h2 : D2 = d*d-2*b*e-4*a*f) (h1 : D1 = 2*d*e-4*b*f) (h0 : D0 = e*e)
  (k4 : H4 = 3*D3*D3-8*D4*D2) (k3 : H3 = 4*(D3*D2-6*D4*D1)) (k2 : H2 = 2*(2*D2*D2-24*D4*D0-3*D3*D1)) (k1 : H1 = 4*(D2*D1-6*D3*D0)) (k0 : H0 = 3*D1*D1-8*D2*D0)
  (hI : I = 12*D4*D0-3*D3*D1+D2*D2) (hJ : J = 72*D4*D2*D0+9*D3*D2*D1-27*D4*D1*D1-27*D3*D3*D0-2*D2*D2*D2)
  (hX : X = d*d+4*(b*e-a*f)) (hY : Y = -a*e*e-b*b*f+b*d*e)
  (hDx : Dx = D4*p*p*p*p+D3*p*p*p*q+D2*p*p*q*q+D1*p*q*q*q+D0*q*q*q*q)
  (hw0 : w0 = (6*D0*q*q*0*0+3*D1*p*q*0*0+3*D1*q*q*1*0+D2*p*p*0*0+4*D2*p*q*1*0+D2*q*q+3*D3*p*p*1*0+3*D3*p*q+6*D4*p*p)) (hw1 : w1 = 6*D0*q*q+3*D1*p*q+D2*p*p) (hem : em = -(b*b*b-a*b*d+a*a*e)) (hzz : zz = p*a+q*b)
  (hw2 : w2 = (6*D0*q*q*a*a+3*D1*p*q*a*a+3*D1*q*q*(-b)*a+D2*p*p*a*a+4*D2*p*q*(-b)*a+D2*q*q*(-b)*(-b)+3*D3*p*p*(-b)*a+3*D3*p*q*(-b)*(-b)+6*D4*p*p*(-b)*(-b)))
  (hV1 : V1 = -(24*D0*D2*q*q+36*D0*D3*p*q+36*D0*D4*p*p-9*D1*D1*q*q-6*D1*D2*p*q-D2*D2*p*p))
  (hV2 : V2 = (-(24*D0*D2*q*q*a*a + 36*D0*D3*p*q*a*a + 36*D0*D3*q*q*(-b)*a + 36*D0*D4*p*p*a*a + 72*D0*D4*p*q*(-b)*a + 36*D0*D4*q*q*(-b)*(-b) - 9*D1*D1*q*q*a*a - 6*D1*D2*p*q*a*a - 6*D1*D2*q*q*(-b)*a + 18*D1*D3*p*q*(-b)*a + 36*D1*D4*p*p*(-b)*a + 36*D1*D4*p*q*(-b)*(-b) - D2*D2*p*p*a*a - 10*D2*D2*p*q*(-b)*a - D2*D2*q*q*(-b)*(-b) - 6*D2*D3*p*p*(-b)*a - 6*D2*D3*p*q*(-b)*(-b) + 24*D2*D4*p*p*(-b)*(-b) - 9*D3*D3*p*p*(-b)*(-b))))
  (hGy : Gy = 4*D4*p+D3*q) (hGx : Gx = 4*D4*p*p*p+3*D3*p*p*q+2*D2*p*q*q+D1*q*q*q)
  (ht0 : t0 = 432*Y*q*b*Gx) (ht1 : t1 = 432*Y*q*Gy) :
  2*(w0*w0+Dx*(36*b*b)-2*X*w0*(q*q)+X*X*(q*q*q*q))*(6*em)+2*(12*w0*b-12*X*b*(q*q))*w2+(-24*X*w0*b+(6*I-2*X*X)*(6*b)*(q*q))*(zz*zz)+((zz*zz)*t1) = 0 := by
  subst h4 h3 h2 h1 h0
  subst k4 k3 k2 k1 k0
  subst hI hJ hX hY hDx hw0 hw1 hem hzz hw2 hV1 hV2 hGy hGx ht0 ht1
  grind

theorem n_m12e (a b d e f p q D4 D3 D2 D1 D0 H4 H3 H2 H1 H0 I J X Y Dx w0 w1 w2 V1 V2 em zz Gy Gx t0 t1 : Int)
  (h4 : D4 = b*b) (h3 : D3 = 2*b*d-4*a*e) (h2 : D2 = d*d-2*b*e-4*a*f) (h1 : D1 = 2*d*e-4*b*f) (h0 : D0 = e*e)
  (k4 : H4 = 3*D3*D3-8*D4*D2) (k3 : H3 = 4*(D3*D2-6*D4*D1)) (k2 : H2 = 2*(2*D2*D2-24*D4*D0-3*D3*D1)) (k1 : H1 = 4*(D2*D1-6*D3*D0)) (k0 : H0 = 3*D1*D1-8*D2*D0)
  (hI : I = 12*D4*D0-3*D3*D1+D2*D2) (hJ : J = 72*D4*D2*D0+9*D3*D2*D1-27*D4*D1*D1-27*D3*D3*D0-2*D2*D2*D2)
  (hX : X = d*d+4*(b*e-a*f)) (hY : Y = -a*e*e-b*b*f+b*d*e)
  (hDx : Dx = D4*p*p*p*p+D3*p*p*p*q+D2*p*p*q*q+D1*p*q*q*q+D0*q*q*q*q)
  (hw0 : w0 = (6*D0*q*q*0*0+3*D1*p*q*0*0+3*D1*q*q*1*0+D2*p*p*0*0+4*D2*p*q*1*0+D2*q*q+3*D3*p*p*1*0+3*D3*p*q+6*D4*p*p)) (hw1 : w1 = 6*D0*q*q+3*D1*p*q+D2*p*p) (hem : em = -(b*b*b-a*b*d+a*a*e)) (hzz : zz = p*a+q*b)
  (hw2 : w2 = (6*D0*q*q*a*a+3*D1*p*q*a*a+3*D1*q*q*(-b)*a+D2*p*p*a*a+4*D2*p*q*(-b)*a+D2*q*q*(-b)*(-b)+3*D3*p*p*(-b)*a+3*D3*p*q*(-b)*(-b)+6*D4*p*p*(-b)*(-b)))
  (hV1 : V1 = -(24*D0*D2*q*q+36*D0*D3*p*q+36*D0*D4*p*p-9*D1*D1*q*q-6*D1*D2*p*q-D2*D2*p*p))
  (hV2 : V2 = (-(24*D0*D2*q*q*a*a + 36*D0*D3*p*q*a*a + 36*D0*D3*q*q*(-b)*a + 36*D0*D4*p*p*a*a + 72*D0*D4*p*q*(-b)*a + 36*D0*D4*q*q*(-b)*(-b) - 9*D1*D1*q*q*a*a - 6*D1*D2*p*q*a*a - 6*D1*D2*q*q*(-b)*a + 18*D1*D3*p*q*(-b)*a + 36*D1*D4*p*p*(-b)*a + 36*D1*D4*p*q*(-b)*(-b) - D2*D2*p*p*a*a - 10*D2*D2*p*q*(-b)*a - D2*D2*q*q*(-b)*(-b) - 6*D2*D3*p*p*(-b)*a - 6*D2*D3*p*q*(-b)*(-b) + 24*D2*D4*p*p*(-b)*(-b) - 9*D3*D3*p*p*(-b)*(-b))))
  (hGy : Gy = 4*D4*p+D3*q) (hGx : Gx = 4*D4*p*p*p+3*D3*p*p*q+2*D2*p*q*q+D1*q*q*q)
  (ht0 : t0 = 432*Y*q*b*Gx) (ht1 : t1 = 432*Y*q*Gy) :
  (-2*X*(w0*w0+Dx*(36*b*b))+(6*I-2*X*X)*w0*(q*q)+(6*I*X+4*J)*(q*q*q*q))*w2+(-24*X*w0*b+(6*I-2*X*X)*(6*b)*(q*q))*(6*em)*Dx+2*(X*X*(w0*w0+Dx*(36*b*b))+(6*I*X+4*J)*w0*(q*q)+(9*I*I+4*J*X)*(q*q*q*q))*(zz*zz)-(w2*t0+(6*em)*t1*Dx) = 0 := by
  subst h4 h3 h2 h1 h0
  subst k4 k3 k2 k1 k0
  subst hI hJ hX hY hDx hw0 hw1 hem hzz hw2 hV1 hV2 hGy hGx ht0 ht1
  grind

theorem n_m12o (a b d e f p q D4 D3 D2 D1 D0 H4 H3 H2 H1 H0 I J X Y Dx w0 w1 w2 V1 V2 em zz Gy Gx t0 t1 : Int)
  (h4 : D4 = b*b) (h3 : D3 = 2*b*d-4*a*e) (h2 : D2 = d*d-2*b*e-4*a*f) (h1 : D1 = 2*d*e-4*b*f) (h0 : D0 = e*e)
  (k4 : H4 = 3*D3*D3-8*D4*D2) (k3 : H3 = 4*(D3*D2-6*D4*D1)) (k2 : H2 = 2*(2*D2*D2-24*D4*D0-3*D3*D1)) (k1 : H1 = 4*(D2*D1-6*D3*D0)) (k0 : H0 = 3*D1*D1-8*D2*D0)
  (hI : I = 12*D4*D0-3*D3*D1+D2*D2) (hJ : J = 72*D4*D2*D0+9*D3*D2*D1-27*D4*D1*D1-27*D3*D3*D0-2*D2*D2*D2)
  (hX : X = d*d+4*(b*e-a*f)) (hY : Y = -a*e*e-b*b*f+b*d*e)
  (hDx : Dx = D4*p*p*p*p+D3*p*p*p*q+D2*p*p*q*q+D1*p*q*q*q+D0*q*q*q*q)
  (hw0 : w0 = (6*D0*q*q*0*0+3*D1*p*q*0*0+3*D1*q*q*1*0+D2*p*p*0*0+4*D2*p*q*1*0+D2*q*q+3*D3*p*p*1*0+3*D3*p*q+6*D4*p*p)) (hw1 : w1 = 6*D0*q*q+3*D1*p*q+D2*p*p) (hem : em = -(b*b*b-a*b*d+a*a*e)) (hzz : zz = p*a+q*b)
  (hw2 : w2 = (6*D0*q*q*a*a+3*D1*p*q*a*a+3*D1*q*q*(-b)*a+D2*p*p*a*a+4*D2*p*q*(-b)*a+D2*q*q*(-b)*(-b)+3*D3*p*p*(-b)*a+3*D3*p*q*(-b)*(-b)+6*D4*p*p*(-b)*(-b)))
  (hV1 : V1 = -(24*D0*D2*q*q+36*D0*D3*p*q+36*D0*D4*p*p-9*D1*D1*q*q-6*D1*D2*p*q-D2*D2*p*p))
  (hV2 : V2 = (-(24*D0*D2*q*q*a*a + 36*D0*D3*p*q*a*a + 36*D0*D3*q*q*(-b)*a + 36*D0*D4*p*p*a*a + 72*D0*D4*p*q*(-b)*a + 36*D0*D4*q*q*(-b)*(-b) - 9*D1*D1*q*q*a*a - 6*D1*D2*p*q*a*a - 6*D1*D2*q*q*(-b)*a + 18*D1*D3*p*q*(-b)*a + 36*D1*D4*p*p*(-b)*a + 36*D1*D4*p*q*(-b)*(-b) - D2*D2*p*p*a*a - 10*D2*D2*p*q*(-b)*a - D2*D2*q*q*(-b)*(-b) - 6*D2*D3*p*p*(-b)*a - 6*D2*D3*p*q*(-b)*(-b) + 24*D2*D4*p*p*(-b)*(-b) - 9*D3*D3*p*p*(-b)*(-b))))
  (hGy : Gy = 4*D4*p+D3*q) (hGx : Gx = 4*D4*p*p*p+3*D3*p*p*q+2*D2*p*q*q+D1*q*q*q)
  (ht0 : t0 = 432*Y*q*b*Gx) (ht1 : t1 = 432*Y*q*Gy) :
  (-2*X*(w0*w0+Dx*(36*b*b))+(6*I-2*X*X)*w0*(q*q)+(6*I*X+4*J)*(q*q*q*q))*(6*em)+(-24*X*w0*b+(6*I-2*X*X)*(6*b)*(q*q))*w2+2*(12*X*X*w0*b+(6*I*X+4*J)*(6*b)*(q*q))*(zz*zz)-(w2*t1+(6*em)*t0) = 0 := by
  subst h4 h3 h2 h1 h0
  subst k4 k3 k2 k1 k0
  subst hI hJ hX hY hDx hw0 hw1 hem hzz hw2 hV1 hV2 hGy hGx ht0 ht1
  grind

theorem n_m21e (a b d e f p q D4 D3 D2 D1 D0 H4 H3 H2 H1 H0 I J X Y Dx w0 w1 w2 V1 V2 em zz Gy Gx t0 t1 : Int)
  (h4 : D4 = b*b) (h3 : D3 = 2*b*d-4*a*e) (h2 : D2 = d*d-2*b*e-4*a*f) (h1 : D1 = 2*d*e-4*b*f) (h0 : D0 = e*e)
  (k4 : H4 = 3*D3*D3-8*D4*D2) (k3 : H3 = 4*(D3*D2-6*D4*D1)) (k2 : H2 = 2*(2*D2*D2-24*D4*D0-3*D3*D1)) (k1 : H1 = 4*(D2*D1-6*D3*D0)) (k0 : H0 = 3*D1*D1-8*D2*D0)
  (hI : I = 12*D4*D0-3*D3*D1+D2*D2) (hJ : J = 72*D4*D2*D0+9*D3*D2*D1-27*D4*D1*D1-27*D3*D3*D0-2*D2*D2*D2)
  (hX : X = d*d+4*(b*e-a*f)) (hY : Y = -a*e*e-b*b*f+b*d*e)
  (hDx : Dx = D4*p*p*p*p+D3*p*p*p*q+D2*p*p*q*q+D1*p*q*q*q+D0*q*q*q*q)
  (hw0 : w0 = (6*D0*q*q*0*0+3*D1*p*q*0*0+3*D1*q*q*1*0+D2*p*p*0*0+4*D2*p*q*1*0+D2*q*q+3*D3*p*p*1*0+3*D3*p*q+6*D4*p*p)) (hw1 : w1 = 6*D0*q*q+3*D1*p*q+D2*p*p) (hem : em = -(b*b*b-a*b*d+a*a*e)) (hzz : zz = p*a+q*b)
  (hw2 : w2 = (6*D0*q*q*a*a+3*D1*p*q*a*a+3*D1*q*q*(-b)*a+D2*p*p*a*a+4*D2*p*q*(-b)*a+D2*q*q*(-b)*(-b)+3*D3*p*p*(-b)*a+3*D3*p*q*(-b)*(-b)+6*D4*p*p*(-b)*(-b)))
  (hV1 : V1 = -(24*D0*D2*q*q+36*D0*D3*p*q+36*D0*D4*p*p-9*D1*D1*q*q-6*D1*D2*p*q-D2*D2*p*p))
  (hV2 : V2 = (-(24*D0*D2*q*q*a*a + 36*D0*D3*p*q*a*a + 36*D0*D3*q*q*(-b)*a + 36*D0*D4*p*p*a*a + 72*D0*D4*p*q*(-b)*a + 36*D0*D4*q*q*(-b)*(-b) - 9*D1*D1*q*q*a*a - 6*D1*D2*p*q*a*a - 6*D1*D2*q*q*(-b)*a + 18*D1*D3*p*q*(-b)*a + 36*D1*D4*p*p*(-b)*a + 36*D1*D4*p*q*(-b)*(-b) - D2*D2*p*p*a*a - 10*D2*D2*p*q*(-b)*a - D2*D2*q*q*(-b)*(-b) - 6*D2*D3*p*p*(-b)*a - 6*D2*D3*p*q*(-b)*(-b) + 24*D2*D4*p*p*(-b)*(-b) - 9*D3*D3*p*p*(-b)*(-b))))
  (hGy : Gy = 4*D4*p+D3*q) (hGx : Gx = 4*D4*p*p*p+3*D3*p*p*q+2*D2*p*q*q+D1*q*q*q)
  (ht0 : t0 = 432*Y*q*b*Gx) (ht1 : t1 = 432*Y*q*Gy) :
  2*(w0*w0+Dx*(36*b*b)-2*X*w0*(q*q)+X*X*(q*q*q*q))*V2+(-2*X*(w0*w0+Dx*(36*b*b))+(6*I-2*X*X)*w0*(q*q)+(6*I*X+4*J)*(q*q*q*q))*w2+(-24*X*w0*b+(6*I-2*X*X)*(6*b)*(q*q))*(-6*em)*Dx+(w2*t0+(-6*em)*t1*Dx) = 0 := by
  subst h4 h3 h2 h1 h0
  subst k4 k3 k2 k1 k0
  subst hI hJ hX hY hDx hw0 hw1 hem hzz hw2 hV1 hV2 hGy hGx ht0 ht1
  grind

theorem n_m21o (a b d e f p q D4 D3 D2 D1 D0 H4 H3 H2 H1 H0 I J X Y Dx w0 w1 w2 V1 V2 em zz Gy Gx t0 t1 : Int)
  (h4 : D4 = b*b) (h3 : D3 = 2*b*d-4*a*e) (h2 : D2 = d*d-2*b*e-4*a*f) (h1 : D1 = 2*d*e-4*b*f) (h0 : D0 = e*e)
  (k4 : H4 = 3*D3*D3-8*D4*D2) (k3 : H3 = 4*(D3*D2-6*D4*D1)) (k2 : H2 = 2*(2*D2*D2-24*D4*D0-3*D3*D1)) (k1 : H1 = 4*(D2*D1-6*D3*D0)) (k0 : H0 = 3*D1*D1-8*D2*D0)
  (hI : I = 12*D4*D0-3*D3*D1+D2*D2) (hJ : J = 72*D4*D2*D0+9*D3*D2*D1-27*D4*D1*D1-27*D3*D3*D0-2*D2*D2*D2)
  (hX : X = d*d+4*(b*e-a*f)) (hY : Y = -a*e*e-b*b*f+b*d*e)
  (hDx : Dx = D4*p*p*p*p+D3*p*p*p*q+D2*p*p*q*q+D1*p*q*q*q+D0*q*q*q*q)
  (hw0 : w0 = (6*D0*q*q*0*0+3*D1*p*q*0*0+3*D1*q*q*1*0+D2*p*p*0*0+4*D2*p*q*1*0+D2*q*q+3*D3*p*p*1*0+3*D3*p*q+6*D4*p*p)) (hw1 : w1 = 6*D0*q*q+3*D1*p*q+D2*p*p) (hem : em = -(b*b*b-a*b*d+a*a*e)) (hzz : zz = p*a+q*b)
  (hw2 : w2 = (6*D0*q*q*a*a+3*D1*p*q*a*a+3*D1*q*q*(-b)*a+D2*p*p*a*a+4*D2*p*q*(-b)*a+D2*q*q*(-b)*(-b)+3*D3*p*p*(-b)*a+3*D3*p*q*(-b)*(-b)+6*D4*p*p*(-b)*(-b)))
  (hV1 : V1 = -(24*D0*D2*q*q+36*D0*D3*p*q+36*D0*D4*p*p-9*D1*D1*q*q-6*D1*D2*p*q-D2*D2*p*p))
  (hV2 : V2 = (-(24*D0*D2*q*q*a*a + 36*D0*D3*p*q*a*a + 36*D0*D3*q*q*(-b)*a + 36*D0*D4*p*p*a*a + 72*D0*D4*p*q*(-b)*a + 36*D0*D4*q*q*(-b)*(-b) - 9*D1*D1*q*q*a*a - 6*D1*D2*p*q*a*a - 6*D1*D2*q*q*(-b)*a + 18*D1*D3*p*q*(-b)*a + 36*D1*D4*p*p*(-b)*a + 36*D1*D4*p*q*(-b)*(-b) - D2*D2*p*p*a*a - 10*D2*D2*p*q*(-b)*a - D2*D2*q*q*(-b)*(-b) - 6*D2*D3*p*p*(-b)*a - 6*D2*D3*p*q*(-b)*(-b) + 24*D2*D4*p*p*(-b)*(-b) - 9*D3*D3*p*p*(-b)*(-b))))
  (hGy : Gy = 4*D4*p+D3*q) (hGx : Gx = 4*D4*p*p*p+3*D3*p*p*q+2*D2*p*q*q+D1*q*q*q)
  (ht0 : t0 = 432*Y*q*b*Gx) (ht1 : t1 = 432*Y*q*Gy) :
  2*(12*w0*b-12*X*b*(q*q))*V2+(-2*X*(w0*w0+Dx*(36*b*b))+(6*I-2*X*X)*w0*(q*q)+(6*I*X+4*J)*(q*q*q*q))*(-6*em)+(-24*X*w0*b+(6*I-2*X*X)*(6*b)*(q*q))*w2+(w2*t1+(-6*em)*t0) = 0 := by
  subst h4 h3 h2 h1 h0
  subst k4 k3 k2 k1 k0
  subst hI hJ hX hY hDx hw0 hw1 hem hzz hw2 hV1 hV2 hGy hGx ht0 ht1
  grind

theorem n_m22e (a b d e f p q D4 D3 D2 D1 D0 H4 H3 H2 H1 H0 I J X Y Dx w0 w1 w2 V1 V2 em zz Gy Gx t0 t1 : Int)
  (h4 : D4 = b*b) (h3 : D3 = 2*b*d-4*a*e) (h2 : D2 = d*d-2*b*e-4*a*f) (h1 : D1 = 2*d*e-4*b*f) (h0 : D0 = e*e)
  (k4 : H4 = 3*D3*D3-8*D4*D2) (k3 : H3 = 4*(D3*D2-6*D4*D1)) (k2 : H2 = 2*(2*D2*D2-24*D4*D0-3*D3*D1)) (k1 : H1 = 4*(D2*D1-6*D3*D0)) (k0 : H0 = 3*D1*D1-8*D2*D0)
  (hI : I = 12*D4*D0-3*D3*D1+D2*D2) (hJ : J = 72*D4*D2*D0+9*D3*D2*D1-27*D4*D1*D1-27*D3*D3*D0-2*D2*D2*D2)
  (hX : X = d*d+4*(b*e-a*f)) (hY : Y = -a*e*e-b*b*f+b*d*e)
  (hDx : Dx = D4*p*p*p*p+D3*p*p*p*q+D2*p*p*q*q+D1*p*q*q*q+D0*q*q*q*q)
  (hw0 : w0 = (6*D0*q*q*0*0+3*D1*p*q*0*0+3*D1*q*q*1*0+D2*p*p*0*0+4*D2*p*q*1*0+D2*q*q+3*D3*p*p*1*0+3*D3*p*q+6*D4*p*p)) (hw1 : w1 = 6*D0*q*q+3*D1*p*q+D2*p*p) (hem : em = -(b*b*b-a*b*d+a*a*e)) (hzz : zz = p*a+q*b)
  (hw2 : w2 = (6*D0*q*q*a*a+3*D1*p*q*a*a+3*D1*q*q*(-b)*a+D2*p*p*a*a+4*D2*p*q*(-b)*a+D2*q*q*(-b)*(-b)+3*D3*p*p*(-b)*a+3*D3*p*q*(-b)*(-b)+6*D4*p*p*(-b)*(-b)))
  (hV1 : V1 = -(24*D0*D2*q*q+36*D0*D3*p*q+36*D0*D4*p*p-9*D1*D1*q*q-6*D1*D2*p*q-D2*D2*p*p))
  (hV2 : V2 = (-(24*D0*D2*q*q*a*a + 36*D0*D3*p*q*a*a + 36*D0*D3*q*q*(-b)*a + 36*D0*D4*p*p*a*a + 72*D0*D4*p*q*(-b)*a + 36*D0*D4*q*q*(-b)*(-b) - 9*D1*D1*q*q*a*a - 6*D1*D2*p*q*a*a - 6*D1*D2*q*q*(-b)*a + 18*D1*D3*p*q*(-b)*a + 36*D1*D4*p*p*(-b)*a + 36*D1*D4*p*q*(-b)*(-b) - D2*D2*p*p*a*a - 10*D2*D2*p*q*(-b)*a - D2*D2*q*q*(-b)*(-b) - 6*D2*D3*p*p*(-b)*a - 6*D2*D3*p*q*(-b)*(-b) + 24*D2*D4*p*p*(-b)*(-b) - 9*D3*D3*p*p*(-b)*(-b))))
  (hGy : Gy = 4*D4*p+D3*q) (hGx : Gx = 4*D4*p*p*p+3*D3*p*p*q+2*D2*p*q*q+D1*q*q*q)
  (ht0 : t0 = 432*Y*q*b*Gx) (ht1 : t1 = 432*Y*q*Gy) :
  (-2*X*(w0*w0+Dx*(36*b*b))+(6*I-2*X*X)*w0*(q*q)+(6*I*X+4*J)*(q*q*q*q))*V2+2*(X*X*(w0*w0+Dx*(36*b*b))+(6*I*X+4*J)*w0*(q*q)+(9*I*I+4*J*X)*(q*q*q*q))*w2+2*(12*X*X*w0*b+(6*I*X+4*J)*(6*b)*(q*q))*(-6*em)*Dx-(V2*t0) = 0 := by
  subst h4 h3 h2 h1 h0
  subst k4 k3 k2 k1 k0
  subst hI hJ hX hY hDx hw0 hw1 hem hzz hw2 hV1 hV2 hGy hGx ht0 ht1
  grind

theorem n_m22o (a b d e f p q D4 D3 D2 D1 D0 H4 H3 H2 H1 H0 I J X Y Dx w0 w1 w2 V1 V2 em zz Gy Gx t0 t1 : Int)
  (h4 : D4 = b*b) (h3 : D3 = 2*b*d-4*a*e) (h2 : D2 = d*d-2*b*e-4*a*f) (h1 : D1 = 2*d*e-4*b*f) (h0 : D0 = e*e)
  (k4 : H4 = 3*D3*D3-8*D4*D2) (k3 : H3 = 4*(D3*D2-6*D4*D1)) (k2 : H2 = 2*(2*D2*D2-24*D4*D0-3*D3*D1)) (k1 : H1 = 4*(D2*D1-6*D3*D0)) (k0 : H0 = 3*D1*D1-8*D2*D0)
  (hI : I = 12*D4*D0-3*D3*D1+D2*D2) (hJ : J = 72*D4*D2*D0+9*D3*D2*D1-27*D4*D1*D1-27*D3*D3*D0-2*D2*D2*D2)
  (hX : X = d*d+4*(b*e-a*f)) (hY : Y = -a*e*e-b*b*f+b*d*e)
  (hDx : Dx = D4*p*p*p*p+D3*p*p*p*q+D2*p*p*q*q+D1*p*q*q*q+D0*q*q*q*q)
  (hw0 : w0 = (6*D0*q*q*0*0+3*D1*p*q*0*0+3*D1*q*q*1*0+D2*p*p*0*0+4*D2*p*q*1*0+D2*q*q+3*D3*p*p*1*0+3*D3*p*q+6*D4*p*p)) (hw1 : w1 = 6*D0*q*q+3*D1*p*q+D2*p*p) (hem : em = -(b*b*b-a*b*d+a*a*e)) (hzz : zz = p*a+q*b)
  (hw2 : w2 = (6*D0*q*q*a*a+3*D1*p*q*a*a+3*D1*q*q*(-b)*a+D2*p*p*a*a+4*D2*p*q*(-b)*a+D2*q*q*(-b)*(-b)+3*D3*p*p*(-b)*a+3*D3*p*q*(-b)*(-b)+6*D4*p*p*(-b)*(-b)))
  (hV1 : V1 = -(24*D0*D2*q*q+36*D0*D3*p*q+36*D0*D4*p*p-9*D1*D1*q*q-6*D1*D2*p*q-D2*D2*p*p))
  (hV2 : V2 = (-(24*D0*D2*q*q*a*a + 36*D0*D3*p*q*a*a + 36*D0*D3*q*q*(-b)*a + 36*D0*D4*p*p*a*a + 72*D0*D4*p*q*(-b)*a + 36*D0*D4*q*q*(-b)*(-b) - 9*D1*D1*q*q*a*a - 6*D1*D2*p*q*a*a - 6*D1*D2*q*q*(-b)*a + 18*D1*D3*p*q*(-b)*a + 36*D1*D4*p*p*(-b)*a + 36*D1*D4*p*q*(-b)*(-b) - D2*D2*p*p*a*a - 10*D2*D2*p*q*(-b)*a - D2*D2*q*q*(-b)*(-b) - 6*D2*D3*p*p*(-b)*a - 6*D2*D3*p*q*(-b)*(-b) + 24*D2*D4*p*p*(-b)*(-b) - 9*D3*D3*p*p*(-b)*(-b))))
  (hGy : Gy = 4*D4*p+D3*q) (hGx : Gx = 4*D4*p*p*p+3*D3*p*p*q+2*D2*p*q*q+D1*q*q*q)
  (ht0 : t0 = 432*Y*q*b*Gx) (ht1 : t1 = 432*Y*q*Gy) :
  (-24*X*w0*b+(6*I-2*X*X)*(6*b)*(q*q))*V2+2*(X*X*(w0*w0+Dx*(36*b*b))+(6*I*X+4*J)*w0*(q*q)+(9*I*I+4*J*X)*(q*q*q*q))*(-6*em)+2*(12*X*X*w0*b+(6*I*X+4*J)*(6*b)*(q*q))*w2-(V2*t1) = 0 := by
  subst h4 h3 h2 h1 h0
  subst k4 k3 k2 k1 k0
  subst hI hJ hX hY hDx hw0 hw1 hem hzz hw2 hV1 hV2 hGy hGx ht0 ht1
  grind
end DL

namespace DL

theorem glue1p (w0 b q t X I J Dx g0 g1 h0 h1 t0 t1 : Int) (hD : t*t = Dx) : 2*(w0*w0+Dx*(36*b*b)-2*X*w0*(q*q)+X*X*(q*q*q*q))*g0+2*(12*w0*b-12*X*b*(q*q))*g1*Dx+(-2*X*(w0*w0+Dx*(36*b*b))+(6*I-2*X*X)*w0*(q*q)+(6*I*X+4*J)*(q*q*q*q))*h0+(-24*X*w0*b+(6*I-2*X*X)*(6*b)*(q*q))*h1*Dx-(h0*t0+h1*t1*Dx) = 0 → 2*(w0*w0+Dx*(36*b*b)-2*X*w0*(q*q)+X*X*(q*q*q*q))*g1+2*(12*w0*b-12*X*b*(q*q))*g0+(-2*X*(w0*w0+Dx*(36*b*b))+(6*I-2*X*X)*w0*(q*q)+(6*I*X+4*J)*(q*q*q*q))*h1+(-24*X*w0*b+(6*I-2*X*X)*(6*b)*(q*q))*h0-(h0*t1+h1*t0) = 0 → 2*((w0+6*b*t)*(w0+6*b*t)-2*X*((w0+6*b*t)*(q*q))+X*X*((q*q)*(q*q)))*(g0+g1*t)+(-2*X*((w0+6*b*t)*(w0+6*b*t))+(6*I-2*X*X)*((w0+6*b*t)*(q*q))+(6*I*X+4*J)*((q*q)*(q*q)))*(h0+h1*t) = ((h0+h1*t)*(t0+t1*t)) := by
  subst hD
  have e : 2*((w0+6*b*t)*(w0+6*b*t)-2*X*((w0+6*b*t)*(q*q))+X*X*((q*q)*(q*q)))*(g0+g1*t)+(-2*X*((w0+6*b*t)*(w0+6*b*t))+(6*I-2*X*X)*((w0+6*b*t)*(q*q))+(6*I*X+4*J)*((q*q)*(q*q)))*(h0+h1*t) - (((h0+h1*t)*(t0+t1*t))) = (2*(w0*w0+(t*t)*(36*b*b)-2*X*w0*(q*q)+X*X*(q*q*q*q))*g0+2*(12*w0*b-12*X*b*(q*q))*g1*(t*t)+(-2*X*(w0*w0+(t*t)*(36*b*b))+(6*I-2*X*X)*w0*(q*q)+(6*I*X+4*J)*(q*q*q*q))*h0+(-24*X*w0*b+(6*I-2*X*X)*(6*b)*(q*q))*h1*(t*t)-(h0*t0+h1*t1*(t*t))) + (2*(w0*w0+(t*t)*(36*b*b)-2*X*w0*(q*q)+X*X*(q*q*q*q))*g1+2*(12*w0*b-12*X*b*(q*q))*g0+(-2*X*(w0*w0+(t*t)*(36*b*b))+(6*I-2*X*X)*w0*(q*q)+(6*I*X+4*J)*(q*q*q*q))*h1+(-24*X*w0*b+(6*I-2*X*X)*(6*b)*(q*q))*h0-(h0*t1+h1*t0))*t := by grind
  intro he ho
  rw [he, ho, Int.zero_mul] at e
  omega

theorem glue1m (w0 b q t X I J Dx g0 g1 h0 h1 t0 t1 : Int) (hD : t*t = Dx) : 2*(w0*w0+Dx*(36*b*b)-2*X*w0*(q*q)+X*X*(q*q*q*q))*g0+2*(12*w0*b-12*X*b*(q*q))*g1*Dx+(-2*X*(w0*w0+Dx*(36*b*b))+(6*I-2*X*X)*w0*(q*q)+(6*I*X+4*J)*(q*q*q*q))*h0+(-24*X*w0*b+(6*I-2*X*X)*(6*b)*(q*q))*h1*Dx+(h0*t0+h1*t1*Dx) = 0 → 2*(w0*w0+Dx*(36*b*b)-2*X*w0*(q*q)+X*X*(q*q*q*q))*g1+2*(12*w0*b-12*X*b*(q*q))*g0+(-2*X*(w0*w0+Dx*(36*b*b))+(6*I-2*X*X)*w0*(q*q)+(6*I*X+4*J)*(q*q*q*q))*h1+(-24*X*w0*b+(6*I-2*X*X)*(6*b)*(q*q))*h0+(h0*t1+h1*t0) = 0 → 2*((w0+6*b*t)*(w0+6*b*t)-2*X*((w0+6*b*t)*(q*q))+X*X*((q*q)*(q*q)))*(g0+g1*t)+(-2*X*((w0+6*b*t)*(w0+6*b*t))+(6*I-2*X*X)*((w0+6*b*t)*(q*q))+(6*I*X+4*J)*((q*q)*(q*q)))*(h0+h1*t) = -((h0+h1*t)*(t0+t1*t)) := by
  subst hD
  have e : 2*((w0+6*b*t)*(w0+6*b*t)-2*X*((w0+6*b*t)*(q*q))+X*X*((q*q)*(q*q)))*(g0+g1*t)+(-2*X*((w0+6*b*t)*(w0+6*b*t))+(6*I-2*X*X)*((w0+6*b*t)*(q*q))+(6*I*X+4*J)*((q*q)*(q*q)))*(h0+h1*t) - (-((h0+h1*t)*(t0+t1*t))) = (2*(w0*w0+(t*t)*(36*b*b)-2*X*w0*(q*q)+X*X*(q*q*q*q))*g0+2*(12*w0*b-12*X*b*(q*q))*g1*(t*t)+(-2*X*(w0*w0+(t*t)*(36*b*b))+(6*I-2*X*X)*w0*(q*q)+(6*I*X+4*J)*(q*q*q*q))*h0+(-24*X*w0*b+(6*I-2*X*X)*(6*b)*(q*q))*h1*(t*t)+(h0*t0+h1*t1*(t*t))) + (2*(w0*w0+(t*t)*(36*b*b)-2*X*w0*(q*q)+X*X*(q*q*q*q))*g1+2*(12*w0*b-12*X*b*(q*q))*g0+(-2*X*(w0*w0+(t*t)*(36*b*b))+(6*I-2*X*X)*w0*(q*q)+(6*I*X+4*J)*(q*q*q*q))*h1+(-24*X*w0*b+(6*I-2*X*X)*(6*b)*(q*q))*h0+(h0*t1+h1*t0))*t := by grind
  intro he ho
  rw [he, ho, Int.zero_mul] at e
  omega

theorem glue2p (w0 b q t X I J Dx g0 g1 h0 h1 t0 t1 : Int) (hD : t*t = Dx) : (-2*X*(w0*w0+Dx*(36*b*b))+(6*I-2*X*X)*w0*(q*q)+(6*I*X+4*J)*(q*q*q*q))*g0+(-24*X*w0*b+(6*I-2*X*X)*(6*b)*(q*q))*g1*Dx+2*(X*X*(w0*w0+Dx*(36*b*b))+(6*I*X+4*J)*w0*(q*q)+(9*I*I+4*J*X)*(q*q*q*q))*h0+2*(12*X*X*w0*b+(6*I*X+4*J)*(6*b)*(q*q))*h1*Dx+(g0*t0+g1*t1*Dx) = 0 → (-2*X*(w0*w0+Dx*(36*b*b))+(6*I-2*X*X)*w0*(q*q)+(6*I*X+4*J)*(q*q*q*q))*g1+(-24*X*w0*b+(6*I-2*X*X)*(6*b)*(q*q))*g0+2*(X*X*(w0*w0+Dx*(36*b*b))+(6*I*X+4*J)*w0*(q*q)+(9*I*I+4*J*X)*(q*q*q*q))*h1+2*(12*X*X*w0*b+(6*I*X+4*J)*(6*b)*(q*q))*h0+(g0*t1+g1*t0) = 0 → (-2*X*((w0+6*b*t)*(w0+6*b*t))+(6*I-2*X*X)*((w0+6*b*t)*(q*q))+(6*I*X+4*J)*((q*q)*(q*q)))*(g0+g1*t)+2*(X*X*((w0+6*b*t)*(w0+6*b*t))+(6*I*X+4*J)*((w0+6*b*t)*(q*q))+(9*I*I+4*J*X)*((q*q)*(q*q)))*(h0+h1*t) = -((g0+g1*t)*(t0+t1*t)) := by
  subst hD
  have e : (-2*X*((w0+6*b*t)*(w0+6*b*t))+(6*I-2*X*X)*((w0+6*b*t)*(q*q))+(6*I*X+4*J)*((q*q)*(q*q)))*(g0+g1*t)+2*(X*X*((w0+6*b*t)*(w0+6*b*t))+(6*I*X+4*J)*((w0+6*b*t)*(q*q))+(9*I*I+4*J*X)*((q*q)*(q*q)))*(h0+h1*t) - (-((g0+g1*t)*(t0+t1*t))) = ((-2*X*(w0*w0+(t*t)*(36*b*b))+(6*I-2*X*X)*w0*(q*q)+(6*I*X+4*J)*(q*q*q*q))*g0+(-24*X*w0*b+(6*I-2*X*X)*(6*b)*(q*q))*g1*(t*t)+2*(X*X*(w0*w0+(t*t)*(36*b*b))+(6*I*X+4*J)*w0*(q*q)+(9*I*I+4*J*X)*(q*q*q*q))*h0+2*(12*X*X*w0*b+(6*I*X+4*J)*(6*b)*(q*q))*h1*(t*t)+(g0*t0+g1*t1*(t*t))) + ((-2*X*(w0*w0+(t*t)*(36*b*b))+(6*I-2*X*X)*w0*(q*q)+(6*I*X+4*J)*(q*q*q*q))*g1+(-24*X*w0*b+(6*I-2*X*X)*(6*b)*(q*q))*g0+2*(X*X*(w0*w0+(t*t)*(36*b*b))+(6*I*X+4*J)*w0*(q*q)+(9*I*I+4*J*X)*(q*q*q*q))*h1+2*(12*X*X*w0*b+(6*I*X+4*J)*(6*b)*(q*q))*h0+(g0*t1+g1*t0))*t := by grind
  intro he ho
  rw [he, ho, Int.zero_mul] at e
  omega

theorem glue2m (w0 b q t X I J Dx g0 g1 h0 h1 t0 t1 : Int) (hD : t*t = Dx) : (-2*X*(w0*w0+Dx*(36*b*b))+(6*I-2*X*X)*w0*(q*q)+(6*I*X+4*J)*(q*q*q*q))*g0+(-24*X*w0*b+(6*I-2*X*X)*(6*b)*(q*q))*g1*Dx+2*(X*X*(w0*w0+Dx*(36*b*b))+(6*I*X+4*J)*w0*(q*q)+(9*I*I+4*J*X)*(q*q*q*q))*h0+2*(12*X*X*w0*b+(6*I*X+4*J)*(6*b)*(q*q))*h1*Dx-(g0*t0+g1*t1*Dx) = 0 → (-2*X*(w0*w0+Dx*(36*b*b))+(6*I-2*X*X)*w0*(q*q)+(6*I*X+4*J)*(q*q*q*q))*g1+(-24*X*w0*b+(6*I-2*X*X)*(6*b)*(q*q))*g0+2*(X*X*(w0*w0+Dx*(36*b*b))+(6*I*X+4*J)*w0*(q*q)+(9*I*I+4*J*X)*(q*q*q*q))*h1+2*(12*X*X*w0*b+(6*I*X+4*J)*(6*b)*(q*q))*h0-(g0*t1+g1*t0) = 0 → (-2*X*((w0+6*b*t)*(w0+6*b*t))+(6*I-2*X*X)*((w0+6*b*t)*(q*q))+(6*I*X+4*J)*((q*q)*(q*q)))*(g0+g1*t)+2*(X*X*((w0+6*b*t)*(w0+6*b*t))+(6*I*X+4*J)*((w0+6*b*t)*(q*q))+(9*I*I+4*J*X)*((q*q)*(q*q)))*(h0+h1*t) = ((g0+g1*t)*(t0+t1*t)) := by
  subst hD
  have e : (-2*X*((w0+6*b*t)*(w0+6*b*t))+(6*I-2*X*X)*((w0+6*b*t)*(q*q))+(6*I*X+4*J)*((q*q)*(q*q)))*(g0+g1*t)+2*(X*X*((w0+6*b*t)*(w0+6*b*t))+(6*I*X+4*J)*((w0+6*b*t)*(q*q))+(9*I*I+4*J*X)*((q*q)*(q*q)))*(h0+h1*t) - (((g0+g1*t)*(t0+t1*t))) = ((-2*X*(w0*w0+(t*t)*(36*b*b))+(6*I-2*X*X)*w0*(q*q)+(6*I*X+4*J)*(q*q*q*q))*g0+(-24*X*w0*b+(6*I-2*X*X)*(6*b)*(q*q))*g1*(t*t)+2*(X*X*(w0*w0+(t*t)*(36*b*b))+(6*I*X+4*J)*w0*(q*q)+(9*I*I+4*J*X)*(q*q*q*q))*h0+2*(12*X*X*w0*b+(6*I*X+4*J)*(6*b)*(q*q))*h1*(t*t)-(g0*t0+g1*t1*(t*t))) + ((-2*X*(w0*w0+(t*t)*(36*b*b))+(6*I-2*X*X)*w0*(q*q)+(6*I*X+4*J)*(q*q*q*q))*g1+(-24*X*w0*b+(6*I-2*X*X)*(6*b)*(q*q))*g0+2*(X*X*(w0*w0+(t*t)*(36*b*b))+(6*I*X+4*J)*w0*(q*q)+(9*I*I+4*J*X)*(q*q*q*q))*h1+2*(12*X*X*w0*b+(6*I*X+4*J)*(6*b)*(q*q))*h0-(g0*t1+g1*t0))*t := by grind
  intro he ho
  rw [he, ho, Int.zero_mul] at e
  omega

theorem s_p11 (a b d e f p q D4 D3 D2 D1 D0 H4 H3 H2 H1 H0 I J X Y Dx w0 w1 w2 V1 V2 em zz Gy Gx t0 t1 t : Int)
  (h4 : D4 = b*b) (h3 : D3 = 2*b*d-4*a*e) (h2 : D2 = d*d-2*b*e-4*a*f) (h1 : D1 = 2*d*e-4*b*f) (h0 : D0 = e*e)
  (k4 : H4 = 3*D3*D3-8*D4*D2) (k3 : H3 = 4*(D3*D2-6*D4*D1)) (k2 : H2 = 2*(2*D2*D2-24*D4*D0-3*D3*D1)) (k1 : H1 = 4*(D2*D1-6*D3*D0)) (k0 : H0 = 3*D1*D1-8*D2*D0)
  (hI : I = 12*D4*D0-3*D3*D1+D2*D2) (hJ : J = 72*D4*D2*D0+9*D3*D2*D1-27*D4*D1*D1-27*D3*D3*D0-2*D2*D2*D2)
  (hX : X = d*d+4*(b*e-a*f)) (hY : Y = -a*e*e-b*b*f+b*d*e)
  (hDx : Dx = D4*p*p*p*p+D3*p*p*p*q+D2*p*p*q*q+D1*p*q*q*q+D0*q*q*q*q)
  (hw0 : w0 = (6*D0*q*q*0*0+3*D1*p*q*0*0+3*D1*q*q*1*0+D2*p*p*0*0+4*D2*p*q*1*0+D2*q*q+3*D3*p*p*1*0+3*D3*p*q+6*D4*p*p)) (hw1 : w1 = 6*D0*q*q+3*D1*p*q+D2*p*p) (hem : em = -(b*b*b-a*b*d+a*a*e)) (hzz : zz = p*a+q*b)
  (hw2 : w2 = (6*D0*q*q*a*a+3*D1*p*q*a*a+3*D1*q*q*(-b)*a+D2*p*p*a*a+4*D2*p*q*(-b)*a+D2*q*q*(-b)*(-b)+3*D3*p*p*(-b)*a+3*D3*p*q*(-b)*(-b)+6*D4*p*p*(-b)*(-b)))
  (hV1 : V1 = -(24*D0*D2*q*q+36*D0*D3*p*q+36*D0*D4*p*p-9*D1*D1*q*q-6*D1*D2*p*q-D2*D2*p*p))
  (hV2 : V2 = (-(24*D0*D2*q*q*a*a + 36*D0*D3*p*q*a*a + 36*D0*D3*q*q*(-b)*a + 36*D0*D4*p*p*a*a + 72*D0*D4*p*q*(-b)*a + 36*D0*D4*q*q*(-b)*(-b) - 9*D1*D1*q*q*a*a - 6*D1*D2*p*q*a*a - 6*D1*D2*q*q*(-b)*a + 18*D1*D3*p*q*(-b)*a + 36*D1*D4*p*p*(-b)*a + 36*D1*D4*p*q*(-b)*(-b) - D2*D2*p*p*a*a - 10*D2*D2*p*q*(-b)*a - D2*D2*q*q*(-b)*(-b) - 6*D2*D3*p*p*(-b)*a - 6*D2*D3*p*q*(-b)*(-b) + 24*D2*D4*p*p*(-b)*(-b) - 9*D3*D3*p*p*(-b)*(-b))))
  (hGy : Gy = 4*D4*p+D3*q) (hGx : Gx = 4*D4*p*p*p+3*D3*p*p*q+2*D2*p*q*q+D1*q*q*q)
  (ht0 : t0 = 432*Y*q*b*Gx) (ht1 : t1 = 432*Y*q*Gy) (hD : t*t = Dx) :
  2*((w0+6*b*t)*(w0+6*b*t)-2*X*((w0+6*b*t)*(q*q))+X*X*((q*q)*(q*q)))*(w1+(6*e)*t)+(-2*X*((w0+6*b*t)*(w0+6*b*t))+(6*I-2*X*X)*((w0+6*b*t)*(q*q))+(6*I*X+4*J)*((q*q)*(q*q)))*(p*p+(0)*t) = ((p*p+(0)*t)*(t0+t1*t)) := by
  have he := n_p11e a b d e f p q D4 D3 D2 D1 D0 H4 H3 H2 H1 H0 I J X Y Dx w0 w1 w2 V1 V2 em zz Gy Gx t0 t1 h4 h3 h2 h1 h0 k4 k3 k2 k1 k0 hI hJ hX hY hDx hw0 hw1 hem hzz hw2 hV1 hV2 hGy hGx ht0 ht1
  have ho := n_p11o a b d e f p q D4 D3 D2 D1 D0 H4 H3 H2 H1 H0 I J X Y Dx w0 w1 w2 V1 V2 em zz Gy Gx t0 t1 h4 h3 h2 h1 h0 k4 k3 k2 k1 k0 hI hJ hX hY hDx hw0 hw1 hem hzz hw2 hV1 hV2 hGy hGx ht0 ht1
  clear h4 h3 h2 h1 h0 k4 k3 k2 k1 k0 hI hJ hX hY hDx hw0 hw1 hem hzz hw2 hV1 hV2 hGy hGx ht0 ht1
  refine glue1p w0 b q t X I J Dx (w1) (6*e) (p*p) (0) t0 t1 hD ?_ ?_
  · grind
  · grind

theorem s_p12 (a b d e f p q D4 D3 D2 D1 D0 H4 H3 H2 H1 H0 I J X Y Dx w0 w1 w2 V1 V2 em zz Gy Gx t0 t1 t : Int)
  (h4 : D4 = b*b) (h3 : D3 = 2*b*d-4*a*e) (h2 : D2 = d*d-2*b*e-4*a*f) (h1 : D1 = 2*d*e-4*b*f) (h0 : D0 = e*e)
  (k4 : H4 = 3*D3*D3-8*D4*D2) (k3 : H3 = 4*(D3*D2-6*D4*D1)) (k2 : H2 = 2*(2*D2*D2-24*D4*D0-3*D3*D1)) (k1 : H1 = 4*(D2*D1-6*D3*D0)) (k0 : H0 = 3*D1*D1-8*D2*D0)
  (hI : I = 12*D4*D0-3*D3*D1+D2*D2) (hJ : J = 72*D4*D2*D0+9*D3*D2*D1-27*D4*D1*D1-27*D3*D3*D0-2*D2*D2*D2)
  (hX : X = d*d+4*(b*e-a*f)) (hY : Y = -a*e*e-b*b*f+b*d*e)
  (hDx : Dx = D4*p*p*p*p+D3*p*p*p*q+D2*p*p*q*q+D1*p*q*q*q+D0*q*q*q*q)
  (hw0 : w0 = (6*D0*q*q*0*0+3*D1*p*q*0*0+3*D1*q*q*1*0+D2*p*p*0*0+4*D2*p*q*1*0+D2*q*q+3*D3*p*p*1*0+3*D3*p*q+6*D4*p*p)) (hw1 : w1 = 6*D0*q*q+3*D1*p*q+D2*p*p) (hem : em = -(b*b*b-a*b*d+a*a*e)) (hzz : zz = p*a+q*b)
  (hw2 : w2 = (6*D0*q*q*a*a+3*D1*p*q*a*a+3*D1*q*q*(-b)*a+D2*p*p*a*a+4*D2*p*q*(-b)*a+D2*q*q*(-b)*(-b)+3*D3*p*p*(-b)*a+3*D3*p*q*(-b)*(-b)+6*D4*p*p*(-b)*(-b)))
  (hV1 : V1 = -(24*D0*D2*q*q+36*D0*D3*p*q+36*D0*D4*p*p-9*D1*D1*q*q-6*D1*D2*p*q-D2*D2*p*p))
  (hV2 : V2 = (-(24*D0*D2*q*q*a*a + 36*D0*D3*p*q*a*a + 36*D0*D3*q*q*(-b)*a + 36*D0*D4*p*p*a*a + 72*D0*D4*p*q*(-b)*a + 36*D0*D4*q*q*(-b)*(-b) - 9*D1*D1*q*q*a*a - 6*D1*D2*p*q*a*a - 6*D1*D2*q*q*(-b)*a + 18*D1*D3*p*q*(-b)*a + 36*D1*D4*p*p*(-b)*a + 36*D1*D4*p*q*(-b)*(-b) - D2*D2*p*p*a*a - 10*D2*D2*p*q*(-b)*a - D2*D2*q*q*(-b)*(-b) - 6*D2*D3*p*p*(-b)*a - 6*D2*D3*p*q*(-b)*(-b) + 24*D2*D4*p*p*(-b)*(-b) - 9*D3*D3*p*p*(-b)*(-b))))
  (hGy : Gy = 4*D4*p+D3*q) (hGx : Gx = 4*D4*p*p*p+3*D3*p*p*q+2*D2*p*q*q+D1*q*q*q)
  (ht0 : t0 = 432*Y*q*b*Gx) (ht1 : t1 = 432*Y*q*Gy) (hD : t*t = Dx) :
  (-2*X*((w0+6*b*t)*(w0+6*b*t))+(6*I-2*X*X)*((w0+6*b*t)*(q*q))+(6*I*X+4*J)*((q*q)*(q*q)))*(w1+(6*e)*t)+2*(X*X*((w0+6*b*t)*(w0+6*b*t))+(6*I*X+4*J)*((w0+6*b*t)*(q*q))+(9*I*I+4*J*X)*((q*q)*(q*q)))*(p*p+(0)*t) = -((w1+(6*e)*t)*(t0+t1*t)) := by
  have he := n_p12e a b d e f p q D4 D3 D2 D1 D0 H4 H3 H2 H1 H0 I J X Y Dx w0 w1 w2 V1 V2 em zz Gy Gx t0 t1 h4 h3 h2 h1 h0 k4 k3 k2 k1 k0 hI hJ hX hY hDx hw0 hw1 hem hzz hw2 hV1 hV2 hGy hGx ht0 ht1
  have ho := n_p12o a b d e f p q D4 D3 D2 D1 D0 H4 H3 H2 H1 H0 I J X Y Dx w0 w1 w2 V1 V2 em zz Gy Gx t0 t1 h4 h3 h2 h1 h0 k4 k3 k2 k1 k0 hI hJ hX hY hDx hw0 hw1 hem hzz hw2 hV1 hV2 hGy hGx ht0 ht1
  clear h4 h3 h2 h1 h0 k4 k3 k2 k1 k0 hI hJ hX hY hDx hw0 hw1 hem hzz hw2 hV1 hV2 hGy hGx ht0 ht1
  refine glue2p w0 b q t X I J Dx (w1) (6*e) (p*p) (0) t0 t1 hD ?_ ?_
  · grind
  · grind

theorem s_p21 (a b d e f p q D4 D3 D2 D1 D0 H4 H3 H2 H1 H0 I J X Y Dx w0 w1 w2 V1 V2 em zz Gy Gx t0 t1 t : Int)
  (h4 : D4 = b*b) (h3 : D3 = 2*b*d-4*a*e) (h2 : D2 = d*d-2*b*e-4*a*f) (h1 : D1 = 2*d*e-4*b*f) (h0 : D0 = e*e)
  (k4 : H4 = 3*D3*D3-8*D4*D2) (k3 : H3 = 4*(D3*D2-6*D4*D1)) (k2 : H2 = 2*(2*D2*D2-24*D4*D0-3*D3*D1)) (k1 : H1 = 4*(D2*D1-6*D3*D0)) (k0 : H0 = 3*D1*D1-8*D2*D0)
  (hI : I = 12*D4*D0-3*D3*D1+D2*D2) (hJ : J = 72*D4*D2*D0+9*D3*D2*D1-27*D4*D1*D1-27*D3*D3*D0-2*D2*D2*D2)
  (hX : X = d*d+4*(b*e-a*f)) (hY : Y = -a*e*e-b*b*f+b*d*e)
  (hDx : Dx = D4*p*p*p*p+D3*p*p*p*q+D2*p*p*q*q+D1*p*q*q*q+D0*q*q*q*q)
  (hw0 : w0 = (6*D0*q*q*0*0+3*D1*p*q*0*0+3*D1*q*q*1*0+D2*p*p*0*0+4*D2*p*q*1*0+D2*q*q+3*D3*p*p*1*0+3*D3*p*q+6*D4*p*p)) (hw1 : w1 = 6*D0*q*q+3*D1*p*q+D2*p*p) (hem : em = -(b*b*b-a*b*d+a*a*e)) (hzz : zz = p*a+q*b)
  (hw2 : w2 = (6*D0*q*q*a*a+3*D1*p*q*a*a+3*D1*q*q*(-b)*a+D2*p*p*a*a+4*D2*p*q*(-b)*a+D2*q*q*(-b)*(-b)+3*D3*p*p*(-b)*a+3*D3*p*q*(-b)*(-b)+6*D4*p*p*(-b)*(-b)))
  (hV1 : V1 = -(24*D0*D2*q*q+36*D0*D3*p*q+36*D0*D4*p*p-9*D1*D1*q*q-6*D1*D2*p*q-D2*D2*p*p))
  (hV2 : V2 = (-(24*D0*D2*q*q*a*a + 36*D0*D3*p*q*a*a + 36*D0*D3*q*q*(-b)*a + 36*D0*D4*p*p*a*a + 72*D0*D4*p*q*(-b)*a + 36*D0*D4*q*q*(-b)*(-b) - 9*D1*D1*q*q*a*a - 6*D1*D2*p*q*a*a - 6*D1*D2*q*q*(-b)*a + 18*D1*D3*p*q*(-b)*a + 36*D1*D4*p*p*(-b)*a + 36*D1*D4*p*q*(-b)*(-b) - D2*D2*p*p*a*a - 10*D2*D2*p*q*(-b)*a - D2*D2*q*q*(-b)*(-b) - 6*D2*D3*p*p*(-b)*a - 6*D2*D3*p*q*(-b)*(-b) + 24*D2*D4*p*p*(-b)*(-b) - 9*D3*D3*p*p*(-b)*(-b))))
  (hGy : Gy = 4*D4*p+D3*q) (hGx : Gx = 4*D4*p*p*p+3*D3*p*p*q+2*D2*p*q*q+D1*q*q*q)
  (ht0 : t0 = 432*Y*q*b*Gx) (ht1 : t1 = 432*Y*q*Gy) (hD : t*t = Dx) :
  2*((w0+6*b*t)*(w0+6*b*t)-2*X*((w0+6*b*t)*(q*q))+X*X*((q*q)*(q*q)))*(V1+(0)*t)+(-2*X*((w0+6*b*t)*(w0+6*b*t))+(6*I-2*X*X)*((w0+6*b*t)*(q*q))+(6*I*X+4*J)*((q*q)*(q*q)))*(w1+(-6*e)*t) = ((w1+(-6*e)*t)*(t0+t1*t)) := by
  have he := n_p21e a b d e f p q D4 D3 D2 D1 D0 H4 H3 H2 H1 H0 I J X Y Dx w0 w1 w2 V1 V2 em zz Gy Gx t0 t1 h4 h3 h2 h1 h0 k4 k3 k2 k1 k0 hI hJ hX hY hDx hw0 hw1 hem hzz hw2 hV1 hV2 hGy hGx ht0 ht1
  have ho := n_p21o a b d e f p q D4 D3 D2 D1 D0 H4 H3 H2 H1 H0 I J X Y Dx w0 w1 w2 V1 V2 em zz Gy Gx t0 t1 h4 h3 h2 h1 h0 k4 k3 k2 k1 k0 hI hJ hX hY hDx hw0 hw1 hem hzz hw2 hV1 hV2 hGy hGx ht0 ht1
  clear h4 h3 h2 h1 h0 k4 k3 k2 k1 k0 hI hJ hX hY hDx hw0 hw1 hem hzz hw2 hV1 hV2 hGy hGx ht0 ht1
  refine glue1p w0 b q t X I J Dx (V1) (0) (w1) (-6*e) t0 t1 hD ?_ ?_
  · grind
  · grind

theorem s_p22 (a b d e f p q D4 D3 D2 D1 D0 H4 H3 H2 H1 H0 I J X Y Dx w0 w1 w2 V1 V2 em zz Gy Gx t0 t1 t : Int)
  (h4 : D4 = b*b) (h3 : D3 = 2*b*d-4*a*e) (h2 : D2 = d*d-2*b*e-4*a*f) (h1 : D1 = 2*d*e-4*b*f) (h0 : D0 = e*e)
  (k4 : H4 = 3*D3*D3-8*D4*D2) (k3 : H3 = 4*(D3*D2-6*D4*D1)) (k2 : H2 = 2*(2*D2*D2-24*D4*D0-3*D3*D1)) (k1 : H1 = 4*(D2*D1-6*D3*D0)) (k0 : H0 = 3*D1*D1-8*D2*D0)
  (hI : I = 12*D4*D0-3*D3*D1+D2*D2) (hJ : J = 72*D4*D2*D0+9*D3*D2*D1-27*D4*D1*D1-27*D3*D3*D0-2*D2*D2*D2)
  (hX : X = d*d+4*(b*e-a*f)) (hY : Y = -a*e*e-b*b*f+b*d*e)
  (hDx : Dx = D4*p*p*p*p+D3*p*p*p*q+D2*p*p*q*q+D1*p*q*q*q+D0*q*q*q*q)
  (hw0 : w0 = (6*D0*q*q*0*0+3*D1*p*q*0*0+3*D1*q*q*1*0+D2*p*p*0*0+4*D2*p*q*1*0+D2*q*q+3*D3*p*p*1*0+3*D3*p*q+6*D4*p*p)) (hw1 : w1 = 6*D0*q*q+3*D1*p*q+D2*p*p) (hem : em = -(b*b*b-a*b*d+a*a*e)) (hzz : zz = p*a+q*b)
  (hw2 : w2 = (6*D0*q*q*a*a+3*D1*p*q*a*a+3*D1*q*q*(-b)*a+D2*p*p*a*a+4*D2*p*q*(-b)*a+D2*q*q*(-b)*(-b)+3*D3*p*p*(-b)*a+3*D3*p*q*(-b)*(-b)+6*D4*p*p*(-b)*(-b)))
  (hV1 : V1 = -(24*D0*D2*q*q+36*D0*D3*p*q+36*D0*D4*p*p-9*D1*D1*q*q-6*D1*D2*p*q-D2*D2*p*p))
  (hV2 : V2 = (-(24*D0*D2*q*q*a*a + 36*D0*D3*p*q*a*a + 36*D0*D3*q*q*(-b)*a + 36*D0*D4*p*p*a*a + 72*D0*D4*p*q*(-b)*a + 36*D0*D4*q*q*(-b)*(-b) - 9*D1*D1*q*q*a*a - 6*D1*D2*p*q*a*a - 6*D1*D2*q*q*(-b)*a + 18*D1*D3*p*q*(-b)*a + 36*D1*D4*p*p*(-b)*a + 36*D1*D4*p*q*(-b)*(-b) - D2*D2*p*p*a*a - 10*D2*D2*p*q*(-b)*a - D2*D2*q*q*(-b)*(-b) - 6*D2*D3*p*p*(-b)*a - 6*D2*D3*p*q*(-b)*(-b) + 24*D2*D4*p*p*(-b)*(-b) - 9*D3*D3*p*p*(-b)*(-b))))
  (hGy : Gy = 4*D4*p+D3*q) (hGx : Gx = 4*D4*p*p*p+3*D3*p*p*q+2*D2*p*q*q+D1*q*q*q)
  (ht0 : t0 = 432*Y*q*b*Gx) (ht1 : t1 = 432*Y*q*Gy) (hD : t*t = Dx) :
  (-2*X*((w0+6*b*t)*(w0+6*b*t))+(6*I-2*X*X)*((w0+6*b*t)*(q*q))+(6*I*X+4*J)*((q*q)*(q*q)))*(V1+(0)*t)+2*(X*X*((w0+6*b*t)*(w0+6*b*t))+(6*I*X+4*J)*((w0+6*b*t)*(q*q))+(9*I*I+4*J*X)*((q*q)*(q*q)))*(w1+(-6*e)*t) = -((V1+(0)*t)*(t0+t1*t)) := by
  have he := n_p22e a b d e f p q D4 D3 D2 D1 D0 H4 H3 H2 H1 H0 I J X Y Dx w0 w1 w2 V1 V2 em zz Gy Gx t0 t1 h4 h3 h2 h1 h0 k4 k3 k2 k1 k0 hI hJ hX hY hDx hw0 hw1 hem hzz hw2 hV1 hV2 hGy hGx ht0 ht1
  have ho := n_p22o a b d e f p q D4 D3 D2 D1 D0 H4 H3 H2 H1 H0 I J X Y Dx w0 w1 w2 V1 V2 em zz Gy Gx t0 t1 h4 h3 h2 h1 h0 k4 k3 k2 k1 k0 hI hJ hX hY hDx hw0 hw1 hem hzz hw2 hV1 hV2 hGy hGx ht0 ht1
  clear h4 h3 h2 h1 h0 k4 k3 k2 k1 k0 hI hJ hX hY hDx hw0 hw1 hem hzz hw2 hV1 hV2 hGy hGx ht0 ht1
  refine glue2p w0 b q t X I J Dx (V1) (0) (w1) (-6*e) t0 t1 hD ?_ ?_
  · grind
  · grind

theorem s_m11 (a b d e f p q D4 D3 D2 D1 D0 H4 H3 H2 H1 H0 I J X Y Dx w0 w1 w2 V1 V2 em zz Gy Gx t0 t1 t : Int)
  (h4 : D4 = b*b) (h3 : D3 = 2*b*d-4*a*e) (h2 : D2 = d*d-2*b*e-4*a*f) (h1 : D1 = 2*d*e-4*b*f) (h0 : D0 = e*e)
  (k4 : H4 = 3*D3*D3-8*D4*D2) (k3 : H3 = 4*(D3*D2-6*D4*D1)) (k2 : H2 = 2*(2*D2*D2-24*D4*D0-3*D3*D1)) (k1 : H1 = 4*(D2*D1-6*D3*D0)) (k0 : H0 = 3*D1*D1-8*D2*D0)
  (hI : I = 12*D4*D0-3*D3*D1+D2*D2) (hJ : J = 72*D4*D2*D0+9*D3*D2*D1-27*D4*D1*D1-27*D3*D3*D0-2*D2*D2*D2)
  (hX : X = d*d+4*(b*e-a*f)) (hY : Y = -a*e*e-b*b*f+b*d*e)
  (hDx : Dx = D4*p*p*p*p+D3*p*p*p*q+D2*p*p*q*q+D1*p*q*q*q+D0*q*q*q*q)
  (hw0 : w0 = (6*D0*q*q*0*0+3*D1*p*q*0*0+3*D1*q*q*1*0+D2*p*p*0*0+4*D2*p*q*1*0+D2*q*q+3*D3*p*p*1*0+3*D3*p*q+6*D4*p*p)) (hw1 : w1 = 6*D0*q*q+3*D1*p*q+D2*p*p) (hem : em = -(b*b*b-a*b*d+a*a*e)) (hzz : zz = p*a+q*b)
  (hw2 : w2 = (6*D0*q*q*a*a+3*D1*p*q*a*a+3*D1*q*q*(-b)*a+D2*p*p*a*a+4*D2*p*q*(-b)*a+D2*q*q*(-b)*(-b)+3*D3*p*p*(-b)*a+3*D3*p*q*(-b)*(-b)+6*D4*p*p*(-b)*(-b)))
  (hV1 : V1 = -(24*D0*D2*q*q+36*D0*D3*p*q+36*D0*D4*p*p-9*D1*D1*q*q-6*D1*D2*p*q-D2*D2*p*p))
  (hV2 : V2 = (-(24*D0*D2*q*q*a*a + 36*D0*D3*p*q*a*a + 36*D0*D3*q*q*(-b)*a + 36*D0*D4*p*p*a*a + 72*D0*D4*p*q*(-b)*a + 36*D0*D4*q*q*(-b)*(-b) - 9*D1*D1*q*q*a*a - 6*D1*D2*p*q*a*a - 6*D1*D2*q*q*(-b)*a + 18*D1*D3*p*q*(-b)*a + 36*D1*D4*p*p*(-b)*a + 36*D1*D4*p*q*(-b)*(-b) - D2*D2*p*p*a*a - 10*D2*D2*p*q*(-b)*a - D2*D2*q*q*(-b)*(-b) - 6*D2*D3*p*p*(-b)*a - 6*D2*D3*p*q*(-b)*(-b) + 24*D2*D4*p*p*(-b)*(-b) - 9*D3*D3*p*p*(-b)*(-b))))
  (hGy : Gy = 4*D4*p+D3*q) (hGx : Gx = 4*D4*p*p*p+3*D3*p*p*q+2*D2*p*q*q+D1*q*q*q)
  (ht0 : t0 = 432*Y*q*b*Gx) (ht1 : t1 = 432*Y*q*Gy) (hD : t*t = Dx) :
  2*((w0+6*b*t)*(w0+6*b*t)-2*X*((w0+6*b*t)*(q*q))+X*X*((q*q)*(q*q)))*(w2+(6*em)*t)+(-2*X*((w0+6*b*t)*(w0+6*b*t))+(6*I-2*X*X)*((w0+6*b*t)*(q*q))+(6*I*X+4*J)*((q*q)*(q*q)))*(zz*zz+(0)*t) = -((zz*zz+(0)*t)*(t0+t1*t)) := by
  have he := n_m11e a b d e f p q D4 D3 D2 D1 D0 H4 H3 H2 H1 H0 I J X Y Dx w0 w1 w2 V1 V2 em zz Gy Gx t0 t1 h4 h3 h2 h1 h0 k4 k3 k2 k1 k0 hI hJ hX hY hDx hw0 hw1 hem hzz hw2 hV1 hV2 hGy hGx ht0 ht1
  have ho := n_m11o a b d e f p q D4 D3 D2 D1 D0 H4 H3 H2 H1 H0 I J X Y Dx w0 w1 w2 V1 V2 em zz Gy Gx t0 t1 h4 h3 h2 h1 h0 k4 k3 k2 k1 k0 hI hJ hX hY hDx hw0 hw1 hem hzz hw2 hV1 hV2 hGy hGx ht0 ht1
  clear h4 h3 h2 h1 h0 k4 k3 k2 k1 k0 hI hJ hX hY hDx hw0 hw1 hem hzz hw2 hV1 hV2 hGy hGx ht0 ht1
  refine glue1m w0 b q t X I J Dx (w2) (6*em) (zz*zz) (0) t0 t1 hD ?_ ?_
  · grind
  · grind

theorem s_m12 (a b d e f p q D4 D3 D2 D1 D0 H4 H3 H2 H1 H0 I J X Y Dx w0 w1 w2 V1 V2 em zz Gy Gx t0 t1 t : Int)
  (h4 : D4 = b*b) (h3 : D3 = 2*b*d-4*a*e) (h2 : D2 = d*d-2*b*e-4*a*f) (h1 : D1 = 2*d*e-4*b*f) (h0 : D0 = e*e)
  (k4 : H4 = 3*D3*D3-8*D4*D2) (k3 : H3 = 4*(D3*D2-6*D4*D1)) (k2 : H2 = 2*(2*D2*D2-24*D4*D0-3*D3*D1)) (k1 : H1 = 4*(D2*D1-6*D3*D0)) (k0 : H0 = 3*D1*D1-8*D2*D0)
  (hI : I = 12*D4*D0-3*D3*D1+D2*D2) (hJ : J = 72*D4*D2*D0+9*D3*D2*D1-27*D4*D1*D1-27*D3*D3*D0-2*D2*D2*D2)
  (hX : X = d*d+4*(b*e-a*f)) (hY : Y = -a*e*e-b*b*f+b*d*e)
  (hDx : Dx = D4*p*p*p*p+D3*p*p*p*q+D2*p*p*q*q+D1*p*q*q*q+D0*q*q*q*q)
  (hw0 : w0 = (6*D0*q*q*0*0+3*D1*p*q*0*0+3*D1*q*q*1*0+D2*p*p*0*0+4*D2*p*q*1*0+D2*q*q+3*D3*p*p*1*0+3*D3*p*q+6*D4*p*p)) (hw1 : w1 = 6*D0*q*q+3*D1*p*q+D2*p*p) (hem : em = -(b*b*b-a*b*d+a*a*e)) (hzz : zz = p*a+q*b)
  (hw2 : w2 = (6*D0*q*q*a*a+3*D1*p*q*a*a+3*D1*q*q*(-b)*a+D2*p*p*a*a+4*D2*p*q*(-b)*a+D2*q*q*(-b)*(-b)+3*D3*p*p*(-b)*a+3*D3*p*q*(-b)*(-b)+6*D4*p*p*(-b)*(-b)))
  (hV1 : V1 = -(24*D0*D2*q*q+36*D0*D3*p*q+36*D0*D4*p*p-9*D1*D1*q*q-6*D1*D2*p*q-D2*D2*p*p))
  (hV2 : V2 = (-(24*D0*D2*q*q*a*a + 36*D0*D3*p*q*a*a + 36*D0*D3*q*q*(-b)*a + 36*D0*D4*p*p*a*a + 72*D0*D4*p*q*(-b)*a + 36*D0*D4*q*q*(-b)*(-b) - 9*D1*D1*q*q*a*a - 6*D1*D2*p*q*a*a - 6*D1*D2*q*q*(-b)*a + 18*D1*D3*p*q*(-b)*a + 36*D1*D4*p*p*(-b)*a + 36*D1*D4*p*q*(-b)*(-b) - D2*D2*p*p*a*a - 10*D2*D2*p*q*(-b)*a - D2*D2*q*q*(-b)*(-b) - 6*D2*D3*p*p*(-b)*a - 6*D2*D3*p*q*(-b)*(-b) + 24*D2*D4*p*p*(-b)*(-b) - 9*D3*D3*p*p*(-b)*(-b))))
  (hGy : Gy = 4*D4*p+D3*q) (hGx : Gx = 4*D4*p*p*p+3*D3*p*p*q+2*D2*p*q*q+D1*q*q*q)
  (ht0 : t0 = 432*Y*q*b*Gx) (ht1 : t1 = 432*Y*q*Gy) (hD : t*t = Dx) :
  (-2*X*((w0+6*b*t)*(w0+6*b*t))+(6*I-2*X*X)*((w0+6*b*t)*(q*q))+(6*I*X+4*J)*((q*q)*(q*q)))*(w2+(6*em)*t)+2*(X*X*((w0+6*b*t)*(w0+6*b*t))+(6*I*X+4*J)*((w0+6*b*t)*(q*q))+(9*I*I+4*J*X)*((q*q)*(q*q)))*(zz*zz+(0)*t) = ((w2+(6*em)*t)*(t0+t1*t)) := by
  have he := n_m12e a b d e f p q D4 D3 D2 D1 D0 H4 H3 H2 H1 H0 I J X Y Dx w0 w1 w2 V1 V2 em zz Gy Gx t0 t1 h4 h3 h2 h1 h0 k4 k3 k2 k1 k0 hI hJ hX hY hDx hw0 hw1 hem hzz hw2 hV1 hV2 hGy hGx ht0 ht1
  have ho := n_m12o a b d e f p q D4 D3 D2 D1 D0 H4 H3 H2 H1 H0 I J X Y Dx w0 w1 w2 V1 V2 em zz Gy Gx t0 t1 h4 h3 h2 h1 h0 k4 k3 k2 k1 k0 hI hJ hX hY hDx hw0 hw1 hem hzz hw2 hV1 hV2 hGy hGx ht0 ht1
  clear h4 h3 h2 h1 h0 k4 k3 k2 k1 k0 hI hJ hX hY hDx hw0 hw1 hem hzz hw2 hV1 hV2 hGy hGx ht0 ht1
  refine glue2m w0 b q t X I J Dx (w2) (6*em) (zz*zz) (0) t0 t1 hD ?_ ?_
  · grind
  · grind

theorem s_m21 (a b d e f p q D4 D3 D2 D1 D0 H4 H3 H2 H1 H0 I J X Y Dx w0 w1 w2 V1 V2 em zz Gy Gx t0 t1 t : Int)
  (h4 : D4 = b*b) (h3 : D3 = 2*b*d-4*a*e) (h2 : D2 = d*d-2*b*e-4*a*f) (h1 : D1 = 2*d*e-4*b*f) (h0 : D0 = e*e)
  (k4 : H4 = 3*D3*D3-8*D4*D2) (k3 : H3 = 4*(D3*D2-6*D4*D1)) (k2 : H2 = 2*(2*D2*D2-24*D4*D0-3*D3*D1)) (k1 : H1 = 4*(D2*D1-6*D3*D0)) (k0 : H0 = 3*D1*D1-8*D2*D0)
  (hI : I = 12*D4*D0-3*D3*D1+D2*D2) (hJ : J = 72*D4*D2*D0+9*D3*D2*D1-27*D4*D1*D1-27*D3*D3*D0-2*D2*D2*D2)
  (hX : X = d*d+4*(b*e-a*f)) (hY : Y = -a*e*e-b*b*f+b*d*e)
  (hDx : Dx = D4*p*p*p*p+D3*p*p*p*q+D2*p*p*q*q+D1*p*q*q*q+D0*q*q*q*q)
  (hw0 : w0 = (6*D0*q*q*0*0+3*D1*p*q*0*0+3*D1*q*q*1*0+D2*p*p*0*0+4*D2*p*q*1*0+D2*q*q+3*D3*p*p*1*0+3*D3*p*q+6*D4*p*p)) (hw1 : w1 = 6*D0*q*q+3*D1*p*q+D2*p*p) (hem : em = -(b*b*b-a*b*d+a*a*e)) (hzz : zz = p*a+q*b)
  (hw2 : w2 = (6*D0*q*q*a*a+3*D1*p*q*a*a+3*D1*q*q*(-b)*a+D2*p*p*a*a+4*D2*p*q*(-b)*a+D2*q*q*(-b)*(-b)+3*D3*p*p*(-b)*a+3*D3*p*q*(-b)*(-b)+6*D4*p*p*(-b)*(-b)))
  (hV1 : V1 = -(24*D0*D2*q*q+36*D0*D3*p*q+36*D0*D4*p*p-9*D1*D1*q*q-6*D1*D2*p*q-D2*D2*p*p))
  (hV2 : V2 = (-(24*D0*D2*q*q*a*a + 36*D0*D3*p*q*a*a + 36*D0*D3*q*q*(-b)*a + 36*D0*D4*p*p*a*a + 72*D0*D4*p*q*(-b)*a + 36*D0*D4*q*q*(-b)*(-b) - 9*D1*D1*q*q*a*a - 6*D1*D2*p*q*a*a - 6*D1*D2*q*q*(-b)*a + 18*D1*D3*p*q*(-b)*a + 36*D1*D4*p*p*(-b)*a + 36*D1*D4*p*q*(-b)*(-b) - D2*D2*p*p*a*a - 10*D2*D2*p*q*(-b)*a - D2*D2*q*q*(-b)*(-b) - 6*D2*D3*p*p*(-b)*a - 6*D2*D3*p*q*(-b)*(-b) + 24*D2*D4*p*p*(-b)*(-b) - 9*D3*D3*p*p*(-b)*(-b))))
  (hGy : Gy = 4*D4*p+D3*q) (hGx : Gx = 4*D4*p*p*p+3*D3*p*p*q+2*D2*p*q*q+D1*q*q*q)
  (ht0 : t0 = 432*Y*q*b*Gx) (ht1 : t1 = 432*Y*q*Gy) (hD : t*t = Dx) :
  2*((w0+6*b*t)*(w0+6*b*t)-2*X*((w0+6*b*t)*(q*q))+X*X*((q*q)*(q*q)))*(V2+(0)*t)+(-2*X*((w0+6*b*t)*(w0+6*b*t))+(6*I-2*X*X)*((w0+6*b*t)*(q*q))+(6*I*X+4*J)*((q*q)*(q*q)))*(w2+(-6*em)*t) = -((w2+(-6*em)*t)*(t0+t1*t)) := by
  have he := n_m21e a b d e f p q D4 D3 D2 D1 D0 H4 H3 H2 H1 H0 I J X Y Dx w0 w1 w2 V1 V2 em zz Gy Gx t0 t1 h4 h3 h2 h1 h0 k4 k3 k2 k1 k0 hI hJ hX hY hDx hw0 hw1 hem hzz hw2 hV1 hV2 hGy hGx ht0 ht1
  have ho := n_m21o a b d e f p q D4 D3 D2 D1 D0 H4 H3 H2 H1 H0 I J X Y Dx w0 w1 w2 V1 V2 em zz Gy Gx t0 t1 h4 h3 h2 h1 h0 k4 k3 k2 k1 k0 hI hJ hX hY hDx hw0 hw1 hem hzz hw2 hV1 hV2 hGy hGx ht0 ht1
  clear h4 h3 h2 h1 h0 k4 k3 k2 k1 k0 hI hJ hX hY hDx hw0 hw1 hem hzz hw2 hV1 hV2 hGy hGx ht0 ht1
  refine glue1m w0 b q t X I J Dx (V2) (0) (w2) (-6*em) t0 t1 hD ?_ ?_
  · grind
  · grind

theorem s_m22 (a b d e f p q D4 D3 D2 D1 D0 H4 H3 H2 H1 H0 I J X Y Dx w0 w1 w2 V1 V2 em zz Gy Gx t0 t1 t : Int)
  (h4 : D4 = b*b) (h3 : D3 = 2*b*d-4*a*e) (h2 : D2 = d*d-2*b*e-4*a*f) (h1 : D1 = 2*d*e-4*b*f) (h0 : D0 = e*e)
  (k4 : H4 = 3*D3*D3-8*D4*D2) (k3 : H3 = 4*(D3*D2-6*D4*D1)) (k2 : H2 = 2*(2*D2*D2-24*D4*D0-3*D3*D1)) (k1 : H1 = 4*(D2*D1-6*D3*D0)) (k0 : H0 = 3*D1*D1-8*D2*D0)
  (hI : I = 12*D4*D0-3*D3*D1+D2*D2) (hJ : J = 72*D4*D2*D0+9*D3*D2*D1-27*D4*D1*D1-27*D3*D3*D0-2*D2*D2*D2)
  (hX : X = d*d+4*(b*e-a*f)) (hY : Y = -a*e*e-b*b*f+b*d*e)
  (hDx : Dx = D4*p*p*p*p+D3*p*p*p*q+D2*p*p*q*q+D1*p*q*q*q+D0*q*q*q*q)
  (hw0 : w0 = (6*D0*q*q*0*0+3*D1*p*q*0*0+3*D1*q*q*1*0+D2*p*p*0*0+4*D2*p*q*1*0+D2*q*q+3*D3*p*p*1*0+3*D3*p*q+6*D4*p*p)) (hw1 : w1 = 6*D0*q*q+3*D1*p*q+D2*p*p) (hem : em = -(b*b*b-a*b*d+a*a*e)) (hzz : zz = p*a+q*b)
  (hw2 : w2 = (6*D0*q*q*a*a+3*D1*p*q*a*a+3*D1*q*q*(-b)*a+D2*p*p*a*a+4*D2*p*q*(-b)*a+D2*q*q*(-b)*(-b)+3*D3*p*p*(-b)*a+3*D3*p*q*(-b)*(-b)+6*D4*p*p*(-b)*(-b)))
  (hV1 : V1 = -(24*D0*D2*q*q+36*D0*D3*p*q+36*D0*D4*p*p-9*D1*D1*q*q-6*D1*D2*p*q-D2*D2*p*p))
  (hV2 : V2 = (-(24*D0*D2*q*q*a*a + 36*D0*D3*p*q*a*a + 36*D0*D3*q*q*(-b)*a + 36*D0*D4*p*p*a*a + 72*D0*D4*p*q*(-b)*a + 36*D0*D4*q*q*(-b)*(-b) - 9*D1*D1*q*q*a*a - 6*D1*D2*p*q*a*a - 6*D1*D2*q*q*(-b)*a + 18*D1*D3*p*q*(-b)*a + 36*D1*D4*p*p*(-b)*a + 36*D1*D4*p*q*(-b)*(-b) - D2*D2*p*p*a*a - 10*D2*D2*p*q*(-b)*a - D2*D2*q*q*(-b)*(-b) - 6*D2*D3*p*p*(-b)*a - 6*D2*D3*p*q*(-b)*(-b) + 24*D2*D4*p*p*(-b)*(-b) - 9*D3*D3*p*p*(-b)*(-b))))
  (hGy : Gy = 4*D4*p+D3*q) (hGx : Gx = 4*D4*p*p*p+3*D3*p*p*q+2*D2*p*q*q+D1*q*q*q)
  (ht0 : t0 = 432*Y*q*b*Gx) (ht1 : t1 = 432*Y*q*Gy) (hD : t*t = Dx) :
  (-2*X*((w0+6*b*t)*(w0+6*b*t))+(6*I-2*X*X)*((w0+6*b*t)*(q*q))+(6*I*X+4*J)*((q*q)*(q*q)))*(V2+(0)*t)+2*(X*X*((w0+6*b*t)*(w0+6*b*t))+(6*I*X+4*J)*((w0+6*b*t)*(q*q))+(9*I*I+4*J*X)*((q*q)*(q*q)))*(w2+(-6*em)*t) = ((V2+(0)*t)*(t0+t1*t)) := by
  have he := n_m22e a b d e f p q D4 D3 D2 D1 D0 H4 H3 H2 H1 H0 I J X Y Dx w0 w1 w2 V1 V2 em zz Gy Gx t0 t1 h4 h3 h2 h1 h0 k4 k3 k2 k1 k0 hI hJ hX hY hDx hw0 hw1 hem hzz hw2 hV1 hV2 hGy hGx ht0 ht1
  have ho := n_m22o a b d e f p q D4 D3 D2 D1 D0 H4 H3 H2 H1 H0 I J X Y Dx w0 w1 w2 V1 V2 em zz Gy Gx t0 t1 h4 h3 h2 h1 h0 k4 k3 k2 k1 k0 hI hJ hX hY hDx hw0 hw1 hem hzz hw2 hV1 hV2 hGy hGx ht0 ht1
  clear h4 h3 h2 h1 h0 k4 k3 k2 k1 k0 hI hJ hX hY hDx hw0 hw1 hem hzz hw2 hV1 hV2 hGy hGx ht0 ht1
  refine glue2m w0 b q t X I J Dx (V2) (0) (w2) (-6*em) t0 t1 hD ?_ ?_
  · grind
  · grind

theorem q_p (a b d e f D4 D3 D2 D1 D0 I J X em w2 V2 u v : Int)
  (h4 : D4 = b*b) (h3 : D3 = 2*b*d-4*a*e) (h2 : D2 = d*d-2*b*e-4*a*f) (h1 : D1 = 2*d*e-4*b*f) (h0 : D0 = e*e)
  (hI : I = 12*D4*D0-3*D3*D1+D2*D2) (hJ : J = 72*D4*D2*D0+9*D3*D2*D1-27*D4*D1*D1-27*D3*D3*D0-2*D2*D2*D2) (hX : X = d*d+4*(b*e-a*f))
  (hem : em = -(b*b*b-a*b*d+a*a*e)) (hw2 : w2 = D2*a*a-3*D3*a*b+6*D4*b*b) (hV2 : V2 = -(36*D0*D4*a*a-36*D1*D4*a*b-D2*D2*a*a+6*D2*D3*a*b+24*D2*D4*b*b-9*D3*D3*b*b)) (hu : u = 3*D3*D3-8*D4*D2) (hv : v = 4*D4) : (-2*X*(u*u)+(6*I-2*X*X)*(u*v)+(6*I*X+4*J)*(v*v))*(D2-6*b*e)+2*(X*X*(u*u)+(6*I*X+4*J)*(u*v)+(9*I*I+4*J*X)*(v*v)) = -((D2-6*b*e)*(2*(u*u-2*X*(u*v)+X*X*(v*v))*(D2-6*b*e)+(-2*X*(u*u)+(6*I-2*X*X)*(u*v)+(6*I*X+4*J)*(v*v)))) := by
  subst h4 h3 h2 h1 h0
  subst hI hJ hX hem hw2 hV2 hu hv
  grind

theorem q_m11 (a b d e f D4 D3 D2 D1 D0 I J X em w2 V2 u v : Int)
  (h4 : D4 = b*b) (h3 : D3 = 2*b*d-4*a*e) (h2 : D2 = d*d-2*b*e-4*a*f) (h1 : D1 = 2*d*e-4*b*f) (h0 : D0 = e*e)
  (hI : I = 12*D4*D0-3*D3*D1+D2*D2) (hJ : J = 72*D4*D2*D0+9*D3*D2*D1-27*D4*D1*D1-27*D3*D3*D0-2*D2*D2*D2) (hX : X = d*d+4*(b*e-a*f))
  (hem : em = -(b*b*b-a*b*d+a*a*e)) (hw2 : w2 = D2*a*a-3*D3*a*b+6*D4*b*b) (hV2 : V2 = -(36*D0*D4*a*a-36*D1*D4*a*b-D2*D2*a*a+6*D2*D3*a*b+24*D2*D4*b*b-9*D3*D3*b*b)) (hu : u = 3*D3*D3-8*D4*D2) (hv : v = 4*D4) : 2*(u*u-2*X*(u*v)+X*X*(v*v))*(w2-6*b*em)+(-2*X*(u*u)+(6*I-2*X*X)*(u*v)+(6*I*X+4*J)*(v*v))*(a*a) = -((a*a)*(2*(u*u-2*X*(u*v)+X*X*(v*v))*(D2-6*b*e)+(-2*X*(u*u)+(6*I-2*X*X)*(u*v)+(6*I*X+4*J)*(v*v)))) := by
  subst h4 h3 h2 h1 h0
  subst hI hJ hX hem hw2 hV2 hu hv
  grind

theorem q_m12 (a b d e f D4 D3 D2 D1 D0 I J X em w2 V2 u v : Int)
  (h4 : D4 = b*b) (h3 : D3 = 2*b*d-4*a*e) (h2 : D2 = d*d-2*b*e-4*a*f) (h1 : D1 = 2*d*e-4*b*f) (h0 : D0 = e*e)
  (hI : I = 12*D4*D0-3*D3*D1+D2*D2) (hJ : J = 72*D4*D2*D0+9*D3*D2*D1-27*D4*D1*D1-27*D3*D3*D0-2*D2*D2*D2) (hX : X = d*d+4*(b*e-a*f))
  (hem : em = -(b*b*b-a*b*d+a*a*e)) (hw2 : w2 = D2*a*a-3*D3*a*b+6*D4*b*b) (hV2 : V2 = -(36*D0*D4*a*a-36*D1*D4*a*b-D2*D2*a*a+6*D2*D3*a*b+24*D2*D4*b*b-9*D3*D3*b*b)) (hu : u = 3*D3*D3-8*D4*D2) (hv : v = 4*D4) : (-2*X*(u*u)+(6*I-2*X*X)*(u*v)+(6*I*X+4*J)*(v*v))*(w2-6*b*em)+2*(X*X*(u*u)+(6*I*X+4*J)*(u*v)+(9*I*I+4*J*X)*(v*v))*(a*a) = (w2-6*b*em)*(2*(u*u-2*X*(u*v)+X*X*(v*v))*(D2-6*b*e)+(-2*X*(u*u)+(6*I-2*X*X)*(u*v)+(6*I*X+4*J)*(v*v))) := by
  subst h4 h3 h2 h1 h0
  subst hI hJ hX hem hw2 hV2 hu hv
  grind

theorem q_m21 (a b d e f D4 D3 D2 D1 D0 I J X em w2 V2 u v : Int)
  (h4 : D4 = b*b) (h3 : D3 = 2*b*d-4*a*e) (h2 : D2 = d*d-2*b*e-4*a*f) (h1 : D1 = 2*d*e-4*b*f) (h0 : D0 = e*e)
  (hI : I = 12*D4*D0-3*D3*D1+D2*D2) (hJ : J = 72*D4*D2*D0+9*D3*D2*D1-27*D4*D1*D1-27*D3*D3*D0-2*D2*D2*D2) (hX : X = d*d+4*(b*e-a*f))
  (hem : em = -(b*b*b-a*b*d+a*a*e)) (hw2 : w2 = D2*a*a-3*D3*a*b+6*D4*b*b) (hV2 : V2 = -(36*D0*D4*a*a-36*D1*D4*a*b-D2*D2*a*a+6*D2*D3*a*b+24*D2*D4*b*b-9*D3*D3*b*b)) (hu : u = 3*D3*D3-8*D4*D2) (hv : v = 4*D4) : 2*(u*u-2*X*(u*v)+X*X*(v*v))*V2+(-2*X*(u*u)+(6*I-2*X*X)*(u*v)+(6*I*X+4*J)*(v*v))*(w2+6*b*em) = -((w2+6*b*em)*(2*(u*u-2*X*(u*v)+X*X*(v*v))*(D2-6*b*e)+(-2*X*(u*u)+(6*I-2*X*X)*(u*v)+(6*I*X+4*J)*(v*v)))) := by
  subst h4 h3 h2 h1 h0
  subst hI hJ hX hem hw2 hV2 hu hv
  grind

theorem q_m22 (a b d e f D4 D3 D2 D1 D0 I J X em w2 V2 u v : Int)
  (h4 : D4 = b*b) (h3 : D3 = 2*b*d-4*a*e) (h2 : D2 = d*d-2*b*e-4*a*f) (h1 : D1 = 2*d*e-4*b*f) (h0 : D0 = e*e)
  (hI : I = 12*D4*D0-3*D3*D1+D2*D2) (hJ : J = 72*D4*D2*D0+9*D3*D2*D1-27*D4*D1*D1-27*D3*D3*D0-2*D2*D2*D2) (hX : X = d*d+4*(b*e-a*f))
  (hem : em = -(b*b*b-a*b*d+a*a*e)) (hw2 : w2 = D2*a*a-3*D3*a*b+6*D4*b*b) (hV2 : V2 = -(36*D0*D4*a*a-36*D1*D4*a*b-D2*D2*a*a+6*D2*D3*a*b+24*D2*D4*b*b-9*D3*D3*b*b)) (hu : u = 3*D3*D3-8*D4*D2) (hv : v = 4*D4) : (-2*X*(u*u)+(6*I-2*X*X)*(u*v)+(6*I*X+4*J)*(v*v))*V2+2*(X*X*(u*u)+(6*I*X+4*J)*(u*v)+(9*I*I+4*J*X)*(v*v))*(w2+6*b*em) = V2*(2*(u*u-2*X*(u*v)+X*X*(v*v))*(D2-6*b*e)+(-2*X*(u*u)+(6*I-2*X*X)*(u*v)+(6*I*X+4*J)*(v*v))) := by
  subst h4 h3 h2 h1 h0
  subst hI hJ hX hem hw2 hV2 hu hv
  grind

end DL

namespace DL
open PySem PySem.Spec PyProof.Rows L2 Evl
/-! ## the sign of a member, and what tells how far two members are apart -/
abbrev Co.d4 (c : Co) : Int := q4 c.a c.b c.c c.d c.e c.f
abbrev Co.d3 (c : Co) : Int := q3 c.a c.b c.c c.d c.e c.f
abbrev Co.d2 (c : Co) : Int := q2 c.a c.b c.c c.d c.e c.f
abbrev Co.d1 (c : Co) : Int := q1 c.a c.b c.c c.d c.e c.f
abbrev Co.d0 (c : Co) : Int := q0 c.a c.b c.c c.d c.e c.f
def Co.Q (c : Co) (x : Pt) : Int := Qd c.d4 c.d3 c.d2 c.d1 c.d0 x
def Co.W (c : Co) (x y : Pt) : Int := Wd c.d4 c.d3 c.d2 c.d1 c.d0 x y
def Co.V (c : Co) (x y : Pt) : Int := Vd c.d4 c.d3 c.d2 c.d1 c.d0 x y
theorem Co.Q_disc (c : Co) (x : Pt) : c.Q x = c.B x * c.B x - 4 * c.A x * c.C x := by
  unfold Co.Q Qd Co.A Co.B Co.C fV Co.d4 Co.d3 Co.d2 Co.d1 Co.d0 q4 q3 q2 q1 q0
  grind
abbrev Nz (x : Pt) : Prop := ¬ (x.1 = 0 ∧ x.2 = 0)
/-- the root that leads from x to z -/
def Sg (c : Co) (x z : Pt) (t : Int) : Prop := 2 * c.A x * z.1 + c.B x * z.2 = z.2 * t ∧ c.B x * z.1 + 2 * c.C x * z.2 = -(z.1 * t)
theorem Sg.uniq {c : Co} {x z : Pt} {s t : Int} (hz : Nz z) (h : Sg c x z s) (k : Sg c x z t) : s = t := by
  have e1 : z.2 * s = z.2 * t := h.1.symm.trans k.1
  have e2 : z.1 * s = z.1 * t := by
    have := h.2.symm.trans k.2
    omega
  by_cases h0 : z.2 = 0
  · exact Int.eq_of_mul_eq_mul_left (fun z1 => hz ⟨z1, h0⟩) e2
  · exact Int.eq_of_mul_eq_mul_left h0 e1
theorem Sg.sq {c : Co} {x z : Pt} {t : Int} (hz : Nz z) (h : Sg c x z t) : t * t = c.Q x := by
  rw [Co.Q_disc]
  obtain ⟨h1, h2⟩ := h
  generalize c.A x = A at *
  generalize c.B x = B at *
  generalize c.C x = C at *
  obtain ⟨p, q⟩ := z
  simp only at *
  by_cases h0 : q = 0
  · have hp : p ≠ 0 := fun z1 => hz ⟨z1, h0⟩
    subst h0
    have hA : A = 0 := (Int.mul_eq_zero.mp (show A * p = 0 by grind)).resolve_right hp
    have hB : B = -t := Int.eq_of_mul_eq_mul_right hp (by grind)
    subst hA hB
    grind
  · have e : q * q * (t * t - (B * B - 4 * A * C)) = 0 := by
      have e1 : (q * t) * (q * t) = (2 * A * p + B * q) * (2 * A * p + B * q) := by rw [h1]
      have e2 : A * (p * p) + B * (p * q) + C * (q * q) = 0 := by
        have : 2 * (A * (p * p) + B * (p * q) + C * (q * q)) = p * (2 * A * p + B * q) + q * (B * p + 2 * C * q) := by grind
        rw [h1, h2] at this
        have : 2 * (A * (p * p) + B * (p * q) + C * (q * q)) = 0 := by
          rw [this]
          grind
        omega
      grind
    have := (Int.mul_eq_zero.mp e).resolve_left (mul2_ne h0 h0)
    omega
theorem Sg.scale {c : Co} {x z : Pt} {t : Int} (h : Sg c x z t) (k : Int) : Sg c x (k * z.1, k * z.2) t := by
  obtain ⟨h1, h2⟩ := h
  constructor
  · show 2 * c.A x * (k * z.1) + c.B x * (k * z.2) = k * z.2 * t
    grind
  · show c.B x * (k * z.1) + 2 * c.C x * (k * z.2) = -(k * z.1 * t)
    grind
theorem Co.A_scale (c : Co) (k : Int) (x : Pt) : c.A (k * x.1, k * x.2) = k * k * c.A x ∧ c.B (k * x.1, k * x.2) = k * k * c.B x ∧ c.C (k * x.1, k * x.2) = k * k * c.C x := by
  unfold Co.A Co.B Co.C fV
  refine ⟨?_, ?_, ?_⟩ <;> grind
theorem Sg.scaleL {c : Co} {x z : Pt} {t : Int} (h : Sg c x z t) (k : Int) : Sg c (k * x.1, k * x.2) z (k * k * t) := by
  obtain ⟨h1, h2⟩ := h
  obtain ⟨a1, a2, a3⟩ := c.A_scale k x
  constructor
  · rw [a1, a2]
    grind
  · rw [a2, a3]
    grind
theorem Hold.sg {c : Co} {x y : Pt} (h : Hold c x y) : ∃ t, Sg c x y t := by
  obtain ⟨a, g, ⟨h1, h2, h3⟩, _⟩ := h.symm.oth
  refine ⟨y.1 * a - y.2 * g, ?_, ?_⟩
  · rw [h1, h3]
    grind
  · rw [h2, h3]
    grind
theorem Sg.nx {c : Co} {x y : Pt} {t : Int} (h : Hold c x y) (s : Sg c y x t) : Sg c y (c.nx x y) (-t) := by
  obtain ⟨a, g, ⟨h1, h2, h3⟩, e, _, n⟩ := h.oth
  have et : t = x.1 * a - x.2 * g := s.uniq h.px.ne ⟨by rw [h1, h3]; grind, by rw [h2, h3]; grind⟩
  have cr := lowP_cross g a
  rw [e]
  generalize lowP g a = l at *
  subst et
  constructor
  · rw [h1, h3]
    grind
  · rw [h2, h3]
    grind
/-- the signs along a chain -/
theorem Hold.signs {c : Co} {x y : Pt} (h : Hold c x y) : ∃ f : Nat → Int, ∀ n, Sg c (c.mem x y n) (c.mem x y (n + 1)) (f n) ∧ Sg c (c.mem x y (n + 1)) (c.mem x y n) (-(f (n + 1))) := by
  refine ⟨fun n => (h.mem n).sg.choose, fun n => ⟨(h.mem n).sg.choose_spec, ?_⟩⟩
  obtain ⟨t, ht⟩ := (h.mem n).symm.sg
  have h1 := ht.nx (h.mem n)
  rw [← mem2] at h1
  have h2 := (h.mem (n + 1)).sg.choose_spec
  have e := h1.uniq (h.mem (n + 1)).py.ne h2
  show Sg c _ _ (-((h.mem (n + 1)).sg.choose))
  rw [← e, Int.neg_neg]
  exact ht
/-- u tells how far (x, s) and (y, t) are apart -/
def Is (c : Co) (u x : Pt) (s : Int) (y : Pt) (t : Int) : Prop := u.1 * (wd x y * wd x y) = u.2 * (c.W x y + 6 * (s * t)) ∧ u.1 * (c.W x y - 6 * (s * t)) = u.2 * c.V x y
theorem Is.neg {c : Co} {u x y : Pt} {s t : Int} (h : Is c u x s y t) : Is c u x (-s) y (-t) := by
  unfold Is at *
  rw [show -s * -t = s * t by grind]
  exact h
theorem par_of {x y : Pt} (hx : Nz x) (hy : Nz y) (h : x.1 * y.2 = x.2 * y.1) : ∃ k l : Int, k ≠ 0 ∧ l ≠ 0 ∧ k * x.1 = l * y.1 ∧ k * x.2 = l * y.2 := by
  by_cases h0 : y.2 = 0
  · have y1 : y.1 ≠ 0 := fun z => hy ⟨z, h0⟩
    have x2 : x.2 = 0 := (Int.mul_eq_zero.mp (show x.2 * y.1 = 0 by rw [← h, h0, Int.mul_zero])).resolve_right y1
    exact ⟨y.1, x.1, y1, fun z => hx ⟨z, x2⟩, Int.mul_comm _ _, by rw [x2, h0, Int.mul_zero, Int.mul_zero]⟩
  · have x2 : x.2 ≠ 0 := fun z => by
      rw [z, Int.zero_mul] at h
      exact hx ⟨(Int.mul_eq_zero.mp h).resolve_right h0, z⟩
    exact ⟨y.2, x.2, h0, x2, by grind, Int.mul_comm _ _⟩
theorem wd_par {x y : Pt} (h : wd x y = 0) : x.1 * y.2 = x.2 * y.1 := by
  unfold wd at h
  omega
/-- no root of the form of degree four is one twice -/
theorem Co.simple {c : Co} {y : Pt} (hb : c.bend ≠ 0) (hy : Nz y) (h1 : c.Q y = 0) (h2 : c.V y y = 0) : False := by
  refine hb ?_
  by_cases hq : y.2 = 0
  · have hp : y.1 ≠ 0 := fun z => hy ⟨z, hq⟩
    have k1 : c.d4 = 0 := by
      have e : c.d4 * (y.1 * y.1 * (y.1 * y.1)) = 0 := by
        have : c.Q y = c.d4 * (y.1 * y.1 * (y.1 * y.1)) := by
          unfold Co.Q Qd
          rw [hq]
          grind
        rw [← this]
        exact h1
      exact (Int.mul_eq_zero.mp e).resolve_right (mul2_ne (mul2_ne hp hp) (mul2_ne hp hp))
    have k2 : c.d3 = 0 := by
      have e : c.d3 * c.d3 * (9 * (y.1 * y.1 * (y.1 * y.1))) = 0 := by
        have : c.V y y = c.d3 * c.d3 * (9 * (y.1 * y.1 * (y.1 * y.1))) := by
          unfold Co.V Vd
          rw [hq, k1]
          grind
        rw [← this]
        exact h2
      have e2 := (Int.mul_eq_zero.mp e).resolve_right (mul2_ne (by decide) (mul2_ne (mul2_ne hp hp) (mul2_ne hp hp)))
      exact (Int.mul_eq_zero.mp e2).elim id id
    show bendV c.d4 c.d3 c.d2 c.d1 c.d0 = 0
    rw [k1, k2]
    unfold bendV bendI bendJ
    grind
  · refine four_eq (p := y.1) (q := y.2) hq ?_ ?_
    · have : c.Q y = c.d4 * (y.1 * y.1 * y.1 * y.1) + c.d3 * (y.1 * y.1 * y.1 * y.2) + c.d2 * (y.1 * y.1 * y.2 * y.2) + c.d1 * (y.1 * y.2 * y.2 * y.2) + c.d0 * (y.2 * y.2 * y.2 * y.2) := by
        unfold Co.Q Qd
        grind
      rw [← this]
      exact h1
    · have e := Vd_self1 c.d4 c.d3 c.d2 c.d1 c.d0 y
      have h1' : Qd c.d4 c.d3 c.d2 c.d1 c.d0 y = 0 := h1
      have h2' : Vd c.d4 c.d3 c.d2 c.d1 c.d0 y y = 0 := h2
      rw [h1', h2', Int.zero_mul, Int.zero_mul, Int.sub_zero] at e
      have e2 := (Int.mul_eq_zero.mp e.symm).resolve_left (by decide)
      exact (Int.mul_eq_zero.mp e2).elim id id
/-- one of the two ways to tell it always tells -/
theorem Co.some {c : Co} {x y : Pt} {s t : Int} (hb : c.bend ≠ 0) (hx : Nz x) (hy : Nz y) (hs : s * s = c.Q x) (ht : t * t = c.Q y) :
    Nz (c.W x y + 6 * (s * t), wd x y * wd x y) ∨ Nz (c.V x y, c.W x y - 6 * (s * t)) := by
  refine Classical.byContradiction fun hn => ?_
  have n1 : c.W x y + 6 * (s * t) = 0 ∧ wd x y * wd x y = 0 := Classical.byContradiction fun z => hn (.inl z)
  have n2 : c.V x y = 0 ∧ c.W x y - 6 * (s * t) = 0 := Classical.byContradiction fun z => hn (.inr z)
  have hw : c.W x y = 0 := by omega
  have hd : wd x y = 0 := (Int.mul_eq_zero.mp n1.2).elim id id
  obtain ⟨k, l, hk, hl, e1, e2⟩ := par_of hx hy (wd_par hd)
  have ex : ((k * x.1, k * x.2) : Pt) = (l * y.1, l * y.2) := by rw [e1, e2]
  have w1 := Wd_scale c.d4 c.d3 c.d2 c.d1 c.d0 k 1 x y
  have w2 := Wd_scale c.d4 c.d3 c.d2 c.d1 c.d0 l 1 y y
  rw [← ex] at w2
  have v1 := Vd_scale c.d4 c.d3 c.d2 c.d1 c.d0 k 1 x y
  have v2 := Vd_scale c.d4 c.d3 c.d2 c.d1 c.d0 l 1 y y
  rw [← ex] at v2
  have hw' : Wd c.d4 c.d3 c.d2 c.d1 c.d0 x y = 0 := hw
  have hv' : Vd c.d4 c.d3 c.d2 c.d1 c.d0 x y = 0 := n2.1
  rw [hw', Int.mul_zero] at w1
  rw [hv', Int.mul_zero] at v1
  have q0 : c.Q y = 0 := by
    have e : l * l * (1 * 1) * Wd c.d4 c.d3 c.d2 c.d1 c.d0 y y = 0 := w2.symm.trans w1
    have e2 := (Int.mul_eq_zero.mp e).resolve_left (mul2_ne (mul2_ne hl hl) (by decide))
    rw [Wd_self] at e2
    exact (Int.mul_eq_zero.mp e2).resolve_left (by decide)
  have v0 : c.V y y = 0 := by
    have e : l * l * (1 * 1) * Vd c.d4 c.d3 c.d2 c.d1 c.d0 y y = 0 := v2.symm.trans v1
    exact (Int.mul_eq_zero.mp e).resolve_left (mul2_ne (mul2_ne hl hl) (by decide))
  exact Co.simple hb hy q0 v0
theorem Co.rank {c : Co} {x y : Pt} {s t : Int} (hs : s * s = c.Q x) (ht : t * t = c.Q y) : (c.W x y + 6 * (s * t)) * (c.W x y - 6 * (s * t)) = wd x y * wd x y * c.V x y := by
  have e : c.W x y * c.W x y - 36 * c.Q x * c.Q y = wd x y * wd x y * c.V x y := Wd_sq c.d4 c.d3 c.d2 c.d1 c.d0 x y
  rw [← e, ← hs, ← ht]
  grind
theorem cross_of {g a u v p q : Int} (n : Nz (g, a)) (h : u * a = v * g) (k : g * q = a * p) : u * q = v * p := by
  by_cases h0 : a = 0
  · have hg : g ≠ 0 := fun z => n ⟨z, h0⟩
    subst h0
    have hv : v = 0 := (Int.mul_eq_zero.mp (show v * g = 0 by rw [← h, Int.mul_zero])).resolve_right hg
    have hq : q = 0 := (Int.mul_eq_zero.mp (show g * q = 0 by rw [k, Int.zero_mul])).resolve_left hg
    rw [hv, hq, Int.mul_zero, Int.zero_mul]
  · apply Int.eq_of_mul_eq_mul_left h0
    have : a * (u * q) = q * (u * a) := by grind
    rw [this, h]
    have : a * (v * p) = v * (a * p) := by grind
    rw [this, ← k]
    grind
theorem Is.ex {c : Co} {x y : Pt} {s t : Int} (hb : c.bend ≠ 0) (hx : Nz x) (hy : Nz y) (hs : s * s = c.Q x) (ht : t * t = c.Q y) : ∃ u, IsPt u ∧ Is c u x s y t := by
  have r := Co.rank hs ht
  rcases Co.some hb hx hy hs ht with n | n
  · refine ⟨lowP (c.W x y + 6 * (s * t)) (wd x y * wd x y), lowP_pt _ _, ?_, ?_⟩
    · exact lowP_cross _ _
    · exact cross_of n (lowP_cross _ _) r
  · refine ⟨lowP (c.V x y) (c.W x y - 6 * (s * t)), lowP_pt _ _, ?_, ?_⟩
    · refine cross_of n (lowP_cross _ _) ?_
      rw [Int.mul_comm (c.V x y), ← r, Int.mul_comm]
    · exact lowP_cross _ _
theorem Is.uniq {c : Co} {u v x y : Pt} {s t : Int} (hb : c.bend ≠ 0) (hx : Nz x) (hy : Nz y) (hs : s * s = c.Q x) (ht : t * t = c.Q y) (pu : IsPt u) (pv : IsPt v) (h : Is c u x s y t) (k : Is c v x s y t) : u = v := by
  obtain ⟨h1, h2⟩ := h
  obtain ⟨k1, k2⟩ := k
  rcases Co.some hb hx hy hs ht with n | n
  · generalize c.W x y + 6 * (s * t) = g at *
    generalize wd x y * wd x y = a at *
    rw [← lowP_eq pu n h1, ← lowP_eq pv n k1]
  · generalize c.W x y - 6 * (s * t) = a at *
    generalize c.V x y = g at *
    rw [← lowP_eq pu n h2, ← lowP_eq pv n k2]
theorem Is.scale {c : Co} {u x y : Pt} {s t : Int} (h : Is c u x s y t) (l : Int) : Is c u x s (l * y.1, l * y.2) (l * l * t) := by
  obtain ⟨h1, h2⟩ := h
  have ew := Wd_scale c.d4 c.d3 c.d2 c.d1 c.d0 1 l x y
  have ev := Vd_scale c.d4 c.d3 c.d2 c.d1 c.d0 1 l x y
  have ed := wd_scale 1 l x y
  rw [Int.one_mul, Int.one_mul] at ew ev ed
  have ew : c.W x (l * y.1, l * y.2) = l * l * c.W x y := by
    show Wd _ _ _ _ _ _ _ = _
    rw [ew]
    show _ = l * l * Wd _ _ _ _ _ _ _
    grind
  have ev : c.V x (l * y.1, l * y.2) = l * l * c.V x y := by
    show Vd _ _ _ _ _ _ _ = _
    rw [ev]
    show _ = l * l * Vd _ _ _ _ _ _ _
    grind
  constructor
  · rw [ew, ed]
    grind
  · rw [ew, ev]
    grind
theorem Is.unscale {c : Co} {u x y : Pt} {s t : Int} {l : Int} (hl : l ≠ 0) (h : Is c u x s (l * y.1, l * y.2) (l * l * t)) : Is c u x s y t := by
  obtain ⟨h1, h2⟩ := h
  have ew := Wd_scale c.d4 c.d3 c.d2 c.d1 c.d0 1 l x y
  have ev := Vd_scale c.d4 c.d3 c.d2 c.d1 c.d0 1 l x y
  have ed := wd_scale 1 l x y
  rw [Int.one_mul, Int.one_mul] at ew ev ed
  have ew : c.W x (l * y.1, l * y.2) = l * l * c.W x y := by
    show Wd _ _ _ _ _ _ _ = _
    rw [ew]
    show _ = l * l * Wd _ _ _ _ _ _ _
    grind
  have ev : c.V x (l * y.1, l * y.2) = l * l * c.V x y := by
    show Vd _ _ _ _ _ _ _ = _
    rw [ev]
    show _ = l * l * Vd _ _ _ _ _ _ _
    grind
  rw [ew, ed] at h1
  rw [ew, ev] at h2
  have ll := mul2_ne hl hl
  constructor
  · apply Int.eq_of_mul_eq_mul_left ll
    grind
  · apply Int.eq_of_mul_eq_mul_left ll
    grind
/-- p and m are the two partners of u, by the two roots -/
def Opp (C : Co) (u p m : Pt) : Prop := ∃ k t : Int, k ≠ 0 ∧ k * (2 * C.A u * p.1 + C.B u * p.2) = p.2 * t ∧ k * (C.B u * p.1 + 2 * C.C u * p.2) = -(p.1 * t) ∧ k * (2 * C.A u * m.1 + C.B u * m.2) = -(m.2 * t) ∧ k * (C.B u * m.1 + 2 * C.C u * m.2) = m.1 * t
theorem Opp.symm {C : Co} {u p m : Pt} (h : Opp C u p m) : Opp C u m p := by
  obtain ⟨k, t, hk, h1, h2, h3, h4⟩ := h
  exact ⟨k, -t, hk, by grind, by grind, by grind, by grind⟩
theorem Opp.nx {C : Co} {u p m : Pt} (h : Opp C u p m) (hm : Hold C m u) (pp : IsPt p) : p = C.nx m u := by
  obtain ⟨k, t, hk, h1, h2, h3, h4⟩ := h
  obtain ⟨a, g, ⟨o1, o2, o3⟩, e, _, n⟩ := hm.oth
  rw [e]
  refine (lowP_eq pp n ?_).symm
  rw [o1, o3] at h1 h3
  rw [o2, o3] at h2 h4
  have nm := hm.px.ne
  clear e o1 o2 o3
  have et : t = k * (m.2 * g - m.1 * a) := by
    by_cases h0 : m.2 = 0
    · have m1 : m.1 ≠ 0 := fun z => nm ⟨z, h0⟩
      apply Int.eq_of_mul_eq_mul_left m1
      rw [← h4, h0]
      grind
    · apply Int.eq_of_mul_eq_mul_left h0
      have : m.2 * t = -(k * (2 * (m.2 * a) * m.1 + -(m.2 * g + m.1 * a) * m.2)) := by rw [h3]; omega
      rw [this]
      grind
  subst et
  have f1 : m.2 * (p.1 * a - p.2 * g) = 0 := by
    have : k * (2 * (m.2 * (p.1 * a - p.2 * g))) = 0 := by grind
    have := (Int.mul_eq_zero.mp this).resolve_left hk
    omega
  have f2 : m.1 * (p.1 * a - p.2 * g) = 0 := by
    have : k * (2 * (m.1 * (p.1 * a - p.2 * g))) = 0 := by grind
    have := (Int.mul_eq_zero.mp this).resolve_left hk
    omega
  by_cases h0 : m.2 = 0
  · have := (Int.mul_eq_zero.mp f2).resolve_left fun z => nm ⟨z, h0⟩
    omega
  · have := (Int.mul_eq_zero.mp f1).resolve_left h0
    omega
/-- what two columns tell, carried over to u and p -/
theorem carry {C : Co} {u p : Pt} {g h g1 h1 T k l k1 l1 : Int} (hk1 : k1 ≠ 0) (eu1 : k * u.1 = l * g) (eu2 : k * u.2 = l * h) (ep1 : k1 * p.1 = l1 * g1) (ep2 : k1 * p.2 = l1 * h1)
    (h1e : 2 * C.A (g, h) * g1 + C.B (g, h) * h1 = h1 * T) (h2e : C.B (g, h) * g1 + 2 * C.C (g, h) * h1 = -(g1 * T)) :
    k * k * (2 * C.A u * p.1 + C.B u * p.2) = p.2 * (l * l * T) ∧ k * k * (C.B u * p.1 + 2 * C.C u * p.2) = -(p.1 * (l * l * T)) := by
  obtain ⟨a1, a2, a3⟩ := C.A_scale k u
  obtain ⟨b1, b2, b3⟩ := C.A_scale l (g, h)
  have ee : ((k * u.1, k * u.2) : Pt) = (l * (g, h).1, l * (g, h).2) := by
    show ((k * u.1, k * u.2) : Pt) = (l * g, l * h)
    rw [eu1, eu2]
  rw [ee, b1] at a1
  rw [ee, b2] at a2
  rw [ee, b3] at a3
  constructor
  · apply Int.eq_of_mul_eq_mul_left hk1
    have : k1 * (k * k * (2 * C.A u * p.1 + C.B u * p.2)) = 2 * (k * k * C.A u) * (k1 * p.1) + (k * k * C.B u) * (k1 * p.2) := by grind
    rw [this, ← a1, ← a2, ep1, ep2]
    have : k1 * (p.2 * (l * l * T)) = (k1 * p.2) * (l * l * T) := by grind
    rw [this, ep2]
    grind
  · apply Int.eq_of_mul_eq_mul_left hk1
    have : k1 * (k * k * (C.B u * p.1 + 2 * C.C u * p.2)) = (k * k * C.B u) * (k1 * p.1) + 2 * (k * k * C.C u) * (k1 * p.2) := by grind
    rw [this, ← a2, ← a3, ep1, ep2]
    have : k1 * -(p.1 * (l * l * T)) = -((k1 * p.1) * (l * l * T)) := by grind
    rw [this, ep1]
    grind
end DL

namespace DL
open PySem PySem.Spec PyProof.Rows L2 Evl
/-! ## other coordinates -/
def Co.mv (c : Co) (y z : Pt) : Co := ⟨m1 c.a c.b c.c c.d c.e c.f y z, m2 c.a c.b c.c c.d c.e c.f y z, m3 c.a c.b c.c c.d c.e c.f y z, m4 c.a c.b c.c c.d c.e c.f y z, m5 c.a c.b c.c c.d c.e c.f y z, m6 c.a c.b c.c c.d c.e c.f y z⟩
theorem mv_d (c : Co) (y z : Pt) : (c.mv y z).d4 = wd y z * wd y z * e4 c.d4 c.d3 c.d2 c.d1 c.d0 y z ∧ (c.mv y z).d3 = wd y z * wd y z * e3 c.d4 c.d3 c.d2 c.d1 c.d0 y z ∧ (c.mv y z).d2 = wd y z * wd y z * e2 c.d4 c.d3 c.d2 c.d1 c.d0 y z ∧
    (c.mv y z).d1 = wd y z * wd y z * e1 c.d4 c.d3 c.d2 c.d1 c.d0 y z ∧ (c.mv y z).d0 = wd y z * wd y z * e0 c.d4 c.d3 c.d2 c.d1 c.d0 y z :=
  ⟨D4_cov c.a c.b c.c c.d c.e c.f y z, D3_cov c.a c.b c.c c.d c.e c.f y z, D2_cov c.a c.b c.c c.d c.e c.f y z, D1_cov c.a c.b c.c c.d c.e c.f y z, D0_cov c.a c.b c.c c.d c.e c.f y z⟩
theorem mv_X (c : Co) (y z : Pt) : (c.mv y z).X = wd y z * wd y z * (wd y z * wd y z) * c.X := X_cov c.a c.b c.c c.d c.e c.f y z
theorem mv_I (c : Co) (y z : Pt) : (c.mv y z).I = wd y z * wd y z * (wd y z * wd y z) * (wd y z * wd y z * (wd y z * wd y z)) * c.I := by
  obtain ⟨h4, h3, h2, h1, h0⟩ := mv_d c y z
  show bendI (c.mv y z).d4 (c.mv y z).d3 (c.mv y z).d2 (c.mv y z).d1 (c.mv y z).d0 = _ * bendI c.d4 c.d3 c.d2 c.d1 c.d0
  rw [h4, h3, h2, h1, h0]
  have := I_cov c.d4 c.d3 c.d2 c.d1 c.d0 y z
  unfold bendI
  generalize wd y z * wd y z = k at *
  generalize e4 c.d4 c.d3 c.d2 c.d1 c.d0 y z = E4 at *
  generalize e3 c.d4 c.d3 c.d2 c.d1 c.d0 y z = E3 at *
  generalize e2 c.d4 c.d3 c.d2 c.d1 c.d0 y z = E2 at *
  generalize e1 c.d4 c.d3 c.d2 c.d1 c.d0 y z = E1 at *
  generalize e0 c.d4 c.d3 c.d2 c.d1 c.d0 y z = E0 at *
  generalize 12 * c.d4 * c.d0 - 3 * c.d3 * c.d1 + c.d2 * c.d2 = I at *
  have e : 12 * (k * E4) * (k * E0) - 3 * (k * E3) * (k * E1) + k * E2 * (k * E2) = k * k * (12 * E4 * E0 - 3 * E3 * E1 + E2 * E2) := by grind
  rw [e, this]
  grind
theorem mv_J (c : Co) (y z : Pt) : (c.mv y z).J = wd y z * wd y z * (wd y z * wd y z) * (wd y z * wd y z) * (wd y z * wd y z * (wd y z * wd y z) * (wd y z * wd y z)) * c.J := by
  obtain ⟨h4, h3, h2, h1, h0⟩ := mv_d c y z
  show bendJ (c.mv y z).d4 (c.mv y z).d3 (c.mv y z).d2 (c.mv y z).d1 (c.mv y z).d0 = _ * bendJ c.d4 c.d3 c.d2 c.d1 c.d0
  rw [h4, h3, h2, h1, h0]
  have := J_cov c.d4 c.d3 c.d2 c.d1 c.d0 y z
  unfold bendJ
  generalize wd y z * wd y z = k at *
  generalize e4 c.d4 c.d3 c.d2 c.d1 c.d0 y z = E4 at *
  generalize e3 c.d4 c.d3 c.d2 c.d1 c.d0 y z = E3 at *
  generalize e2 c.d4 c.d3 c.d2 c.d1 c.d0 y z = E2 at *
  generalize e1 c.d4 c.d3 c.d2 c.d1 c.d0 y z = E1 at *
  generalize e0 c.d4 c.d3 c.d2 c.d1 c.d0 y z = E0 at *
  generalize 72 * c.d4 * c.d2 * c.d0 + 9 * c.d3 * c.d2 * c.d1 - 27 * c.d4 * c.d1 * c.d1 - 27 * c.d3 * c.d3 * c.d0 - 2 * c.d2 * c.d2 * c.d2 = J at *
  have e : 72 * (k * E4) * (k * E2) * (k * E0) + 9 * (k * E3) * (k * E2) * (k * E1) - 27 * (k * E4) * (k * E1) * (k * E1) - 27 * (k * E3) * (k * E3) * (k * E0) - 2 * (k * E2) * (k * E2) * (k * E2) = k * k * k * (72 * E4 * E2 * E0 + 9 * E3 * E2 * E1 - 27 * E4 * E1 * E1 - 27 * E3 * E3 * E0 - 2 * E2 * E2 * E2) := by grind
  rw [e, this]
  grind
theorem mv_bend {c : Co} {y z : Pt} (hb : c.bend ≠ 0) (hk : wd y z ≠ 0) : (c.mv y z).bend ≠ 0 := fun h => by
  have h : 4 * (c.mv y z).I * (c.mv y z).I * (c.mv y z).I - (c.mv y z).J * (c.mv y z).J = 0 := h
  rw [mv_I, mv_J] at h
  have hb : 4 * c.I * c.I * c.I - c.J * c.J ≠ 0 := hb
  generalize c.I = I at *
  generalize c.J = J at *
  have k2 := mul2_ne hk hk
  generalize wd y z * wd y z = k at *
  have k4 := mul2_ne k2 k2
  have k8 : k * k * (k * k) ≠ 0 := mul2_ne k4 k4
  have e : k * k * (k * k) * (k * k * (k * k)) * (k * k * (k * k)) * (4 * I * I * I - J * J) = 0 := by
    rw [← h]
    grind
  exact hb ((Int.mul_eq_zero.mp e).resolve_left (mul2_ne (mul2_ne k8 k8) k8))
theorem mv_Q (c : Co) (y z w : Pt) : (c.mv y z).Q w = wd y z * wd y z * c.Q (lin w y z) := by
  obtain ⟨h4, h3, h2, h1, h0⟩ := mv_d c y z
  show Qd _ _ _ _ _ _ = _ * Qd _ _ _ _ _ _
  rw [h4, h3, h2, h1, h0, Qd_mul, Qd_cov]
theorem mv_W (c : Co) (y z v w : Pt) : (c.mv y z).W v w = wd y z * wd y z * c.W (lin v y z) (lin w y z) := by
  obtain ⟨h4, h3, h2, h1, h0⟩ := mv_d c y z
  show Wd _ _ _ _ _ _ _ = _ * Wd _ _ _ _ _ _ _
  rw [h4, h3, h2, h1, h0, Wd_mul, Wd_cov]
theorem mv_V (c : Co) (y z v w : Pt) : (c.mv y z).V v w = wd y z * wd y z * (wd y z * wd y z) * (wd y z * wd y z * c.V (lin v y z) (lin w y z)) := by
  obtain ⟨h4, h3, h2, h1, h0⟩ := mv_d c y z
  show Vd _ _ _ _ _ _ _ = _ * (_ * Vd _ _ _ _ _ _ _)
  rw [h4, h3, h2, h1, h0, Vd_mul, Vd_cov]
/-- x in the coordinates of y and z, but for a factor -/
abbrev coord (x y z : Pt) : Pt := (wd x z, wd y x)
theorem lin_coord (x y z : Pt) : lin (coord x y z) y z = (wd y z * x.1, wd y z * x.2) := by
  refine Prod.ext ?_ ?_
  · show wd x z * y.1 + wd y x * z.1 = wd y z * x.1
    unfold wd
    grind
  · show wd x z * y.2 + wd y x * z.2 = wd y z * x.2
    unfold wd
    grind
theorem Co.W_scale (c : Co) (k l : Int) (x y : Pt) : c.W (k * x.1, k * x.2) (l * y.1, l * y.2) = k * k * (l * l) * c.W x y := Wd_scale _ _ _ _ _ k l x y
theorem Co.V_scale (c : Co) (k l : Int) (x y : Pt) : c.V (k * x.1, k * x.2) (l * y.1, l * y.2) = k * k * (l * l) * c.V x y := Vd_scale _ _ _ _ _ k l x y
theorem Co.Q_scale (c : Co) (k : Int) (x : Pt) : c.Q (k * x.1, k * x.2) = k * k * (k * k) * c.Q x := Qd_scale _ _ _ _ _ k x
theorem coord_Q {c : Co} {x y z : Pt} {s : Int} (hs : s * s = c.Q x) : (wd y z * wd y z * wd y z * s) * (wd y z * wd y z * wd y z * s) = (c.mv y z).Q (coord x y z) := by
  rw [mv_Q, lin_coord, Co.Q_scale, ← hs]
  grind
theorem Is.mv {c : Co} {u x w w' y z : Pt} {s t : Int} (hk : wd y z ≠ 0) (h : Is c u x s w t) (e : lin w' y z = w) : Is (c.mv y z) (wd y z * wd y z * (wd y z * wd y z) * u.1, u.2) (coord x y z) (wd y z * wd y z * wd y z * s) w' (wd y z * t) := by
  obtain ⟨h1, h2⟩ := h
  have ew : (c.mv y z).W (coord x y z) w' = wd y z * wd y z * (wd y z * wd y z) * c.W x w := by
    rw [mv_W, lin_coord, e]
    have := c.W_scale (wd y z) 1 x w
    rw [Int.one_mul, Int.one_mul] at this
    rw [this]
    grind
  have ev : (c.mv y z).V (coord x y z) w' = wd y z * wd y z * (wd y z * wd y z) * (wd y z * wd y z * (wd y z * wd y z)) * c.V x w := by
    rw [mv_V, lin_coord, e]
    have := c.V_scale (wd y z) 1 x w
    rw [Int.one_mul, Int.one_mul] at this
    rw [this]
    grind
  have ed : wd (coord x y z) w' = wd x w := by
    have h := wd_cov y z (coord x y z) w'
    rw [lin_coord, e] at h
    have := wd_scale (wd y z) 1 x w
    rw [Int.one_mul, Int.one_mul] at this
    rw [this] at h
    exact (Int.eq_of_mul_eq_mul_left hk (by grind)).symm
  generalize wd y z = k at *
  constructor
  · rw [ed, ew]
    show k * k * (k * k) * u.1 * (wd x w * wd x w) = u.2 * (k * k * (k * k) * c.W x w + 6 * (k * k * k * s * (k * t)))
    have : k * k * (k * k) * u.1 * (wd x w * wd x w) = k * k * (k * k) * (u.1 * (wd x w * wd x w)) := by grind
    rw [this, h1]
    grind
  · rw [ev, ew]
    show k * k * (k * k) * u.1 * (k * k * (k * k) * c.W x w - 6 * (k * k * k * s * (k * t))) = u.2 * (k * k * (k * k) * (k * k * (k * k)) * c.V x w)
    have : k * k * (k * k) * u.1 * (k * k * (k * k) * c.W x w - 6 * (k * k * k * s * (k * t))) = k * k * (k * k) * (k * k * (k * k)) * (u.1 * (c.W x w - 6 * (s * t))) := by grind
    rw [this, h2]
    grind
theorem addA (i j x g h : Int) : (addOf i j x).A (g, h) = g * g - 2 * x * (g * h) + x * x * (h * h) ∧ (addOf i j x).B (g, h) = -2 * x * (g * g) + (6 * i - 2 * x * x) * (g * h) + (6 * i * x + 4 * j) * (h * h) ∧
    (addOf i j x).C (g, h) = x * x * (g * g) + (6 * i * x + 4 * j) * (g * h) + (9 * i * i + 4 * j * x) * (h * h) := by
  unfold addOf Co.A Co.B Co.C fV
  refine ⟨?_, ?_, ?_⟩ <;> grind
theorem add_scale (i j x q g h : Int) : (addOf (q * q * (q * q) * i) (q * q * q * (q * q * q) * j) (q * q * x)).A (q * q * g, h) = q * q * (q * q) * (addOf i j x).A (g, h) ∧
    (addOf (q * q * (q * q) * i) (q * q * q * (q * q * q) * j) (q * q * x)).B (q * q * g, h) = q * q * (q * q) * (q * q) * (addOf i j x).B (g, h) ∧
    (addOf (q * q * (q * q) * i) (q * q * q * (q * q * q) * j) (q * q * x)).C (q * q * g, h) = q * q * (q * q) * (q * q * (q * q)) * (addOf i j x).C (g, h) := by
  unfold addOf Co.A Co.B Co.C fV
  refine ⟨?_, ?_, ?_⟩ <;> grind
theorem opp_scale {A B C k q t p1 p2 : Int} (k4 : q * q ≠ 0) (h1 : k * (2 * (q * q * (q * q) * A) * (q * q * p1) + q * q * (q * q) * (q * q) * B * p2) = p2 * t) (h2 : k * (q * q * (q * q) * (q * q) * B * (q * q * p1) + 2 * (q * q * (q * q) * (q * q * (q * q)) * C) * p2) = -(q * q * p1 * t)) :
    k * (q * q * (q * q) * (q * q)) * (2 * A * p1 + B * p2) = p2 * t ∧ k * (q * q * (q * q) * (q * q)) * (B * p1 + 2 * C * p2) = -(p1 * t) := by
  constructor
  · rw [← h1]
    grind
  · apply Int.eq_of_mul_eq_mul_left k4
    have e1 : q * q * -(p1 * t) = -(q * q * p1 * t) := by grind
    rw [e1, ← h2]
    grind
theorem Opp.mv {c : Co} {u p m y z : Pt} (hk : wd y z ≠ 0) (h : Opp (c.mv y z).add (wd y z * wd y z * (wd y z * wd y z) * u.1, u.2) (wd y z * wd y z * (wd y z * wd y z) * p.1, p.2) (wd y z * wd y z * (wd y z * wd y z) * m.1, m.2)) : Opp c.add u p m := by
  obtain ⟨k, t, k0, h1, h2, h3, h4⟩ := h
  have e : (c.mv y z).add = addOf (c.mv y z).I (c.mv y z).J (c.mv y z).X := rfl
  rw [e, mv_I, mv_J, mv_X] at h1 h2 h3 h4
  have e' : c.add = addOf c.I c.J c.X := rfl
  have k2 := mul2_ne hk hk
  generalize wd y z * wd y z = q at *
  have k4 := mul2_ne k2 k2
  obtain ⟨a1, a2, a3⟩ := add_scale c.I c.J c.X q u.1 u.2
  have j8 : q * q * (q * q) * c.I = q * q * (q * q) * c.I := rfl
  rw [a1, a2] at h1 h3
  rw [a2, a3] at h2 h4
  rw [e']
  obtain ⟨f1, f2⟩ := opp_scale k4 h1 h2
  obtain ⟨f3, f4⟩ := opp_scale (t := -t) k4 (p1 := m.1) (p2 := m.2) (by rw [h3, Int.mul_neg]) (by rw [h4, Int.mul_neg, Int.neg_neg])
  refine ⟨k * (q * q * (q * q) * (q * q)), t, mul2_ne k0 (mul2_ne (mul2_ne k4 k4) k4), f1, f2, ?_, ?_⟩
  · rw [f3, Int.mul_neg]
  · rw [f4, Int.mul_neg, Int.neg_neg]
theorem Is.comm {c : Co} {u x y : Pt} {s t : Int} (h : Is c u x s y t) : Is c u y t x s := by
  obtain ⟨h1, h2⟩ := h
  have e1 : c.W y x = c.W x y := Wd_comm _ _ _ _ _ _ _
  have e2 : c.V y x = c.V x y := Vd_comm _ _ _ _ _ _ _
  have e3 : wd y x * wd y x = wd x y * wd x y := by
    unfold wd
    grind
  constructor
  · rw [e1, e3, Int.mul_comm t s]
    exact h1
  · rw [e1, e2, Int.mul_comm t s]
    exact h2
end DL

namespace DL
open PySem PySem.Spec PyProof.Rows L2 Evl
/-! ## one step more and one step less, in the coordinates of two neighbours -/
section
variable {a b d e f s : Int} {x u p m : Pt}
abbrev cn (a b d e f : Int) : Co := ⟨a, b, 0, d, e, f⟩
theorem norm_eqs (hs : s * s = (cn a b d e f).Q x) : ∃ T : Int,
  (2 * (cn a b d e f).add.A ((cn a b d e f).W x (1, 0) + 6 * (s * b), wd x (1, 0) * wd x (1, 0)) * ((cn a b d e f).W x (0, 1) + 6 * (s * e)) + (cn a b d e f).add.B ((cn a b d e f).W x (1, 0) + 6 * (s * b), wd x (1, 0) * wd x (1, 0)) * (wd x (0, 1) * wd x (0, 1)) = (wd x (0, 1) * wd x (0, 1)) * T ∧ (cn a b d e f).add.B ((cn a b d e f).W x (1, 0) + 6 * (s * b), wd x (1, 0) * wd x (1, 0)) * ((cn a b d e f).W x (0, 1) + 6 * (s * e)) + 2 * (cn a b d e f).add.C ((cn a b d e f).W x (1, 0) + 6 * (s * b), wd x (1, 0) * wd x (1, 0)) * (wd x (0, 1) * wd x (0, 1)) = -(((cn a b d e f).W x (0, 1) + 6 * (s * e)) * T)) ∧
  (2 * (cn a b d e f).add.A ((cn a b d e f).W x (1, 0) + 6 * (s * b), wd x (1, 0) * wd x (1, 0)) * ((cn a b d e f).V x (0, 1)) + (cn a b d e f).add.B ((cn a b d e f).W x (1, 0) + 6 * (s * b), wd x (1, 0) * wd x (1, 0)) * ((cn a b d e f).W x (0, 1) - 6 * (s * e)) = ((cn a b d e f).W x (0, 1) - 6 * (s * e)) * T ∧ (cn a b d e f).add.B ((cn a b d e f).W x (1, 0) + 6 * (s * b), wd x (1, 0) * wd x (1, 0)) * ((cn a b d e f).V x (0, 1)) + 2 * (cn a b d e f).add.C ((cn a b d e f).W x (1, 0) + 6 * (s * b), wd x (1, 0) * wd x (1, 0)) * ((cn a b d e f).W x (0, 1) - 6 * (s * e)) = -(((cn a b d e f).V x (0, 1)) * T)) ∧
  (2 * (cn a b d e f).add.A ((cn a b d e f).W x (1, 0) + 6 * (s * b), wd x (1, 0) * wd x (1, 0)) * ((cn a b d e f).W x (-b, a) + 6 * (s * (-(b*b*b-a*b*d+a*a*e)))) + (cn a b d e f).add.B ((cn a b d e f).W x (1, 0) + 6 * (s * b), wd x (1, 0) * wd x (1, 0)) * (wd x (-b, a) * wd x (-b, a)) = (wd x (-b, a) * wd x (-b, a)) * (-T) ∧ (cn a b d e f).add.B ((cn a b d e f).W x (1, 0) + 6 * (s * b), wd x (1, 0) * wd x (1, 0)) * ((cn a b d e f).W x (-b, a) + 6 * (s * (-(b*b*b-a*b*d+a*a*e)))) + 2 * (cn a b d e f).add.C ((cn a b d e f).W x (1, 0) + 6 * (s * b), wd x (1, 0) * wd x (1, 0)) * (wd x (-b, a) * wd x (-b, a)) = -(((cn a b d e f).W x (-b, a) + 6 * (s * (-(b*b*b-a*b*d+a*a*e)))) * (-T))) ∧
  (2 * (cn a b d e f).add.A ((cn a b d e f).W x (1, 0) + 6 * (s * b), wd x (1, 0) * wd x (1, 0)) * ((cn a b d e f).V x (-b, a)) + (cn a b d e f).add.B ((cn a b d e f).W x (1, 0) + 6 * (s * b), wd x (1, 0) * wd x (1, 0)) * ((cn a b d e f).W x (-b, a) - 6 * (s * (-(b*b*b-a*b*d+a*a*e)))) = ((cn a b d e f).W x (-b, a) - 6 * (s * (-(b*b*b-a*b*d+a*a*e)))) * (-T) ∧ (cn a b d e f).add.B ((cn a b d e f).W x (1, 0) + 6 * (s * b), wd x (1, 0) * wd x (1, 0)) * ((cn a b d e f).V x (-b, a)) + 2 * (cn a b d e f).add.C ((cn a b d e f).W x (1, 0) + 6 * (s * b), wd x (1, 0) * wd x (1, 0)) * ((cn a b d e f).W x (-b, a) - 6 * (s * (-(b*b*b-a*b*d+a*a*e)))) = -(((cn a b d e f).V x (-b, a)) * (-T))) := by
  let c := cn a b d e f
  have k4 : c.d4 = b*b := by
    show b * b - 4 * a * 0 = b * b
    omega
  have k3 : c.d3 = 2*b*d-4*a*e := by
    show 2 * b * d - 4 * a * e - 4 * b * 0 = _
    omega
  have k2 : c.d2 = d*d-2*b*e-4*a*f := by
    show d * d - 2 * b * e - 4 * a * f - 4 * 0 * 0 = _
    omega
  have k1 : c.d1 = 2*d*e-4*b*f := by
    show 2 * d * e - 4 * b * f - 4 * 0 * e = _
    omega
  have k0 : c.d0 = e*e := by
    show e * e - 4 * 0 * f = _
    omega
  have kX : c.X = d*d+4*(b*e-a*f) := by
    show (d - 2 * 0) * (d - 10 * 0) + 4 * (b * e - a * f) = _
    grind
  obtain ⟨p, q⟩ := x
  have eadd : c.add = addOf c.I c.J c.X := rfl
  have ew0 : c.W (p, q) (1, 0) = (6*c.d0*q*q*0*0+3*c.d1*p*q*0*0+3*c.d1*q*q*1*0+c.d2*p*p*0*0+4*c.d2*p*q*1*0+c.d2*q*q+3*c.d3*p*p*1*0+3*c.d3*p*q+6*c.d4*p*p) := by
    show Wd _ _ _ _ _ _ _ = _
    unfold Wd
    grind
  have ew1 : c.W (p, q) (0, 1) = 6*c.d0*q*q+3*c.d1*p*q+c.d2*p*p := by
    show Wd _ _ _ _ _ _ _ = _
    unfold Wd
    grind
  have ew2 : c.W (p, q) (-b, a) = (6*c.d0*q*q*a*a+3*c.d1*p*q*a*a+3*c.d1*q*q*(-b)*a+c.d2*p*p*a*a+4*c.d2*p*q*(-b)*a+c.d2*q*q*(-b)*(-b)+3*c.d3*p*p*(-b)*a+3*c.d3*p*q*(-b)*(-b)+6*c.d4*p*p*(-b)*(-b)) := by
    show Wd _ _ _ _ _ _ _ = _
    unfold Wd
    grind
  have ev1 : c.V (p, q) (0, 1) = -(24*c.d0*c.d2*q*q+36*c.d0*c.d3*p*q+36*c.d0*c.d4*p*p-9*c.d1*c.d1*q*q-6*c.d1*c.d2*p*q-c.d2*c.d2*p*p) := by
    show Vd _ _ _ _ _ _ _ = _
    unfold Vd
    grind
  have eq0 : c.Q (p, q) = c.d4*p*p*p*p+c.d3*p*p*p*q+c.d2*p*p*q*q+c.d1*p*q*q*q+c.d0*q*q*q*q := rfl
  have ed0 : wd ((p, q) : Pt) (1, 0) * wd ((p, q) : Pt) (1, 0) = q * q := by
    show (p * 0 - q * 1) * (p * 0 - q * 1) = q * q
    grind
  have ed1 : wd ((p, q) : Pt) (0, 1) * wd ((p, q) : Pt) (0, 1) = p * p := by
    show (p * 1 - q * 0) * (p * 1 - q * 0) = p * p
    grind
  have ed2 : wd ((p, q) : Pt) (-b, a) * wd ((p, q) : Pt) (-b, a) = (p*a+q*b) * (p*a+q*b) := by
    show (p * a - q * (-b)) * (p * a - q * (-b)) = _
    grind
  have ev2 : c.V (p, q) (-b, a) = c.V (p, q) (-b, a) := rfl
  have hs' : s * s = c.d4*p*p*p*p+c.d3*p*p*p*q+c.d2*p*p*q*q+c.d1*p*q*q*q+c.d0*q*q*q*q := hs
  have fp11 := s_p11 a b d e f p q c.d4 c.d3 c.d2 c.d1 c.d0 _ _ _ _ _ c.I c.J c.X (-a*e*e-b*b*f+b*d*e) _ (c.W (p, q) (1, 0)) (c.W (p, q) (0, 1)) (c.W (p, q) (-b, a)) (c.V (p, q) (0, 1)) (c.V (p, q) (-b, a)) (-(b*b*b-a*b*d+a*a*e)) (p*a+q*b) _ _ _ _ s k4 k3 k2 k1 k0 rfl rfl rfl rfl rfl rfl rfl kX rfl rfl ew0 ew1 rfl rfl ew2 ev1 rfl rfl rfl rfl rfl hs'
  have fp12 := s_p12 a b d e f p q c.d4 c.d3 c.d2 c.d1 c.d0 _ _ _ _ _ c.I c.J c.X (-a*e*e-b*b*f+b*d*e) _ (c.W (p, q) (1, 0)) (c.W (p, q) (0, 1)) (c.W (p, q) (-b, a)) (c.V (p, q) (0, 1)) (c.V (p, q) (-b, a)) (-(b*b*b-a*b*d+a*a*e)) (p*a+q*b) _ _ _ _ s k4 k3 k2 k1 k0 rfl rfl rfl rfl rfl rfl rfl kX rfl rfl ew0 ew1 rfl rfl ew2 ev1 rfl rfl rfl rfl rfl hs'
  have fp21 := s_p21 a b d e f p q c.d4 c.d3 c.d2 c.d1 c.d0 _ _ _ _ _ c.I c.J c.X (-a*e*e-b*b*f+b*d*e) _ (c.W (p, q) (1, 0)) (c.W (p, q) (0, 1)) (c.W (p, q) (-b, a)) (c.V (p, q) (0, 1)) (c.V (p, q) (-b, a)) (-(b*b*b-a*b*d+a*a*e)) (p*a+q*b) _ _ _ _ s k4 k3 k2 k1 k0 rfl rfl rfl rfl rfl rfl rfl kX rfl rfl ew0 ew1 rfl rfl ew2 ev1 rfl rfl rfl rfl rfl hs'
  have fp22 := s_p22 a b d e f p q c.d4 c.d3 c.d2 c.d1 c.d0 _ _ _ _ _ c.I c.J c.X (-a*e*e-b*b*f+b*d*e) _ (c.W (p, q) (1, 0)) (c.W (p, q) (0, 1)) (c.W (p, q) (-b, a)) (c.V (p, q) (0, 1)) (c.V (p, q) (-b, a)) (-(b*b*b-a*b*d+a*a*e)) (p*a+q*b) _ _ _ _ s k4 k3 k2 k1 k0 rfl rfl rfl rfl rfl rfl rfl kX rfl rfl ew0 ew1 rfl rfl ew2 ev1 rfl rfl rfl rfl rfl hs'
  have fm11 := s_m11 a b d e f p q c.d4 c.d3 c.d2 c.d1 c.d0 _ _ _ _ _ c.I c.J c.X (-a*e*e-b*b*f+b*d*e) _ (c.W (p, q) (1, 0)) (c.W (p, q) (0, 1)) (c.W (p, q) (-b, a)) (c.V (p, q) (0, 1)) (c.V (p, q) (-b, a)) (-(b*b*b-a*b*d+a*a*e)) (p*a+q*b) _ _ _ _ s k4 k3 k2 k1 k0 rfl rfl rfl rfl rfl rfl rfl kX rfl rfl ew0 ew1 rfl rfl ew2 ev1 rfl rfl rfl rfl rfl hs'
  have fm12 := s_m12 a b d e f p q c.d4 c.d3 c.d2 c.d1 c.d0 _ _ _ _ _ c.I c.J c.X (-a*e*e-b*b*f+b*d*e) _ (c.W (p, q) (1, 0)) (c.W (p, q) (0, 1)) (c.W (p, q) (-b, a)) (c.V (p, q) (0, 1)) (c.V (p, q) (-b, a)) (-(b*b*b-a*b*d+a*a*e)) (p*a+q*b) _ _ _ _ s k4 k3 k2 k1 k0 rfl rfl rfl rfl rfl rfl rfl kX rfl rfl ew0 ew1 rfl rfl ew2 ev1 rfl rfl rfl rfl rfl hs'
  have fm21 := s_m21 a b d e f p q c.d4 c.d3 c.d2 c.d1 c.d0 _ _ _ _ _ c.I c.J c.X (-a*e*e-b*b*f+b*d*e) _ (c.W (p, q) (1, 0)) (c.W (p, q) (0, 1)) (c.W (p, q) (-b, a)) (c.V (p, q) (0, 1)) (c.V (p, q) (-b, a)) (-(b*b*b-a*b*d+a*a*e)) (p*a+q*b) _ _ _ _ s k4 k3 k2 k1 k0 rfl rfl rfl rfl rfl rfl rfl kX rfl rfl ew0 ew1 rfl rfl ew2 ev1 rfl rfl rfl rfl rfl hs'
  have fm22 := s_m22 a b d e f p q c.d4 c.d3 c.d2 c.d1 c.d0 _ _ _ _ _ c.I c.J c.X (-a*e*e-b*b*f+b*d*e) _ (c.W (p, q) (1, 0)) (c.W (p, q) (0, 1)) (c.W (p, q) (-b, a)) (c.V (p, q) (0, 1)) (c.V (p, q) (-b, a)) (-(b*b*b-a*b*d+a*a*e)) (p*a+q*b) _ _ _ _ s k4 k3 k2 k1 k0 rfl rfl rfl rfl rfl rfl rfl kX rfl rfl ew0 ew1 rfl rfl ew2 ev1 rfl rfl rfl rfl rfl hs'
  have g0 : c.W (p, q) (1, 0) + 6 * b * s = c.W (p, q) (1, 0) + 6 * (s * b) := by grind
  have g1 : c.W (p, q) (0, 1) + 6 * e * s = c.W (p, q) (0, 1) + 6 * (s * e) := by grind
  have g2 : c.W (p, q) (0, 1) + -6 * e * s = c.W (p, q) (0, 1) - 6 * (s * e) := by grind
  have g3 : c.W (p, q) (-b, a) + 6 * (-(b*b*b-a*b*d+a*a*e)) * s = c.W (p, q) (-b, a) + 6 * (s * (-(b*b*b-a*b*d+a*a*e))) := by grind
  have g4 : c.W (p, q) (-b, a) + -6 * (-(b*b*b-a*b*d+a*a*e)) * s = c.W (p, q) (-b, a) - 6 * (s * (-(b*b*b-a*b*d+a*a*e))) := by grind
  have hn : ∀ g T : Int, -(g * -T) = g * T := fun g T => by grind
  have g5 : ∀ z : Int, z + 0 * s = z := fun z => by grind
  obtain ⟨a1, a2, a3⟩ := addA c.I c.J c.X (c.W (p, q) (1, 0) + 6 * (s * b)) (q * q)
  rw [g0, g1, g5, ← a1, ← a2] at fp11
  rw [g0, g1, g5, ← a2, ← a3] at fp12
  rw [g0, g2, g5, ← a1, ← a2] at fp21
  rw [g0, g2, g5, ← a2, ← a3] at fp22
  rw [g0, g3, g5, ← a1, ← a2, ← Int.mul_neg] at fm11
  rw [g0, g3, g5, ← a2, ← a3] at fm12
  rw [g0, g4, g5, ← a1, ← a2, ← Int.mul_neg] at fm21
  rw [g0, g4, g5, ← a2, ← a3] at fm22
  refine ⟨(432*(-a*e*e-b*b*f+b*d*e)*q*b*(4*c.d4*p*p*p+3*c.d3*p*p*q+2*c.d2*p*q*q+c.d1*q*q*q)+432*(-a*e*e-b*b*f+b*d*e)*q*(4*c.d4*p+c.d3*q)*s), ⟨?_, ?_⟩, ⟨?_, ?_⟩, ⟨?_, ?_⟩, ⟨?_, ?_⟩⟩
  · rw [ed0, ed1]
    exact fp11
  · rw [ed0, ed1]
    exact fp12
  · rw [ed0]
    exact fp21
  · rw [ed0]
    exact fp22
  · rw [ed0, ed2]
    exact fm11
  · rw [ed0, ed2, hn]
    exact fm12
  · rw [ed0]
    exact fm21
  · rw [ed0, hn]
    exact fm22

end
/-- the place that is the other one of y -/
theorem sp_eqs (a b d e f : Int) : ∃ T : Int,
    (2 * (cn a b d e f).add.A (3 * (cn a b d e f).d3 * (cn a b d e f).d3 - 8 * (cn a b d e f).d4 * (cn a b d e f).d2, 4 * (cn a b d e f).d4) * ((cn a b d e f).d2 - 6 * b * e) + (cn a b d e f).add.B (3 * (cn a b d e f).d3 * (cn a b d e f).d3 - 8 * (cn a b d e f).d4 * (cn a b d e f).d2, 4 * (cn a b d e f).d4) * 1 = 1 * T ∧
     (cn a b d e f).add.B (3 * (cn a b d e f).d3 * (cn a b d e f).d3 - 8 * (cn a b d e f).d4 * (cn a b d e f).d2, 4 * (cn a b d e f).d4) * ((cn a b d e f).d2 - 6 * b * e) + 2 * (cn a b d e f).add.C (3 * (cn a b d e f).d3 * (cn a b d e f).d3 - 8 * (cn a b d e f).d4 * (cn a b d e f).d2, 4 * (cn a b d e f).d4) * 1 = -(((cn a b d e f).d2 - 6 * b * e) * T)) ∧
    (2 * (cn a b d e f).add.A (3 * (cn a b d e f).d3 * (cn a b d e f).d3 - 8 * (cn a b d e f).d4 * (cn a b d e f).d2, 4 * (cn a b d e f).d4) * ((cn a b d e f).W (1, 0) (-b, a) + 6 * (-b * (-(b*b*b-a*b*d+a*a*e)))) + (cn a b d e f).add.B (3 * (cn a b d e f).d3 * (cn a b d e f).d3 - 8 * (cn a b d e f).d4 * (cn a b d e f).d2, 4 * (cn a b d e f).d4) * (wd (1, 0) (-b, a) * wd (1, 0) (-b, a)) = wd (1, 0) (-b, a) * wd (1, 0) (-b, a) * (-T) ∧
     (cn a b d e f).add.B (3 * (cn a b d e f).d3 * (cn a b d e f).d3 - 8 * (cn a b d e f).d4 * (cn a b d e f).d2, 4 * (cn a b d e f).d4) * ((cn a b d e f).W (1, 0) (-b, a) + 6 * (-b * (-(b*b*b-a*b*d+a*a*e)))) + 2 * (cn a b d e f).add.C (3 * (cn a b d e f).d3 * (cn a b d e f).d3 - 8 * (cn a b d e f).d4 * (cn a b d e f).d2, 4 * (cn a b d e f).d4) * (wd (1, 0) (-b, a) * wd (1, 0) (-b, a)) = -(((cn a b d e f).W (1, 0) (-b, a) + 6 * (-b * (-(b*b*b-a*b*d+a*a*e)))) * (-T))) ∧
    (2 * (cn a b d e f).add.A (3 * (cn a b d e f).d3 * (cn a b d e f).d3 - 8 * (cn a b d e f).d4 * (cn a b d e f).d2, 4 * (cn a b d e f).d4) * (cn a b d e f).V (1, 0) (-b, a) + (cn a b d e f).add.B (3 * (cn a b d e f).d3 * (cn a b d e f).d3 - 8 * (cn a b d e f).d4 * (cn a b d e f).d2, 4 * (cn a b d e f).d4) * ((cn a b d e f).W (1, 0) (-b, a) - 6 * (-b * (-(b*b*b-a*b*d+a*a*e)))) = ((cn a b d e f).W (1, 0) (-b, a) - 6 * (-b * (-(b*b*b-a*b*d+a*a*e)))) * (-T) ∧
     (cn a b d e f).add.B (3 * (cn a b d e f).d3 * (cn a b d e f).d3 - 8 * (cn a b d e f).d4 * (cn a b d e f).d2, 4 * (cn a b d e f).d4) * (cn a b d e f).V (1, 0) (-b, a) + 2 * (cn a b d e f).add.C (3 * (cn a b d e f).d3 * (cn a b d e f).d3 - 8 * (cn a b d e f).d4 * (cn a b d e f).d2, 4 * (cn a b d e f).d4) * ((cn a b d e f).W (1, 0) (-b, a) - 6 * (-b * (-(b*b*b-a*b*d+a*a*e)))) = -((cn a b d e f).V (1, 0) (-b, a) * (-T))) := by
  let c := cn a b d e f
  have k4 : c.d4 = b*b := by
    show b * b - 4 * a * 0 = b * b
    omega
  have k3 : c.d3 = 2*b*d-4*a*e := by
    show 2 * b * d - 4 * a * e - 4 * b * 0 = _
    omega
  have k2 : c.d2 = d*d-2*b*e-4*a*f := by
    show d * d - 2 * b * e - 4 * a * f - 4 * 0 * 0 = _
    omega
  have k1 : c.d1 = 2*d*e-4*b*f := by
    show 2 * d * e - 4 * b * f - 4 * 0 * e = _
    omega
  have k0 : c.d0 = e*e := by
    show e * e - 4 * 0 * f = _
    omega
  have kX : c.X = d*d+4*(b*e-a*f) := by
    show (d - 2 * 0) * (d - 10 * 0) + 4 * (b * e - a * f) = _
    grind
  have eadd : c.add = addOf c.I c.J c.X := rfl
  have ew2 : c.W (1, 0) (-b, a) = c.d2*a*a-3*c.d3*a*b+6*c.d4*b*b := by
    show Wd _ _ _ _ _ _ _ = _
    unfold Wd
    grind
  have ev2 : c.V (1, 0) (-b, a) = -(36*c.d0*c.d4*a*a-36*c.d1*c.d4*a*b-c.d2*c.d2*a*a+6*c.d2*c.d3*a*b+24*c.d2*c.d4*b*b-9*c.d3*c.d3*b*b) := by
    show Vd _ _ _ _ _ _ _ = _
    unfold Vd
    grind
  have ed2 : wd ((1, 0) : Pt) (-b, a) * wd ((1, 0) : Pt) (-b, a) = a * a := by
    show (1 * a - 0 * (-b)) * (1 * a - 0 * (-b)) = a * a
    grind
  have p0 := q_p a b d e f c.d4 c.d3 c.d2 c.d1 c.d0 c.I c.J c.X (-(b*b*b-a*b*d+a*a*e)) (c.W (1, 0) (-b, a)) (c.V (1, 0) (-b, a)) _ _ k4 k3 k2 k1 k0 rfl rfl kX rfl ew2 ev2 rfl rfl
  have m11 := q_m11 a b d e f c.d4 c.d3 c.d2 c.d1 c.d0 c.I c.J c.X (-(b*b*b-a*b*d+a*a*e)) (c.W (1, 0) (-b, a)) (c.V (1, 0) (-b, a)) _ _ k4 k3 k2 k1 k0 rfl rfl kX rfl ew2 ev2 rfl rfl
  have m12 := q_m12 a b d e f c.d4 c.d3 c.d2 c.d1 c.d0 c.I c.J c.X (-(b*b*b-a*b*d+a*a*e)) (c.W (1, 0) (-b, a)) (c.V (1, 0) (-b, a)) _ _ k4 k3 k2 k1 k0 rfl rfl kX rfl ew2 ev2 rfl rfl
  have m21 := q_m21 a b d e f c.d4 c.d3 c.d2 c.d1 c.d0 c.I c.J c.X (-(b*b*b-a*b*d+a*a*e)) (c.W (1, 0) (-b, a)) (c.V (1, 0) (-b, a)) _ _ k4 k3 k2 k1 k0 rfl rfl kX rfl ew2 ev2 rfl rfl
  have m22 := q_m22 a b d e f c.d4 c.d3 c.d2 c.d1 c.d0 c.I c.J c.X (-(b*b*b-a*b*d+a*a*e)) (c.W (1, 0) (-b, a)) (c.V (1, 0) (-b, a)) _ _ k4 k3 k2 k1 k0 rfl rfl kX rfl ew2 ev2 rfl rfl
  obtain ⟨a1, a2, a3⟩ := addA c.I c.J c.X (3 * c.d3 * c.d3 - 8 * c.d4 * c.d2) (4 * c.d4)
  rw [← a1, ← a2, ← a3] at p0
  rw [← a1, ← a2] at m11 m21
  rw [← a1, ← a2, ← a3] at m12 m22
  have hn : ∀ g T : Int, -(g * -T) = g * T := fun g T => by grind
  have hm : ∀ g T : Int, g * -T = -(g * T) := fun g T => by grind
  have g1 : c.W (1, 0) (-b, a) + 6 * (-b * (-(b*b*b-a*b*d+a*a*e))) = c.W (1, 0) (-b, a) - 6 * b * (-(b*b*b-a*b*d+a*a*e)) := by grind
  have g2 : c.W (1, 0) (-b, a) - 6 * (-b * (-(b*b*b-a*b*d+a*a*e))) = c.W (1, 0) (-b, a) + 6 * b * (-(b*b*b-a*b*d+a*a*e)) := by grind
  obtain ⟨T, hT⟩ : ∃ T, T = 2 * (addOf c.I c.J c.X).A (3 * c.d3 * c.d3 - 8 * c.d4 * c.d2, 4 * c.d4) * (c.d2 - 6 * b * e) + (addOf c.I c.J c.X).B (3 * c.d3 * c.d3 - 8 * c.d4 * c.d2, 4 * c.d4) := ⟨_, rfl⟩
  rw [← hT] at p0 m11 m12 m21 m22
  refine ⟨T, ⟨?_, ?_⟩, ⟨?_, ?_⟩, ⟨?_, ?_⟩⟩
  · rw [hT, Int.mul_one, Int.one_mul]
    rfl
  · rw [Int.mul_one]
    exact p0
  · rw [g1, ed2, hm (a * a) T]
    exact m11
  · rw [g1, ed2, hn _ T]
    exact m12
  · rw [g2, hm _ T]
    exact m21
  · rw [g2, hn _ T]
    exact m22
theorem wd_one {x : Pt} {q : Int} (h : wd x (1, 0) = q) : x.2 = -q := by
  unfold wd at h
  simp only at h
  omega
theorem cn_nz {a b d e f : Int} (hb : (cn a b d e f).bend ≠ 0) : Nz (-b, a) := fun z => by
  have h1 : b = 0 := by
    have := z.1
    simp only at this
    omega
  have h2 : a = 0 := z.2
  refine Co.simple hb (y := (1, 0)) (fun w => absurd w.1 (by decide)) ?_ ?_
  · show Qd _ _ _ _ _ _ = 0
    unfold Qd Co.d4 Co.d3 Co.d2 Co.d1 Co.d0 q4 q3
    rw [h1, h2]
    simp
  · show Vd _ _ _ _ _ _ _ = 0
    unfold Vd Co.d4 Co.d3 Co.d2 Co.d1 Co.d0 q4 q3 q2 q1 q0
    rw [h1, h2]
    simp
/-- one step more and one step less are the partners by the relation of the multiples: in the coordinates of two neighbours -/
theorem add_norm {a b d e f s : Int} {x u p m : Pt} (hb : (cn a b d e f).bend ≠ 0) (hx : Nz x) (nu : Nz u) (np : Nz p) (nm : Nz m) (hs : s * s = (cn a b d e f).Q x)
    (hu : Is (cn a b d e f) u x s (1, 0) b) (hp : Is (cn a b d e f) p x s (0, 1) e) (hm : Is (cn a b d e f) m x s (-b, a) (-(b*b*b-a*b*d+a*a*e))) : Opp (cn a b d e f).add u p m := by
  have k4 : (cn a b d e f).d4 = b*b := by
    show b * b - 4 * a * 0 = b * b
    omega
  have e1 : e * e = (cn a b d e f).Q (0, 1) := by
    show e * e = Qd _ _ _ _ _ _
    unfold Qd Co.d4 Co.d3 Co.d2 Co.d1 Co.d0 q4 q3 q2 q1 q0
    grind
  have e2 : (-(b*b*b-a*b*d+a*a*e)) * (-(b*b*b-a*b*d+a*a*e)) = (cn a b d e f).Q (-b, a) := by
    show _ = Qd _ _ _ _ _ _
    unfold Qd Co.d4 Co.d3 Co.d2 Co.d1 Co.d0 q4 q3 q2 q1 q0
    grind
  have e0 : -b * -b = (cn a b d e f).Q (1, 0) := by
    show _ = Qd _ _ _ _ _ _
    unfold Qd Co.d4 Co.d3 Co.d2 Co.d1 Co.d0 q4 q3 q2 q1 q0
    grind
  have nz := cn_nz hb
  by_cases n1 : Nz ((cn a b d e f).W x (1, 0) + 6 * (s * b), wd x (1, 0) * wd x (1, 0))
  · obtain ⟨T, E1, E2, E3, E4⟩ := norm_eqs (a := a) (b := b) (d := d) (e := e) (f := f) hs
    obtain ⟨k, l, hk, hl, u1, u2⟩ := par_of nu n1 hu.1
    have P : k * k * (2 * (cn a b d e f).add.A u * p.1 + (cn a b d e f).add.B u * p.2) = p.2 * (l * l * T) ∧ k * k * ((cn a b d e f).add.B u * p.1 + 2 * (cn a b d e f).add.C u * p.2) = -(p.1 * (l * l * T)) := by
      rcases Co.some hb hx (y := (0, 1)) (fun z => absurd z.2 (by decide)) hs e1 with n | n
      · obtain ⟨k1, l1, hk1, _, p1, p2⟩ := par_of np n hp.1
        exact carry hk1 u1 u2 p1 p2 E1.1 E1.2
      · obtain ⟨k1, l1, hk1, _, p1, p2⟩ := par_of np n hp.2
        exact carry hk1 u1 u2 p1 p2 E2.1 E2.2
    have M : k * k * (2 * (cn a b d e f).add.A u * m.1 + (cn a b d e f).add.B u * m.2) = m.2 * (l * l * -T) ∧ k * k * ((cn a b d e f).add.B u * m.1 + 2 * (cn a b d e f).add.C u * m.2) = -(m.1 * (l * l * -T)) := by
      rcases Co.some hb hx nz hs e2 with n | n
      · obtain ⟨k1, l1, hk1, _, p1, p2⟩ := par_of nm n hm.1
        exact carry hk1 u1 u2 p1 p2 E3.1 E3.2
      · obtain ⟨k1, l1, hk1, _, p1, p2⟩ := par_of nm n hm.2
        exact carry hk1 u1 u2 p1 p2 E4.1 E4.2
    refine ⟨k * k, l * l * T, mul2_ne hk hk, P.1, P.2, ?_, ?_⟩
    · rw [M.1, Int.mul_neg, Int.mul_neg]
    · rw [M.2, Int.mul_neg, Int.mul_neg, Int.neg_neg]
  · have n2 : (cn a b d e f).W x (1, 0) + 6 * (s * b) = 0 ∧ wd x (1, 0) * wd x (1, 0) = 0 := Classical.byContradiction n1
    have x2 : x.2 = 0 := by
      have := wd_one (Int.mul_eq_zero.mp n2.2 |>.elim id id)
      omega
    obtain ⟨g, h⟩ := x
    have x2 : h = 0 := x2
    subst x2
    have g0 : g ≠ 0 := fun z => hx ⟨z, rfl⟩
    have gg := mul2_ne g0 g0
    have w0 : (cn a b d e f).W (g, 0) (1, 0) = 6 * (b * b) * (g * g) := by
      show Wd _ _ _ _ _ _ _ = _
      unfold Wd
      rw [k4]
      grind
    have hs2 : s * s = b * b * (g * g * (g * g)) := by
      rw [hs]
      show Qd _ _ _ _ _ _ = _
      unfold Qd
      rw [k4]
      grind
    have es : s = g * g * -b := by
      by_cases b0 : b = 0
      · rw [b0] at hs2
        have : s = 0 := (Int.mul_eq_zero.mp (show s * s = 0 by rw [hs2]; simp)).elim id id
        rw [this, b0]
        simp
      · have := n2.1
        rw [w0] at this
        apply Int.eq_of_mul_eq_mul_left (show 6 * b ≠ 0 by omega)
        grind
    subst es
    have eg : ((g, 0) : Pt) = (g * (1, 0).1, g * (1, 0).2) := by
      show ((g, 0) : Pt) = (g * 1, g * 0)
      rw [Int.mul_one, Int.mul_zero]
    rw [eg] at hu hp hm
    have hu := (Is.unscale (y := ((1, 0) : Pt)) (t := -b) g0 hu.comm).comm
    have hp := (Is.unscale (y := ((1, 0) : Pt)) (t := -b) g0 hp.comm).comm
    have hm := (Is.unscale (y := ((1, 0) : Pt)) (t := -b) g0 hm.comm).comm
    clear n1 n2 w0 hs2 hs eg
    obtain ⟨T, E1, E3, E4⟩ := sp_eqs a b d e f
    have nH : Nz (3 * (cn a b d e f).d3 * (cn a b d e f).d3 - 8 * (cn a b d e f).d4 * (cn a b d e f).d2, 4 * (cn a b d e f).d4) := fun z => by
      have z1 : 3 * (cn a b d e f).d3 * (cn a b d e f).d3 - 8 * (cn a b d e f).d4 * (cn a b d e f).d2 = 0 := z.1
      have z2 : 4 * (cn a b d e f).d4 = 0 := z.2
      refine Co.simple hb (y := (1, 0)) (fun w => absurd w.1 (by decide)) ?_ ?_
      · show Qd _ _ _ _ _ _ = 0
        unfold Qd
        grind
      · show Vd _ _ _ _ _ _ _ = 0
        unfold Vd
        grind
    have cu : u.1 * (4 * (cn a b d e f).d4) = u.2 * (3 * (cn a b d e f).d3 * (cn a b d e f).d3 - 8 * (cn a b d e f).d4 * (cn a b d e f).d2) := by
      have h2 := hu.2
      have w1 : (cn a b d e f).W (1, 0) (1, 0) - 6 * (-b * b) = 3 * (4 * (cn a b d e f).d4) := by
        have : (cn a b d e f).W (1, 0) (1, 0) = 6 * (cn a b d e f).d4 := by
          show Wd _ _ _ _ _ _ _ = _
          unfold Wd
          grind
        rw [this, k4]
        grind
      have v1 : (cn a b d e f).V (1, 0) (1, 0) = 3 * (3 * (cn a b d e f).d3 * (cn a b d e f).d3 - 8 * (cn a b d e f).d4 * (cn a b d e f).d2) := by
        show Vd _ _ _ _ _ _ _ = _
        unfold Vd
        grind
      rw [w1, v1] at h2
      apply Int.eq_of_mul_eq_mul_left (show (3 : Int) ≠ 0 by decide)
      grind
    obtain ⟨k, l, hk, hl, u1, u2⟩ := par_of nu nH cu
    have P : k * k * (2 * (cn a b d e f).add.A u * p.1 + (cn a b d e f).add.B u * p.2) = p.2 * (l * l * T) ∧ k * k * ((cn a b d e f).add.B u * p.1 + 2 * (cn a b d e f).add.C u * p.2) = -(p.1 * (l * l * T)) := by
      have cp : p.1 * 1 = p.2 * ((cn a b d e f).d2 - 6 * b * e) := by
        have h1 := hp.1
        have w1 : (cn a b d e f).W (1, 0) (0, 1) + 6 * (-b * e) = (cn a b d e f).d2 - 6 * b * e := by
          have : (cn a b d e f).W (1, 0) (0, 1) = (cn a b d e f).d2 := by
            show Wd _ _ _ _ _ _ _ = _
            unfold Wd
            grind
          rw [this]
          grind
        rw [w1] at h1
        exact h1
      obtain ⟨k1, l1, hk1, _, p1, p2⟩ := par_of (y := ((cn a b d e f).d2 - 6 * b * e, 1)) np (fun z => absurd z.2 (show (1 : Int) ≠ 0 by decide)) cp
      exact carry hk1 u1 u2 p1 p2 E1.1 E1.2
    have M : k * k * (2 * (cn a b d e f).add.A u * m.1 + (cn a b d e f).add.B u * m.2) = m.2 * (l * l * -T) ∧ k * k * ((cn a b d e f).add.B u * m.1 + 2 * (cn a b d e f).add.C u * m.2) = -(m.1 * (l * l * -T)) := by
      rcases Co.some hb (x := (1, 0)) (fun z => absurd z.1 (by decide)) nz e0 e2 with n | n
      · obtain ⟨k1, l1, hk1, _, p1, p2⟩ := par_of nm n hm.1
        exact carry hk1 u1 u2 p1 p2 E3.1 E3.2
      · obtain ⟨k1, l1, hk1, _, p1, p2⟩ := par_of nm n hm.2
        exact carry hk1 u1 u2 p1 p2 E4.1 E4.2
    refine ⟨k * k, l * l * T, mul2_ne hk hk, P.1, P.2, ?_, ?_⟩
    · rw [M.1, Int.mul_neg, Int.mul_neg]
    · rw [M.2, Int.mul_neg, Int.mul_neg, Int.neg_neg]
end DL

namespace DL
open PySem PySem.Spec PyProof.Rows L2 Evl
/-! ## any coordinates; chains -/
theorem lin_10 (y z : Pt) : lin (1, 0) y z = y := by
  refine Prod.ext ?_ ?_
  · show 1 * y.1 + 0 * z.1 = y.1
    omega
  · show 1 * y.2 + 0 * z.2 = y.2
    omega
theorem lin_01 (y z : Pt) : lin (0, 1) y z = z := by
  refine Prod.ext ?_ ?_
  · show 0 * y.1 + 1 * z.1 = z.1
    omega
  · show 0 * y.2 + 1 * z.2 = z.2
    omega
/-- the numbers in the coordinates of two neighbours -/
theorem mv_a (c : Co) (y z : Pt) : (c.mv y z).a = c.A y * (y.1 * y.1) + c.B y * (y.1 * y.2) + c.C y * (y.2 * y.2) := by
  show m1 _ _ _ _ _ _ y z = _
  unfold m1 Co.A Co.B Co.C fV
  grind
theorem mv_b (c : Co) (y z : Pt) : (c.mv y z).b = y.1 * (2 * c.A y * z.1 + c.B y * z.2) + y.2 * (c.B y * z.1 + 2 * c.C y * z.2) := by
  show m2 _ _ _ _ _ _ y z = _
  unfold m2 Co.A Co.B Co.C fV
  grind
theorem mv_c (c : Co) (y z : Pt) : 2 * (c.mv y z).c = z.1 * (2 * c.A y * z.1 + c.B y * z.2) + z.2 * (c.B y * z.1 + 2 * c.C y * z.2) := by
  show 2 * m3 _ _ _ _ _ _ y z = _
  unfold m3 Co.A Co.B Co.C fV
  grind
theorem mv_e (c : Co) (y z : Pt) : (c.mv y z).e = z.1 * (2 * c.A z * y.1 + c.B z * y.2) + z.2 * (c.B z * y.1 + 2 * c.C z * y.2) := by
  show m5 _ _ _ _ _ _ y z = _
  unfold m5 Co.A Co.B Co.C fV
  grind
theorem mv_cn {c : Co} {y z : Pt} {t : Int} (h : Sg c y z t) : c.mv y z = cn (c.mv y z).a (c.mv y z).b (c.mv y z).d (c.mv y z).e (c.mv y z).f := by
  have e := mv_c c y z
  rw [h.1, h.2] at e
  have : (c.mv y z).c = 0 := by
    have : 2 * (c.mv y z).c = 0 := by
      rw [e]
      grind
    omega
  rcases hc : c.mv y z with ⟨a, b, c', d, e, f⟩
  rw [hc] at this
  have : c' = 0 := this
  subst this
  rfl
theorem mv_bt {c : Co} {y z : Pt} {t : Int} (h : Sg c y z t) : (c.mv y z).b = wd y z * t := by
  rw [mv_b, h.1, h.2]
  unfold wd
  grind
theorem mv_et {c : Co} {y z : Pt} {t : Int} (h : Sg c z y (-t)) : (c.mv y z).e = wd y z * t := by
  rw [mv_e, h.1, h.2]
  unfold wd
  grind
/-- what the relation is at the third point, the other partner -/
theorem mv_B (c : Co) (y z w : Pt) : (c.mv y z).b * (w.1 * w.1) + (c.mv y z).d * (w.1 * w.2) + (c.mv y z).e * (w.2 * w.2) = z.1 * (2 * c.A (lin w y z) * y.1 + c.B (lin w y z) * y.2) + z.2 * (c.B (lin w y z) * y.1 + 2 * c.C (lin w y z) * y.2) := by
  show m2 _ _ _ _ _ _ y z * (w.1 * w.1) + m4 _ _ _ _ _ _ y z * (w.1 * w.2) + m5 _ _ _ _ _ _ y z * (w.2 * w.2) = _
  unfold m2 m4 m5 Co.A Co.B Co.C fV
  show _ = z.1 * (2 * (c.a * ((w.1 * y.1 + w.2 * z.1) * (w.1 * y.1 + w.2 * z.1)) + c.b * ((w.1 * y.1 + w.2 * z.1) * (w.1 * y.2 + w.2 * z.2)) + c.c * ((w.1 * y.2 + w.2 * z.2) * (w.1 * y.2 + w.2 * z.2))) * y.1 + _ * y.2) + _
  grind
theorem other_par {A B C : Int} {y z w : Pt} {t : Int} (h1 : 2 * A * z.1 + B * z.2 = z.2 * t) (h2 : B * z.1 + 2 * C * z.2 = -(z.1 * t)) (k1 : 2 * A * w.1 + B * w.2 = w.2 * -t) (k2 : B * w.1 + 2 * C * w.2 = -(w.1 * -t)) :
    (A * (y.1 * y.1) + B * (y.1 * y.2) + C * (y.2 * y.2)) * wd z w = wd y z * t * wd y w := by
  have f1 : A * wd z w = t * (z.2 * w.2) := by
    have : 2 * (A * wd z w) = w.2 * (2 * A * z.1 + B * z.2) - z.2 * (2 * A * w.1 + B * w.2) := by
      unfold wd
      grind
    rw [h1, k1] at this
    have : 2 * (A * wd z w) = 2 * (t * (z.2 * w.2)) := by
      rw [this]
      grind
    omega
  have f2 : C * wd z w = t * (z.1 * w.1) := by
    have : 2 * (C * wd z w) = z.1 * (B * w.1 + 2 * C * w.2) - w.1 * (B * z.1 + 2 * C * z.2) := by
      unfold wd
      grind
    rw [h2, k2] at this
    have : 2 * (C * wd z w) = 2 * (t * (z.1 * w.1)) := by
      rw [this]
      grind
    omega
  have f3 : B * wd z w = -(t * (z.1 * w.2 + z.2 * w.1)) := by
    have : 2 * (B * wd z w) = w.2 * (B * z.1 + 2 * C * z.2) - z.2 * (B * w.1 + 2 * C * w.2) + z.1 * (2 * A * w.1 + B * w.2) - w.1 * (2 * A * z.1 + B * z.2) := by
      unfold wd
      grind
    rw [h1, h2, k1, k2] at this
    have : 2 * (B * wd z w) = 2 * -(t * (z.1 * w.2 + z.2 * w.1)) := by
      rw [this]
      grind
    omega
  have : (A * (y.1 * y.1) + B * (y.1 * y.2) + C * (y.2 * y.2)) * wd z w = A * wd z w * (y.1 * y.1) + B * wd z w * (y.1 * y.2) + C * wd z w * (y.2 * y.2) := by grind
  rw [this, f1, f2, f3]
  unfold wd
  grind
theorem add_near {c : Co} {x y z w u p m : Pt} {s t t1 t2 : Int} (hb : c.bend ≠ 0) (hx : Nz x) (hw : Nz w) (nu : Nz u) (np : Nz p) (nm : Nz m) (hs : s * s = c.Q x)
    (h1 : Sg c y z t) (h2 : Sg c y w (-t)) (h3 : Sg c z y (-t1)) (h4 : Sg c w y t2) (hk : wd y z ≠ 0) (hu : Is c u x s y t) (hp : Is c p x s z t1) (hm : Is c m x s w t2) : Opp c.add u p m := by
  have ecn := mv_cn h1
  have eb := mv_bt h1
  have ee := mv_et h3
  have ea := mv_a c y z
  have hb' := mv_bend hb hk
  refine Opp.mv hk ?_
  have Iu := hu.mv hk (lin_10 y z)
  have Ip := hp.mv hk (lin_01 y z)
  rw [← eb] at Iu
  rw [← ee] at Ip
  have sc : ∀ {v : Pt}, Nz v → Nz ((wd y z * wd y z * (wd y z * wd y z) * v.1, v.2) : Pt) := fun {v} n q => n ⟨(Int.mul_eq_zero.mp q.1).resolve_left (mul2_ne (mul2_ne hk hk) (mul2_ne hk hk)), q.2⟩
  have nx' : Nz (coord x y z) := fun q => by
    have e := lin_coord x y z
    have q1 : wd x z = 0 := q.1
    have q2 : wd y x = 0 := q.2
    have e1 : wd y z * x.1 = 0 := by
      have := congrArg Prod.fst e
      simp only [q1, q2] at this
      omega
    have e2 : wd y z * x.2 = 0 := by
      have := congrArg Prod.snd e
      simp only [q1, q2] at this
      omega
    exact hx ⟨(Int.mul_eq_zero.mp e1).resolve_left hk, (Int.mul_eq_zero.mp e2).resolve_left hk⟩
  -- the third point
  have nv : Nz ((-(c.mv y z).b, (c.mv y z).a) : Pt) := by
    have := hb'
    rw [ecn] at this
    exact cn_nz this
  have nl : Nz (lin (-(c.mv y z).b, (c.mv y z).a) y z) := fun q => by
    have q1 : -(c.mv y z).b * y.1 + (c.mv y z).a * z.1 = 0 := q.1
    have q2 : -(c.mv y z).b * y.2 + (c.mv y z).a * z.2 = 0 := q.2
    refine nv ⟨?_, ?_⟩
    · have : -(c.mv y z).b * wd y z = 0 := by
        unfold wd
        grind
      exact (Int.mul_eq_zero.mp this).resolve_right hk
    · have : (c.mv y z).a * wd y z = 0 := by
        unfold wd
        grind
      exact (Int.mul_eq_zero.mp this).resolve_right hk
  have cr : (lin (-(c.mv y z).b, (c.mv y z).a) y z).1 * w.2 = (lin (-(c.mv y z).b, (c.mv y z).a) y z).2 * w.1 := by
    have op := other_par (y := y) h1.1 h1.2 h2.1 h2.2
    rw [← ea, ← eb] at op
    show (-(c.mv y z).b * y.1 + (c.mv y z).a * z.1) * w.2 = (-(c.mv y z).b * y.2 + (c.mv y z).a * z.2) * w.1
    unfold wd at op
    grind
  obtain ⟨k, l, hk0, hl0, l1, l2⟩ := par_of nl hw cr
  have el : ((l * w.1, l * w.2) : Pt) = lin (k * (-(c.mv y z).b), k * (c.mv y z).a) y z := by
    refine Prod.ext ?_ ?_
    · show l * w.1 = k * (-(c.mv y z).b) * y.1 + k * (c.mv y z).a * z.1
      rw [← l1]
      show k * (-(c.mv y z).b * y.1 + (c.mv y z).a * z.1) = _
      grind
    · show l * w.2 = k * (-(c.mv y z).b) * y.2 + k * (c.mv y z).a * z.2
      rw [← l2]
      show k * (-(c.mv y z).b * y.2 + (c.mv y z).a * z.2) = _
      grind
  have Im := (hm.scale l).mv hk el.symm
  have em : wd y z * (l * l * t2) = k * k * (-((c.mv y z).b * (c.mv y z).b * (c.mv y z).b - (c.mv y z).a * (c.mv y z).b * (c.mv y z).d + (c.mv y z).a * (c.mv y z).a * (c.mv y z).e)) := by
    have B1 := mv_B c y z (k * (-(c.mv y z).b), k * (c.mv y z).a)
    rw [← el] at B1
    have S := h4.scaleL l
    rw [S.1, S.2] at B1
    simp only at B1
    have B2 : z.1 * (y.2 * (l * l * t2)) + z.2 * -(y.1 * (l * l * t2)) = -(wd y z * (l * l * t2)) := by
      unfold wd
      grind
    rw [B2] at B1
    have : wd y z * (l * l * t2) = -(-(wd y z * (l * l * t2))) := by omega
    rw [this, ← B1]
    grind
  rw [em] at Im
  have Im := Is.unscale (y := ((-(c.mv y z).b, (c.mv y z).a) : Pt)) hk0 Im
  have hs' := coord_Q (y := y) (z := z) hs
  have nu' := sc nu
  have np' := sc np
  have nm' := sc nm
  clear cr nl nv sc l1 l2 el em hm hu hp h1 h2 h3 h4
  rw [ecn] at Iu Ip Im hb' hs' ⊢
  exact add_norm hb' nx' nu' np' nm' hs' Iu Ip Im
end DL

namespace DL
open PySem PySem.Spec PyProof.Rows L2 Evl
theorem Sg.par {c : Co} {x z w : Pt} {t : Int} {k l : Int} (hl : l ≠ 0) (e1 : k * z.1 = l * w.1) (e2 : k * z.2 = l * w.2) (h : Sg c x z t) : Sg c x w t := by
  obtain ⟨h1, h2⟩ := h
  constructor
  · apply Int.eq_of_mul_eq_mul_left hl
    have : l * (2 * c.A x * w.1 + c.B x * w.2) = 2 * c.A x * (l * w.1) + c.B x * (l * w.2) := by grind
    rw [this, ← e1, ← e2]
    have : l * (w.2 * t) = (l * w.2) * t := by grind
    rw [this, ← e2]
    grind
  · apply Int.eq_of_mul_eq_mul_left hl
    have : l * (c.B x * w.1 + 2 * c.C x * w.2) = c.B x * (l * w.1) + 2 * c.C x * (l * w.2) := by grind
    rw [this, ← e1, ← e2]
    have : l * -(w.1 * t) = -((l * w.1) * t) := by grind
    rw [this, ← e1]
    grind
/-- a point across -/
abbrev acr (y : Pt) : Pt := (-y.2, y.1)
theorem acr_wd {y : Pt} (hy : Nz y) : wd y (acr y) ≠ 0 := fun h => by
  have h : y.1 * y.1 - y.2 * -y.2 = 0 := h
  have e : y.1 * y.1 + y.2 * y.2 = 0 := by grind
  have p1 := Int.natAbs_mul_self (a := y.1)
  have p2 := Int.natAbs_mul_self (a := y.2)
  have n1 : 0 ≤ y.1 * y.1 := by omega
  have n2 : 0 ≤ y.2 * y.2 := by omega
  have z1 : y.1 * y.1 = 0 := by omega
  have z2 : y.2 * y.2 = 0 := by omega
  exact hy ⟨(Int.mul_eq_zero.mp z1).elim id id, (Int.mul_eq_zero.mp z2).elim id id⟩
theorem mv_a0 {c : Co} {y z : Pt} {t : Int} (h : Sg c y y t) : (c.mv y z).a = 0 := by
  rw [mv_a]
  have : 2 * (c.A y * (y.1 * y.1) + c.B y * (y.1 * y.2) + c.C y * (y.2 * y.2)) = y.1 * (2 * c.A y * y.1 + c.B y * y.2) + y.2 * (c.B y * y.1 + 2 * c.C y * y.2) := by grind
  rw [h.1, h.2] at this
  have : 2 * (c.A y * (y.1 * y.1) + c.B y * (y.1 * y.2) + c.C y * (y.2 * y.2)) = 0 := by
    rw [this]
    grind
  omega
theorem mv_b0 {c : Co} {y z : Pt} {t : Int} (h : Sg c y y t) : (c.mv y z).b = -(wd y z * t) := by
  rw [mv_b]
  have : y.1 * (2 * c.A y * z.1 + c.B y * z.2) + y.2 * (c.B y * z.1 + 2 * c.C y * z.2) = z.1 * (2 * c.A y * y.1 + c.B y * y.2) + z.2 * (c.B y * y.1 + 2 * c.C y * y.2) := by grind
  rw [this, h.1, h.2]
  unfold wd
  grind
theorem add_gen {c : Co} {x y z w u p m : Pt} {s t t1 t2 : Int} (hb : c.bend ≠ 0) (hx : Nz x) (hy : Nz y) (hz : Nz z) (hw : Nz w) (nu : Nz u) (np : Nz p) (nm : Nz m) (hs : s * s = c.Q x)
    (h1 : Sg c y z t) (h2 : Sg c y w (-t)) (h3 : Sg c z y (-t1)) (h4 : Sg c w y t2) (hu : Is c u x s y t) (hp : Is c p x s z t1) (hm : Is c m x s w t2) : Opp c.add u p m := by
  by_cases k1 : wd y z = 0
  · by_cases k2 : wd y w = 0
    · exfalso
      have ez : y.1 * z.2 = y.2 * z.1 := wd_par k1
      have ew : y.1 * w.2 = y.2 * w.1 := wd_par k2
      obtain ⟨k, l, hk, hl, e1, e2⟩ := par_of hz hy (show z.1 * y.2 = z.2 * y.1 by grind)
      obtain ⟨k', l', hk', hl', f1, f2⟩ := par_of hw hy (show w.1 * y.2 = w.2 * y.1 by grind)
      have g1 := h1.par hl e1 e2
      have g2 := h2.par hl' f1 f2
      have t0 : t = 0 := by
        have := g1.uniq hy g2
        omega
      subst t0
      have ka := acr_wd hy
      have b1 := mv_a0 (z := acr y) g1
      have b2 := mv_b0 (z := acr y) g1
      rw [Int.mul_zero] at b2
      have hb' := mv_bend hb ka
      refine Co.simple hb' (y := (1, 0)) (fun z => absurd z.1 (by decide)) ?_ ?_
      · show Qd _ _ _ _ _ _ = 0
        unfold Qd Co.d4 Co.d3 Co.d2 Co.d1 Co.d0 q4 q3
        rw [b1, b2]
        simp
      · show Vd _ _ _ _ _ _ _ = 0
        unfold Vd Co.d4 Co.d3 Co.d2 Co.d1 Co.d0 q4 q3 q2 q1 q0
        rw [b1, b2]
        simp
    · refine (add_near (s := -s) (t := -t) (t1 := -t2) (t2 := -t1) hb hx hz nu nm np ?_ h2 ?_ ?_ ?_ k2 hu.neg hm.neg hp.neg).symm
      · rw [← hs]
        grind
      · rw [Int.neg_neg]
        exact h1
      · rw [Int.neg_neg]
        exact h4
      · exact h3
  · exact add_near hb hx hw nu np nm hs h1 h2 h3 h4 k1 hu hp hm
theorem step_one {c : Co} {x y : Pt} {s t : Int} (h : Hold c x y) (h1 : Sg c x y s) (h2 : Sg c y x (-t)) : Is c (c.X, 1) x s y t := by
  by_cases hk : wd x y = 0
  · have exy : x = y := pt_eq h.px h.py (by
      have := wd_par hk
      rw [this, Int.mul_comm])
    subst exy
    have et : t = -s := by
      have := h1.uniq h.px.ne h2
      omega
    subst et
    have q := h1.sq h.px.ne
    have ew : c.W x x = 6 * (s * s) := by
      rw [q]
      exact Wd_self _ _ _ _ _ _
    constructor
    · rw [hk, ew]
      grind
    · rw [ew]
      have ka := acr_wd h.px.ne
      have b1 := mv_a0 (z := acr x) h1
      have b2 := mv_b0 (z := acr x) h1
      have v1 := mv_V c x (acr x) (1, 0) (1, 0)
      rw [lin_10] at v1
      have x1 := mv_X c x (acr x)
      have v2 : (c.mv x (acr x)).V (1, 0) (1, 0) = 12 * ((c.mv x (acr x)).b * (c.mv x (acr x)).b) * (c.mv x (acr x)).X := by
        show Vd _ _ _ _ _ _ _ = _ * Co.X _
        unfold Vd Co.d4 Co.d3 Co.d2 Co.d1 Co.d0 q4 q3 q2 q1 q0 Co.X
        rw [b1]
        grind
      rw [v2, x1, b2] at v1
      generalize c.X = X at *
      generalize c.V x x = V at *
      generalize wd x (acr x) = k at *
      have k2 := mul2_ne ka ka
      have k4 := mul2_ne k2 k2
      apply Int.eq_of_mul_eq_mul_left (mul2_ne k4 k2)
      grind
  · have eb := mv_bt h1
    have ee := mv_et h2
    have ecn := mv_cn h1
    have w1 := mv_W c x y (1, 0) (0, 1)
    have v1 := mv_V c x y (1, 0) (0, 1)
    have x1 := mv_X c x y
    rw [lin_10, lin_01] at w1 v1
    have w2 : (c.mv x y).W (1, 0) (0, 1) + 6 * ((c.mv x y).b * (c.mv x y).e) = (c.mv x y).X := by
      rw [ecn]
      show Wd _ _ _ _ _ _ _ + _ = Co.X _
      unfold Wd Co.d4 Co.d3 Co.d2 Co.d1 Co.d0 q4 q3 q2 q1 q0 Co.X
      simp only
      grind
    have v2 : (c.mv x y).V (1, 0) (0, 1) = ((c.mv x y).W (1, 0) (0, 1) - 6 * ((c.mv x y).b * (c.mv x y).e)) * ((c.mv x y).W (1, 0) (0, 1) + 6 * ((c.mv x y).b * (c.mv x y).e)) := by
      rw [ecn]
      show Vd _ _ _ _ _ _ _ = (Wd _ _ _ _ _ _ _ - _) * (Wd _ _ _ _ _ _ _ + _)
      unfold Wd Vd Co.d4 Co.d3 Co.d2 Co.d1 Co.d0 q4 q3 q2 q1 q0
      simp only
      grind
    rw [w2, w1, v1, x1, eb, ee] at v2
    rw [w1, x1, eb, ee] at w2
    have k2 := mul2_ne hk hk
    have k4 := mul2_ne k2 k2
    refine ⟨show c.X * (wd x y * wd x y) = 1 * (c.W x y + 6 * (s * t)) from ?_, show c.X * (c.W x y - 6 * (s * t)) = 1 * c.V x y from ?_⟩
    · generalize c.X = X at *
      generalize c.W x y = W at *
      generalize wd x y = k at *
      apply Int.eq_of_mul_eq_mul_left k2
      grind
    · generalize c.X = X at *
      generalize c.V x y = V at *
      generalize c.W x y = W at *
      generalize wd x y = k at *
      apply Int.eq_of_mul_eq_mul_left (mul2_ne k4 k2)
      grind
/-- the cubic of a relation; 0 only for bent ones -/
def Co.Y (c : Co) : Int := 4*c.a*c.c*c.f-c.a*c.e*c.e-c.b*c.b*c.f-2*c.b*c.c*c.e+c.b*c.d*c.e-4*c.c*c.c*c.c+4*c.c*c.c*c.d-c.c*c.d*c.d
theorem Co.Y_ne {c : Co} (hb : c.bend ≠ 0) : c.Y ≠ 0 := fun h => hb (by
  have e := bend_Y c.a c.b c.c c.d c.e c.f _ _ _ _ _ _ _ c.Y rfl rfl rfl rfl rfl rfl rfl rfl
  rw [h, Int.mul_zero, Int.zero_mul] at e
  exact e)
theorem Co.X_cubic (c : Co) : c.X * c.X * c.X - 3 * c.I * c.X - c.J = 432 * c.Y * c.Y := X_Y c.a c.b c.c c.d c.e c.f _ _ _ _ _ _ _ c.X c.Y rfl rfl rfl rfl rfl rfl rfl rfl rfl
theorem add_bend (i j x : Int) : (addOf i j x).bend = 12230590464 * ((x * x * x - 3 * i * x - j) * (x * x * x - 3 * i * x - j) * ((x * x * x - 3 * i * x - j) * (x * x * x - 3 * i * x - j)) * ((x * x * x - 3 * i * x - j) * (x * x * x - 3 * i * x - j))) * (4 * i * i * i - j * j) := by
  show bendV (q4 1 (-2 * x) (x * x) (6 * i - 2 * x * x) (6 * i * x + 4 * j) (9 * i * i + 4 * j * x)) (q3 1 (-2 * x) (x * x) (6 * i - 2 * x * x) (6 * i * x + 4 * j) (9 * i * i + 4 * j * x)) (q2 1 (-2 * x) (x * x) (6 * i - 2 * x * x) (6 * i * x + 4 * j) (9 * i * i + 4 * j * x)) (q1 1 (-2 * x) (x * x) (6 * i - 2 * x * x) (6 * i * x + 4 * j) (9 * i * i + 4 * j * x)) (q0 1 (-2 * x) (x * x) (6 * i - 2 * x * x) (6 * i * x + 4 * j) (9 * i * i + 4 * j * x)) = _
  have e4 : q4 1 (-2 * x) (x * x) (6 * i - 2 * x * x) (6 * i * x + 4 * j) (9 * i * i + 4 * j * x) = 0 := by
    unfold q4
    grind
  have e3 : q3 1 (-2 * x) (x * x) (6 * i - 2 * x * x) (6 * i * x + 4 * j) (9 * i * i + 4 * j * x) = 16 * (x * x * x - 3 * i * x - j) := by
    unfold q3
    grind
  have e2 : q2 1 (-2 * x) (x * x) (6 * i - 2 * x * x) (6 * i * x + 4 * j) (9 * i * i + 4 * j * x) = 0 := by
    unfold q2
    grind
  have e1 : q1 1 (-2 * x) (x * x) (6 * i - 2 * x * x) (6 * i * x + 4 * j) (9 * i * i + 4 * j * x) = -48 * i * (x * x * x - 3 * i * x - j) := by
    unfold q1
    grind
  have e0 : q0 1 (-2 * x) (x * x) (6 * i - 2 * x * x) (6 * i * x + 4 * j) (9 * i * i + 4 * j * x) = -16 * j * (x * x * x - 3 * i * x - j) := by
    unfold q0
    grind
  rw [e4, e3, e2, e1, e0]
  generalize x * x * x - 3 * i * x - j = g
  unfold bendV bendI bendJ
  grind
theorem add_hold {c : Co} (hb : c.bend ≠ 0) : Hold c.add (1, 0) (c.X, 1) := by
  refine ⟨?_, ⟨rfl, fun _ => rfl, by decide⟩, ⟨by simp, fun z => absurd z (show (1 : Int) ≠ 0 by decide), show (0 : Int) ≤ 1 by decide⟩, ?_⟩
  · show (addOf c.I c.J c.X).bend ≠ 0
    rw [add_bend, Co.X_cubic]
    have y0 := Co.Y_ne hb
    have yy := mul2_ne (mul2_ne (show (432 : Int) ≠ 0 by decide) y0) y0
    have y2 := mul2_ne yy yy
    have b0 : 4 * c.I * c.I * c.I - c.J * c.J ≠ 0 := hb
    exact mul2_ne (mul2_ne (by decide) (mul2_ne (mul2_ne y2 y2) y2)) b0
  · show atV 1 (-2 * c.X) (c.X * c.X) (6 * c.I - 2 * c.X * c.X) (6 * c.I * c.X + 4 * c.J) (9 * c.I * c.I + 4 * c.J * c.X) 1 0 c.X 1 = 0
    unfold atV
    grind
/-- along a chain, the multiples tell how far a member is from the first one -/
theorem chain_is {c : Co} {x y : Pt} (h : Hold c x y) {f : Nat → Int} (hf : ∀ n, Sg c (c.mem x y n) (c.mem x y (n + 1)) (f n) ∧ Sg c (c.mem x y (n + 1)) (c.mem x y n) (-(f (n + 1)))) :
    ∀ n, Is c (c.add.mem (1, 0) (c.X, 1) n) x (f 0) (c.mem x y n) (f n) ∧ Is c (c.add.mem (1, 0) (c.X, 1) (n + 1)) x (f 0) (c.mem x y (n + 1)) (f (n + 1))
  | 0 => by
    have q : f 0 * f 0 = c.Q x := (hf 0).1.sq h.py.ne
    refine ⟨⟨?_, ?_⟩, ?_⟩
    · show 1 * (wd x x * wd x x) = 0 * _
      have : wd x x = 0 := by
        unfold wd
        grind
      rw [this]
      grind
    · show 1 * (c.W x x - 6 * (f 0 * f 0)) = 0 * c.V x x
      have : c.W x x = 6 * c.Q x := Wd_self _ _ _ _ _ _
      rw [this, q]
      grind
    · exact step_one h (hf 0).1 (hf 0).2
  | n + 1 => by
    obtain ⟨i1, i2⟩ := chain_is h hf n
    refine ⟨i2, ?_⟩
    have q0 : f 0 * f 0 = c.Q x := (hf 0).1.sq h.py.ne
    have q2 : f (n + 2) * f (n + 2) = c.Q (c.mem x y (n + 2)) := (hf (n + 2)).1.sq (h.mem (n + 2)).py.ne
    obtain ⟨u, pu, hu⟩ := Is.ex h.b h.px.ne (h.mem (n + 2)).px.ne q0 q2
    have ah := add_hold h.b
    have am := ah.mem n
    have s1 := hf n
    have s2 := hf (n + 1)
    have op := add_gen h.b h.px.ne (h.mem (n + 1)).px.ne (h.mem (n + 2)).px.ne (h.mem n).px.ne am.py.ne pu.ne am.px.ne q0 s2.1 s1.2 s2.2 s1.1 i2 hu i1
    have e := op.nx am pu
    rw [← mem2] at e
    rw [← e]
    exact hu
end DL

namespace DL
open PySem PySem.Spec PyProof.Rows L2 Evl
/-! ## how great the multiples may be -/
def szQ (x : Pt) : Prop := x.1.natAbs < 10 ^ 20000 ∧ x.2.natAbs < 10 ^ 20000
structure LimP (c : Co) (x y : Pt) (cnt : Nat) : Prop where
  hold : Hold c x y
  six : c.sB 300
  top : ∀ n, n < cnt → szQ (c.mem x y n)
def dgP : Nat → Nat
  | 0 => 0
  | n + 1 => dgP n + (40 + 141 * n)
theorem dgP_lt : ∀ n, n < 13 → dgP n < 20000 := by decide
theorem szQ.of {x : Pt} {n : Nat} (h : ht x ≤ 10 ^ n) (hn : n < 20000) : szQ x := by
  have e : 10 ^ n < 10 ^ 20000 := Nat.pow_lt_pow_right (by decide) hn
  unfold ht at h
  exact ⟨by omega, by omega⟩
theorem high {c : Co} {x y : Pt} (h : Hold c x y) (hK : c.Bd (10 ^ 140)) (hx : ht x ≤ 1) (hM : ht y ≤ 10 ^ 40) : ∀ n, ht (c.mem x y n) ≤ 10 ^ dgP n
  | 0 => by
    rw [mem0]
    exact hx
  | n + 1 => by
    have h1 := h.ratio hK hM n
    have h2 := high h hK hx hM n
    refine Nat.le_trans h1 (Nat.le_trans (Nat.mul_le_mul_right _ h2) ?_)
    have e : dgP (n + 1) = dgP n + (40 + 141 * n) := rfl
    rw [e, Nat.pow_add, Nat.pow_add, Nat.pow_mul]
    exact Nat.mul_le_mul_left _ (Nat.mul_le_mul_left _ (Nat.pow_le_pow_left (by decide +kernel) _))
structure MulP (c : Co) : Prop where
  b : c.bend ≠ 0
  six : c.sB 10
theorem MulP.bds {c : Co} (h : MulP c) : c.I.natAbs < 10 ^ 62 ∧ c.J.natAbs < 10 ^ 95 ∧ c.X.natAbs < 10 ^ 32 := by
  obtain ⟨ca, cb, cc, cd, ce, cf⟩ := c
  obtain ⟨g1, g2, g3, g4, g5, g6⟩ := h.six
  simp only at g1 g2 g3 g4 g5 g6
  have i1 : BdI ca 10 := ⟨g1⟩
  have i2 : BdI cb 10 := ⟨g2⟩
  have i3 : BdI cc 10 := ⟨g3⟩
  have i4 : BdI cd 10 := ⟨g4⟩
  have i5 : BdI ce 10 := ⟨g5⟩
  have i6 : BdI cf 10 := ⟨g6⟩
  have d4 : BdI (q4 ca cb cc cd ce cf) 27 := ⟨by unfold q4; exact bd_to 27⟩
  have d3 : BdI (q3 ca cb cc cd ce cf) 27 := ⟨by unfold q3; exact bd_to 27⟩
  have d2 : BdI (q2 ca cb cc cd ce cf) 27 := ⟨by unfold q2; exact bd_to 27⟩
  have d1 : BdI (q1 ca cb cc cd ce cf) 27 := ⟨by unfold q1; exact bd_to 27⟩
  have d0 : BdI (q0 ca cb cc cd ce cf) 27 := ⟨by unfold q0; exact bd_to 27⟩
  refine ⟨?_, ?_, ?_⟩
  · unfold Co.I bendI
    simp only
    generalize q4 ca cb cc cd ce cf = x4 at *
    generalize q3 ca cb cc cd ce cf = x3 at *
    generalize q2 ca cb cc cd ce cf = x2 at *
    generalize q1 ca cb cc cd ce cf = x1 at *
    generalize q0 ca cb cc cd ce cf = x0 at *
    exact bd_to 62
  · unfold Co.J bendJ
    simp only
    generalize q4 ca cb cc cd ce cf = x4 at *
    generalize q3 ca cb cc cd ce cf = x3 at *
    generalize q2 ca cb cc cd ce cf = x2 at *
    generalize q1 ca cb cc cd ce cf = x1 at *
    generalize q0 ca cb cc cd ce cf = x0 at *
    exact bd_to 95
  · unfold Co.X
    exact bd_to 32
theorem MulP.add {c : Co} (h : MulP c) : c.add.Bd (10 ^ 140) ∧ c.add.sB 300 := by
  obtain ⟨h1, h2, h3⟩ := h.bds
  have e : c.add = addOf c.I c.J c.X := rfl
  rw [e]
  generalize c.I = i at *
  generalize c.J = j at *
  generalize c.X = x at *
  have i1 : BdI i 62 := ⟨h1⟩
  have i2 : BdI j 95 := ⟨h2⟩
  have i3 : BdI x 32 := ⟨h3⟩
  have k : ∀ {z : Int}, z.natAbs < 10 ^ 140 → z.natAbs ≤ 10 ^ 140 ∧ z.natAbs < 10 ^ 300 := fun {z} h => ⟨Nat.le_of_lt h, Nat.lt_of_lt_of_le h (ten_mono (by decide))⟩
  have a1 : (1 : Int).natAbs < 10 ^ 140 := by decide +kernel
  have a2 : (-2 * x).natAbs < 10 ^ 140 := bd_to 140
  have a3 : (x * x).natAbs < 10 ^ 140 := bd_to 140
  have a4 : (6 * i - 2 * x * x).natAbs < 10 ^ 140 := bd_to 140
  have a5 : (6 * i * x + 4 * j).natAbs < 10 ^ 140 := bd_to 140
  have a6 : (9 * i * i + 4 * j * x).natAbs < 10 ^ 140 := bd_to 140
  exact ⟨⟨(k a1).1, (k a2).1, (k a3).1, (k a4).1, (k a5).1, (k a6).1⟩, ⟨(k a1).2, (k a2).2, (k a3).2, (k a4).2, (k a5).2, (k a6).2⟩⟩
theorem MulP.lim {c : Co} (h : MulP c) : LimP c.add (1, 0) (c.X, 1) 13 := by
  obtain ⟨a1, a2⟩ := h.add
  have hh := add_hold h.b
  refine ⟨hh, a2, fun n hn => szQ.of (high hh a1 (by decide) ?_ n) (dgP_lt n hn)⟩
  have := h.bds.2.2
  exact Nat.max_le.mpr ⟨Nat.le_of_lt (Nat.lt_of_lt_of_le this (ten_mono (by decide))), show 1 ≤ 10 ^ 40 by decide +kernel⟩
end DL

namespace DL
open PySem PySem.Spec PyProof.Rows L2 Evl
/-! ## closing -/
theorem Sg.same {c : Co} {x z w : Pt} {t : Int} (hb : c.bend ≠ 0) (px : IsPt x) (pz : IsPt z) (pw : IsPt w) (h : Sg c x z t) (k : Sg c x w t) : z = w := by
  refine pt_eq pz pw ?_
  have n := form_ne hb px
  obtain ⟨h1, h2⟩ := h
  obtain ⟨k1, k2⟩ := k
  generalize c.A x = A at *
  generalize c.B x = B at *
  generalize c.C x = C at *
  have f1 : A * (z.1 * w.2 - w.1 * z.2) = 0 := by
    have : 2 * (A * (z.1 * w.2 - w.1 * z.2)) = w.2 * (2 * A * z.1 + B * z.2) - z.2 * (2 * A * w.1 + B * w.2) := by grind
    rw [h1, k1] at this
    have : 2 * (A * (z.1 * w.2 - w.1 * z.2)) = 0 := by
      rw [this]
      grind
    omega
  have f2 : C * (z.1 * w.2 - w.1 * z.2) = 0 := by
    have : 2 * (C * (z.1 * w.2 - w.1 * z.2)) = z.1 * (B * w.1 + 2 * C * w.2) - w.1 * (B * z.1 + 2 * C * z.2) := by grind
    rw [h2, k2] at this
    have : 2 * (C * (z.1 * w.2 - w.1 * z.2)) = 0 := by
      rw [this]
      grind
    omega
  have f3 : (B - t) * (z.1 * w.2 - w.1 * z.2) = 0 := by
    have e1 : (B - t) * z.2 = -(2 * A * z.1) := by
      have : B * z.2 = z.2 * t - 2 * A * z.1 := by omega
      have : (B - t) * z.2 = B * z.2 - z.2 * t := by grind
      omega
    have e2 : (B - t) * w.2 = -(2 * A * w.1) := by
      have : B * w.2 = w.2 * t - 2 * A * w.1 := by omega
      have : (B - t) * w.2 = B * w.2 - w.2 * t := by grind
      omega
    have : (B - t) * (z.1 * w.2 - w.1 * z.2) = z.1 * ((B - t) * w.2) - w.1 * ((B - t) * z.2) := by grind
    rw [this, e1, e2]
    grind
  have f4 : (B + t) * (z.1 * w.2 - w.1 * z.2) = 0 := by
    have e1 : (B + t) * z.1 = -(2 * C * z.2) := by
      have : (B + t) * z.1 = B * z.1 + z.1 * t := by grind
      omega
    have e2 : (B + t) * w.1 = -(2 * C * w.2) := by
      have : (B + t) * w.1 = B * w.1 + w.1 * t := by grind
      omega
    have : (B + t) * (z.1 * w.2 - w.1 * z.2) = ((B + t) * z.1) * w.2 - ((B + t) * w.1) * z.2 := by grind
    rw [this, e1, e2]
    grind
  refine Classical.byContradiction fun hn => n ?_
  have d : z.1 * w.2 - w.1 * z.2 ≠ 0 := by omega
  have a1 := (Int.mul_eq_zero.mp f1).resolve_right d
  have a2 := (Int.mul_eq_zero.mp f2).resolve_right d
  have a3 := (Int.mul_eq_zero.mp f3).resolve_right d
  have a4 := (Int.mul_eq_zero.mp f4).resolve_right d
  exact ⟨a1, by omega, a2⟩
end DL

namespace DL
open PySem PySem.Spec PyProof.Rows L2 Evl
/-! ## the relation that a multiple tells; families whose chains close -/
def Co.st (c : Co) (x : Pt) : Co :=
  ⟨6 * (4 * x.1 * x.2 * c.d4 - x.2 * x.2 * (3 * c.d3 * c.d3 - 8 * c.d4 * c.d2)), 3 * (4 * x.1 * x.2 * c.d3 - x.2 * x.2 * (4 * (c.d3 * c.d2 - 6 * c.d4 * c.d1))),
   4 * x.1 * x.2 * c.d2 - x.2 * x.2 * (2 * (2 * c.d2 * c.d2 - 24 * c.d4 * c.d0 - 3 * c.d3 * c.d1)) - 2 * (x.1 * x.1 - c.I * (x.2 * x.2)),
   4 * (4 * x.1 * x.2 * c.d2 - x.2 * x.2 * (2 * (2 * c.d2 * c.d2 - 24 * c.d4 * c.d0 - 3 * c.d3 * c.d1))) + 2 * (2 * (x.1 * x.1 - c.I * (x.2 * x.2))),
   3 * (4 * x.1 * x.2 * c.d1 - x.2 * x.2 * (4 * (c.d2 * c.d1 - 6 * c.d3 * c.d0))), 6 * (4 * x.1 * x.2 * c.d0 - x.2 * x.2 * (3 * c.d1 * c.d1 - 8 * c.d2 * c.d0))⟩
/-- the other partner, by sum and product -/
theorem nx_is {c : Co} {x y z : Pt} {k : Int} (hx : IsPt x) (hz : IsPt z) (hk : k ≠ 0) (hA : c.A y = k * (x.2 * z.2)) (hB : c.B y = -(k * (x.2 * z.1 + x.1 * z.2))) (hC : c.C y = k * (x.1 * z.1)) : c.nx x y = z := by
  have o : Oth (c.A y) (c.B y) (c.C y) x.1 x.2 (k * z.2) (k * z.1) := by
    refine ⟨?_, ?_, ?_⟩
    · rw [hA]; grind
    · rw [hC]; grind
    · rw [hB]; grind
  have n0 : ¬ (c.A y = 0 ∧ c.B y = 0 ∧ c.C y = 0) := by
    rintro ⟨h1, h2, h3⟩
    rw [hA] at h1
    rw [hB] at h2
    rw [hC] at h3
    have g1 : x.2 * z.2 = 0 := (Int.mul_eq_zero.mp h1).resolve_left hk
    have g3 : x.1 * z.1 = 0 := (Int.mul_eq_zero.mp h3).resolve_left hk
    have g2 : x.2 * z.1 + x.1 * z.2 = 0 := (Int.mul_eq_zero.mp (show k * (x.2 * z.1 + x.1 * z.2) = 0 by omega)).resolve_left hk
    have nx := hx.ne
    have nz := hz.ne
    rcases Int.mul_eq_zero.mp g1 with z1 | z1 <;> rcases Int.mul_eq_zero.mp g3 with z3 | z3
    · exact nx ⟨z3, z1⟩
    · rw [z1, z3] at g2
      have : x.1 * z.2 = 0 := by omega
      rcases Int.mul_eq_zero.mp this with w | w
      · exact nx ⟨w, z1⟩
      · exact nz ⟨z3, w⟩
    · rw [z1, z3] at g2
      have : x.2 * z.1 = 0 := by omega
      rcases Int.mul_eq_zero.mp this with w | w
      · exact nx ⟨z3, w⟩
      · exact nz ⟨w, z1⟩
    · exact nz ⟨z3, z1⟩
  rw [nx_eq hx o n0, lowP_mul hk (fun w => hz.ne ⟨w.1, w.2⟩), lowP_self hz]
theorem pt_int (v : Int) : IsPt (v, 1) := (by
  have h := lowP_pt v 1
  have e : lowP v 1 = (v, 1) := lowP_eq (z := (v, 1)) ⟨by simp, by simp, by simp⟩ (by simp) (by simp)
  rw [e] at h
  exact h)
theorem pt_inf : IsPt (1, 0) := ⟨by decide, by decide, by decide⟩
/-- two steps, where the X is an integer -/
theorem mem_two {c : Co} (hb : c.bend ≠ 0) {v : Int} (h : c.X * c.X * (c.X * c.X) + 6 * c.I * (c.X * c.X) + 8 * c.J * c.X + 9 * c.I * c.I = 1728 * (c.Y * c.Y) * v) : c.add.mem (1, 0) (c.X, 1) 2 = (v, 1) := by
  have hY := c.Y_ne hb
  have cu := c.X_cubic
  rw [mem2, mem0, mem1]
  refine nx_is (k := 1728 * (c.Y * c.Y)) pt_inf (pt_int v) (fun z => ?_) ?_ ?_ ?_
  · have : c.Y * c.Y = 0 := by omega
    rcases Int.mul_eq_zero.mp this with w | w <;> exact hY w
  · show fV 1 (-2 * c.X) (c.X * c.X) c.X 1 = _
    unfold fV
    simp only
    grind
  · show fV (-2 * c.X) (6 * c.I - 2 * c.X * c.X) (6 * c.I * c.X + 4 * c.J) c.X 1 = _
    unfold fV
    simp only
    grind
  · show fV (c.X * c.X) (6 * c.I * c.X + 4 * c.J) (9 * c.I * c.I + 4 * c.J * c.X) c.X 1 = _
    unfold fV
    simp only
    grind
/-- further on, where they are integers -/
theorem nx_int {c : Co} {p u q : Int} (h0 : u ≠ c.X) (h1 : -2 * c.X * (u * u) + (6 * c.I - 2 * c.X * c.X) * u + (6 * c.I * c.X + 4 * c.J) = -((u - c.X) * (u - c.X) * (p + q)))
    (h2 : c.X * c.X * (u * u) + (6 * c.I * c.X + 4 * c.J) * u + (9 * c.I * c.I + 4 * c.J * c.X) = (u - c.X) * (u - c.X) * (p * q)) : c.add.nx (p, 1) (u, 1) = (q, 1) := by
  refine nx_is (k := (u - c.X) * (u - c.X)) (pt_int p) (pt_int q) (fun z => ?_) ?_ ?_ ?_
  · rcases Int.mul_eq_zero.mp z with w | w <;> omega
  · show fV 1 (-2 * c.X) (c.X * c.X) u 1 = _
    unfold fV
    simp only
    grind
  · show fV (-2 * c.X) (6 * c.I - 2 * c.X * c.X) (6 * c.I * c.X + 4 * c.J) u 1 = _
    unfold fV
    simp only
    grind
  · show fV (c.X * c.X) (6 * c.I * c.X + 4 * c.J) (9 * c.I * c.I + 4 * c.J * c.X) u 1 = _
    unfold fV
    simp only
    grind
/-- the first multiples of a family, up to the one that is nothing -/
def MulsAre (c : Co) (l : List Pt) : Prop := ∀ n, n < l.length → l[n]? = some (c.add.mem (1, 0) (c.X, 1) n)
theorem back1 {c : Co} (hb : c.bend ≠ 0) : c.add.nx (c.add.nx (1, 0) (c.X, 1)) (c.X, 1) = (1, 0) := (add_hold hb).back
theorem fam3 {c : Co} (hb : c.bend ≠ 0) (e2 : c.add.mem (1, 0) (c.X, 1) 2 = (c.X, 1)) : MulsAre c [(1, 0), (c.X, 1), (c.X, 1), (1, 0)] := by
  have e3 := back1 hb
  have m2 := e2
  rw [mem2, mem0, mem1] at e2
  rw [e2] at e3
  have m3 : c.add.mem (1, 0) (c.X, 1) 3 = (1, 0) := by rw [mem2, m2, mem1, e3]
  intro n hn
  match n, hn with
  | 0, _ => rfl
  | 1, _ => rfl
  | 2, _ => rw [m2]; rfl
  | 3, _ => rw [m3]; rfl
theorem fam4 {c : Co} {v : Int} (hb : c.bend ≠ 0) (h2 : c.add.mem (1, 0) (c.X, 1) 2 = (v, 1)) (h3 : c.add.nx (c.X, 1) (v, 1) = (c.X, 1)) : MulsAre c [(1, 0), (c.X, 1), (v, 1), (c.X, 1), (1, 0)] := by
  have m3 : c.add.mem (1, 0) (c.X, 1) 3 = (c.X, 1) := by rw [mem2, h2, mem1, h3]
  have b := back1 hb
  have m4 : c.add.mem (1, 0) (c.X, 1) 4 = (1, 0) := by
    rw [mem2, m3, h2]
    rw [mem2, mem0, mem1] at h2
    rw [h2] at b
    exact b
  intro n hn
  match n, hn with
  | 0, _ => rfl
  | 1, _ => rfl
  | 2, _ => rw [h2]; rfl
  | 3, _ => rw [m3]; rfl
  | 4, _ => rw [m4]; rfl
theorem fam5 {c : Co} {v : Int} (hb : c.bend ≠ 0) (h2 : c.add.mem (1, 0) (c.X, 1) 2 = (v, 1)) (h3 : c.add.nx (c.X, 1) (v, 1) = (v, 1)) : MulsAre c [(1, 0), (c.X, 1), (v, 1), (v, 1), (c.X, 1), (1, 0)] := by
  have m3 : c.add.mem (1, 0) (c.X, 1) 3 = (v, 1) := by rw [mem2, h2, mem1, h3]
  have b := back1 hb
  have hd := (add_hold hb).mem 1
  have m4 : c.add.mem (1, 0) (c.X, 1) 4 = (c.X, 1) := by
    rw [mem2, m3, h2]
    have := hd.back
    rw [h2, mem1, h3] at this
    exact this
  have m5 : c.add.mem (1, 0) (c.X, 1) 5 = (1, 0) := by
    rw [mem2, m4, m3]
    rw [mem2, mem0, mem1] at h2
    rw [h2] at b
    exact b
  intro n hn
  match n, hn with
  | 0, _ => rfl
  | 1, _ => rfl
  | 2, _ => rw [h2]; rfl
  | 3, _ => rw [m3]; rfl
  | 4, _ => rw [m4]; rfl
  | 5, _ => rw [m5]; rfl
theorem fam6 {c : Co} {v w : Int} (hb : c.bend ≠ 0) (h2 : c.add.mem (1, 0) (c.X, 1) 2 = (v, 1)) (h3 : c.add.nx (c.X, 1) (v, 1) = (w, 1)) (h4 : c.add.nx (v, 1) (w, 1) = (v, 1)) : MulsAre c [(1, 0), (c.X, 1), (v, 1), (w, 1), (v, 1), (c.X, 1), (1, 0)] := by
  have m3 : c.add.mem (1, 0) (c.X, 1) 3 = (w, 1) := by rw [mem2, h2, mem1, h3]
  have m4 : c.add.mem (1, 0) (c.X, 1) 4 = (v, 1) := by rw [mem2, m3, h2, h4]
  have b := back1 hb
  have hd := (add_hold hb).mem 1
  have m5 : c.add.mem (1, 0) (c.X, 1) 5 = (c.X, 1) := by
    rw [mem2, m4, m3]
    have := hd.back
    rw [h2, mem1, h3] at this
    exact this
  have m6 : c.add.mem (1, 0) (c.X, 1) 6 = (1, 0) := by
    rw [mem2, m5, m4]
    rw [mem2, mem0, mem1] at h2
    rw [h2] at b
    exact b
  intro n hn
  match n, hn with
  | 0, _ => rfl
  | 1, _ => rfl
  | 2, _ => rw [h2]; rfl
  | 3, _ => rw [m3]; rfl
  | 4, _ => rw [m4]; rfl
  | 5, _ => rw [m5]; rfl
  | 6, _ => rw [m6]; rfl
/-- the drawn families -/
inductive Fam : Co → Int → Prop
  | f3 (a d : Int) : Fam ⟨0, a, 0, d, 0, a⟩ 3
  | f4 (a f d : Int) : Fam ⟨a, f, a, d, f, a⟩ 4
  | g4 (a d f : Int) : Fam ⟨a, 0, d, 0, 0, f⟩ 4
  | f5 (a d : Int) : Fam ⟨0, a, a, d, 2 * a, a⟩ 5
  | f6 (a d : Int) : Fam ⟨0, a, a, d, a, 0⟩ 6
def FamIs (c : Co) (n : Int) : Prop := (n = 3 ∧ MulsAre c [(1, 0), (c.X, 1), (c.X, 1), (1, 0)]) ∨ (n = 4 ∧ ∃ v : Int, MulsAre c [(1, 0), (c.X, 1), (v, 1), (c.X, 1), (1, 0)]) ∨
  (n = 5 ∧ ∃ v : Int, MulsAre c [(1, 0), (c.X, 1), (v, 1), (v, 1), (c.X, 1), (1, 0)]) ∨ (n = 6 ∧ ∃ v w : Int, MulsAre c [(1, 0), (c.X, 1), (v, 1), (w, 1), (v, 1), (c.X, 1), (1, 0)])
theorem Fam.is {c : Co} {n : Int} (h : Fam c n) (hb : c.bend ≠ 0) : FamIs c n := by
  have hY := c.Y_ne hb
  cases h with
  | f3 a d =>
    refine .inl ⟨rfl, fam3 hb (mem_two hb ?_)⟩
    simp only [Co.X, Co.Y, Co.I, Co.J, bendI, bendJ, q4, DL.q3, q2, q1, q0]
    grind
  | f4 a f d =>
    refine .inr (.inl ⟨rfl, 16 * a * a + d * d - 8 * f * f, fam4 hb (mem_two hb ?_) (nx_int (fun z => hY ?_) ?_ ?_)⟩)
    · simp only [Co.X, Co.Y, Co.I, Co.J, bendI, bendJ, q4, DL.q3, q2, q1, q0]
      grind
    · simp only [Co.X] at z
      have : a * d - f * f = 0 := by grind
      simp only [Co.Y]
      grind
    · simp only [Co.X, Co.I, Co.J, bendI, bendJ, q4, DL.q3, q2, q1, q0]
      grind
    · simp only [Co.X, Co.I, Co.J, bendI, bendJ, q4, DL.q3, q2, q1, q0]
      grind
  | g4 a d f =>
    refine .inr (.inl ⟨rfl, 8 * (a * f + d * d), fam4 hb (mem_two hb ?_) (nx_int (fun z => hY ?_) ?_ ?_)⟩)
    · simp only [Co.X, Co.Y, Co.I, Co.J, bendI, bendJ, q4, DL.q3, q2, q1, q0]
      grind
    · simp only [Co.X] at z
      have : a * f - d * d = 0 := by grind
      simp only [Co.Y]
      grind
    · simp only [Co.X, Co.I, Co.J, bendI, bendJ, q4, DL.q3, q2, q1, q0]
      grind
    · simp only [Co.X, Co.I, Co.J, bendI, bendJ, q4, DL.q3, q2, q1, q0]
      grind
  | f5 a d =>
    refine .inr (.inr (.inl ⟨rfl, d * d - 8 * a * a, fam5 hb (mem_two hb ?_) (nx_int (fun z => hY ?_) ?_ ?_)⟩))
    · simp only [Co.X, Co.Y, Co.I, Co.J, bendI, bendJ, q4, DL.q3, q2, q1, q0]
      grind
    · simp only [Co.X] at z
      have : a * (3 * a - d) = 0 := by grind
      simp only [Co.Y]
      grind
    · simp only [Co.X, Co.I, Co.J, bendI, bendJ, q4, DL.q3, q2, q1, q0]
      grind
    · simp only [Co.X, Co.I, Co.J, bendI, bendJ, q4, DL.q3, q2, q1, q0]
      grind
  | f6 a d =>
    refine .inr (.inr (.inr ⟨rfl, d * d, d * d - 12 * a * a, fam6 hb (mem_two hb ?_) (nx_int (fun z => hY ?_) ?_ ?_) (nx_int (fun z => hY ?_) ?_ ?_)⟩))
    · simp only [Co.X, Co.Y, Co.I, Co.J, bendI, bendJ, q4, DL.q3, q2, q1, q0]
      grind
    · simp only [Co.X] at z
      have : a * (2 * a - d) = 0 := by grind
      simp only [Co.Y]
      grind
    · simp only [Co.X, Co.I, Co.J, bendI, bendJ, q4, DL.q3, q2, q1, q0]
      grind
    · simp only [Co.X, Co.I, Co.J, bendI, bendJ, q4, DL.q3, q2, q1, q0]
      grind
    · simp only [Co.X] at z
      have : a * (3 * a - d) = 0 := by grind
      simp only [Co.Y]
      grind
    · simp only [Co.X, Co.I, Co.J, bendI, bendJ, q4, DL.q3, q2, q1, q0]
      grind
    · simp only [Co.X, Co.I, Co.J, bendI, bendJ, q4, DL.q3, q2, q1, q0]
      grind
theorem Fam.plain {c : Co} {n : Int} (h : Fam c n) (hz : nz c.list ≠ []) : Fam c.plain n := by
  have e := fun x (hx : x ∈ c.list) => plain_at hz hx
  have hg := plainD_ne hz
  have z0 : (0 : Int).fdiv (plainD c.list) = 0 := Int.zero_fdiv _
  have h2 : ∀ x, x ∈ c.list → (2 * x) ∈ c.list → (2 * x).fdiv (plainD c.list) = 2 * x.fdiv (plainD c.list) := fun x h1 h2 => by
    have e1 := e _ h1
    have e2 := e _ h2
    refine Int.eq_of_mul_eq_mul_right hg ?_
    rw [e2, Int.mul_assoc, e1]
  unfold Co.plain
  generalize plainD c.list = g at *
  cases h with
  | f3 a d => simp only [z0]; exact .f3 _ _
  | f4 a f d => exact .f4 _ _ _
  | g4 a d f => simp only [z0]; exact .g4 _ _ _
  | f5 a d =>
    simp only [z0]
    rw [h2 a (by simp [Co.list]) (by simp [Co.list])]
    exact .f5 _ _
  | f6 a d => simp only [z0]; exact .f6 _ _
end DL

namespace DL
open PySem PySem.Spec PyProof.Rows L2 Evl
/-! ## multiples come again; which of them tell the same numbers -/
theorem mem_shift (c : Co) (x y : Pt) (l : Nat) : ∀ n, c.mem (c.mem x y l) (c.mem x y (l + 1)) n = c.mem x y (l + n)
  | 0 => rfl
  | 1 => rfl
  | n + 2 => by
    rw [mem2, mem_shift c x y l n, mem_shift c x y l (n + 1), show l + (n + 2) = l + n + 2 by omega, mem2]
    rfl
abbrev Co.M (c : Co) (n : Nat) : Pt := c.add.mem (1, 0) (c.X, 1) n
/-! ### numbers tell the multiple -/
theorem bend_min (d4 d3 d2 d1 d0 : Int) (h1 : d1 * (3*d1*d1-8*d2*d0) = d0 * (4*(d2*d1-6*d3*d0))) (h2 : d2 * (3*d1*d1-8*d2*d0) = d0 * (2*(2*d2*d2-24*d4*d0-3*d3*d1))) (h3 : d2 * (4*(d2*d1-6*d3*d0)) = d1 * (2*(2*d2*d2-24*d4*d0-3*d3*d1))) : bendV d4 d3 d2 d1 d0 = 0 := by
  have e : 16 * bendV d4 d3 d2 d1 d0 = -18 * (216*d1*(d4*d4) - 128*d2*d3*d4 + 27*(d3*d3*d3)) * (d1 * (3*d1*d1-8*d2*d0) - d0 * (4*(d2*d1-6*d3*d0))) + 72 * (32*d0*(d4*d4) - d1*d3*d4 - 8*(d2*d2)*d4 + 2*d2*(d3*d3)) * (d2 * (3*d1*d1-8*d2*d0) - d0 * (2*(2*d2*d2-24*d4*d0-3*d3*d1))) + 45 * d1 * (4*d2*d4 - d3*d3) * (d2 * (4*(d2*d1-6*d3*d0)) - d1 * (2*(2*d2*d2-24*d4*d0-3*d3*d1))) := by
    unfold bendV bendI bendJ
    grind
  rw [h1, h2, h3] at e
  simp only [Int.sub_self, Int.mul_zero, Int.add_zero] at e
  omega
theorem two_zero {A B d0 d1 d2 h0 h1 h2 : Int} (e0 : A * d0 = B * h0) (e1 : A * d1 = B * h1) (e2 : A * d2 = B * h2) (n : ¬ (d1 * h0 = d0 * h1 ∧ d2 * h0 = d0 * h2 ∧ d2 * h1 = d1 * h2)) : A = 0 ∧ B = 0 := by
  have key : ∀ {x y u v : Int}, A * x = B * u → A * y = B * v → y * u ≠ x * v → A = 0 ∧ B = 0 := fun {x y u v} p q r => by
    have a : A * (y * u - x * v) = 0 := by
      have : A * (y * u - x * v) = (A * y) * u - (A * x) * v := by grind
      rw [this, p, q]
      grind
    have b : B * (y * u - x * v) = 0 := by
      have : B * (y * u - x * v) = (B * u) * y - (B * v) * x := by grind
      rw [this, ← p, ← q]
      grind
    exact ⟨(Int.mul_eq_zero.mp a).resolve_right (by omega), (Int.mul_eq_zero.mp b).resolve_right (by omega)⟩
  refine Classical.byContradiction fun z => n ⟨?_, ?_, ?_⟩
  · exact Classical.byContradiction fun w => z (key e0 e1 w)
  · exact Classical.byContradiction fun w => z (key e0 e2 w)
  · exact Classical.byContradiction fun w => z (key e1 e2 w)
theorem st_ne {c : Co} (hb : c.bend ≠ 0) {x : Pt} (px : IsPt x) : nz (c.st x).list ≠ [] := fun h => by
  have al : ∀ v ∈ (c.st x).list, v = 0 := fun v hv => Classical.byContradiction fun n => by
    have : v ∈ nz (c.st x).list := List.mem_filter.mpr ⟨hv, by simp [n]⟩
    rw [h] at this
    cases this
  have z0 := al (c.st x).a (by simp [Co.list])
  have z1 := al (c.st x).b (by simp [Co.list])
  have z2 := al (c.st x).c (by simp [Co.list])
  have z3 := al (c.st x).d (by simp [Co.list])
  have z4 := al (c.st x).e (by simp [Co.list])
  have z5 := al (c.st x).f (by simp [Co.list])
  simp only [Co.st] at z0 z1 z2 z3 z4 z5
  have n0 : ¬ (c.d1 * (3*c.d1*c.d1-8*c.d2*c.d0) = c.d0 * (4*(c.d2*c.d1-6*c.d3*c.d0)) ∧ c.d2 * (3*c.d1*c.d1-8*c.d2*c.d0) = c.d0 * (2*(2*c.d2*c.d2-24*c.d4*c.d0-3*c.d3*c.d1)) ∧ c.d2 * (4*(c.d2*c.d1-6*c.d3*c.d0)) = c.d1 * (2*(2*c.d2*c.d2-24*c.d4*c.d0-3*c.d3*c.d1))) := fun w => hb (bend_min _ _ _ _ _ w.1 w.2.1 w.2.2)
  obtain ⟨t, b⟩ := x
  simp only at z0 z1 z2 z3 z4 z5
  generalize c.d4 = d4 at *
  generalize c.d3 = d3 at *
  generalize c.d2 = d2 at *
  generalize c.d1 = d1 at *
  generalize c.d0 = d0 at *
  generalize c.I = i at *
  generalize 3*d1*d1-8*d2*d0 = h0 at *
  generalize 4*(d2*d1-6*d3*d0) = h1 at *
  generalize 2*(2*d2*d2-24*d4*d0-3*d3*d1) = h2 at *
  have q := two_zero (A := 4 * t * b) (B := b * b) (d0 := d0) (d1 := d1) (d2 := d2) (h0 := h0) (h1 := h1) (h2 := h2) (by omega) (by omega) (by omega) n0
  have hb0 : b = 0 := by rcases Int.mul_eq_zero.mp q.2 with w | w <;> exact w
  subst hb0
  have : t * t = 0 := by
    simp only [Int.mul_zero, Int.zero_mul, Int.zero_sub, Int.sub_zero] at z2
    omega
  have : t = 0 := by rcases Int.mul_eq_zero.mp this with w | w <;> exact w
  exact px.ne ⟨this, rfl⟩
end DL

namespace DL
open PySem PySem.Spec PyProof.Rows L2 Evl
/-! ## members so many steps apart have the relation that the multiple tells -/
theorem st_at (c : Co) (u x y : Pt) : (c.st u).at_ x y = -2 * (u.1 * (u.1 * (wd x y * wd x y)) - 2 * (u.1 * u.2 * c.W x y) + u.2 * (u.2 * c.V x y)) := by
  show atV (c.st u).a (c.st u).b (c.st u).c (c.st u).d (c.st u).e (c.st u).f x.1 x.2 y.1 y.2 = _
  simp only [Co.st]
  rw [show c.I = 12 * c.d4 * c.d0 - 3 * c.d3 * c.d1 + c.d2 * c.d2 from rfl]
  unfold Co.W Co.V
  generalize c.d4 = d4
  generalize c.d3 = d3
  generalize c.d2 = d2
  generalize c.d1 = d1
  generalize c.d0 = d0
  unfold atV Wd Vd wd
  grind
theorem Is.st_at0 {c : Co} {u x y : Pt} {s t : Int} (h : Is c u x s y t) : (c.st u).at_ x y = 0 := by
  rw [st_at]
  obtain ⟨h1, h2⟩ := h
  have e1 : u.1 * (u.1 * (wd x y * wd x y)) = u.1 * (u.2 * (c.W x y + 6 * (s * t))) := by rw [h1]
  have e2 : u.2 * (u.2 * c.V x y) = u.2 * (u.1 * (c.W x y - 6 * (s * t))) := by rw [h2]
  rw [e1, e2]
  grind
theorem st_hold {c : Co} {x y : Pt} (h : Hold c x y) (i n : Nat) : (c.st (c.M n)).at_ (c.mem x y i) (c.mem x y (i + n)) = 0 := by
  have hi := h.mem i
  obtain ⟨f, hf⟩ := hi.signs
  have his := (chain_is hi hf n).1
  rw [mem_shift] at his
  exact his.st_at0
end DL

namespace DL
open PySem PySem.Spec PyProof.Rows L2 Evl
/-! ## points in other names -/
/-- a point in other names -/
def benP (n0 n1 n2 n3 : Int) (x : Pt) : Pt := lowP (n0 * x.1 + n1 * x.2) (n2 * x.1 + n3 * x.2)
/-- the six numbers that renamed points have -/
def renT (c : Co) (n0 n1 n2 n3 : Int) : Co := c.mv (n3, 0 - n2) (0 - n1, n0)
theorem mv_at (c : Co) (y z u v : Pt) : (c.mv y z).at_ u v = c.at_ (lin u y z) (lin v y z) := by
  show atV (m1 c.a c.b c.c c.d c.e c.f y z) (m2 c.a c.b c.c c.d c.e c.f y z) (m3 c.a c.b c.c c.d c.e c.f y z) (m4 c.a c.b c.c c.d c.e c.f y z) (m5 c.a c.b c.c c.d c.e c.f y z) (m6 c.a c.b c.c c.d c.e c.f y z) u.1 u.2 v.1 v.2 = atV c.a c.b c.c c.d c.e c.f (u.1*y.1+u.2*z.1) (u.1*y.2+u.2*z.2) (v.1*y.1+v.2*z.1) (v.1*y.2+v.2*z.2)
  unfold atV m1 m2 m3 m4 m5 m6
  grind
/-- a renamed point, named back, is the point -/
theorem ben_lin {n0 n1 n2 n3 : Int} (hn : n0 * n3 ≠ n1 * n2) {x : Pt} (hx : Nz x) : ∃ k l : Int, k ≠ 0 ∧ l ≠ 0 ∧ k * (lin (benP n0 n1 n2 n3 x) (n3, 0 - n2) (0 - n1, n0)).1 = l * x.1 ∧ k * (lin (benP n0 n1 n2 n3 x) (n3, 0 - n2) (0 - n1, n0)).2 = l * x.2 := by
  have hD : n0 * n3 - n1 * n2 ≠ 0 := by omega
  have nz : Nz (n0 * x.1 + n1 * x.2, n2 * x.1 + n3 * x.2) := fun ⟨h1, h2⟩ => by
    simp only at h1 h2
    have e1 : (n0 * n3 - n1 * n2) * x.1 = 0 := by
      have : (n0 * n3 - n1 * n2) * x.1 = n3 * (n0 * x.1 + n1 * x.2) - n1 * (n2 * x.1 + n3 * x.2) := by grind
      rw [this, h1, h2]
      omega
    have e2 : (n0 * n3 - n1 * n2) * x.2 = 0 := by
      have : (n0 * n3 - n1 * n2) * x.2 = n0 * (n2 * x.1 + n3 * x.2) - n2 * (n0 * x.1 + n1 * x.2) := by grind
      rw [this, h1, h2]
      omega
    exact hx ⟨(Int.mul_eq_zero.mp e1).resolve_left hD, (Int.mul_eq_zero.mp e2).resolve_left hD⟩
  have pl := lowP_pt (n0 * x.1 + n1 * x.2) (n2 * x.1 + n3 * x.2)
  have cr := lowP_cross (n0 * x.1 + n1 * x.2) (n2 * x.1 + n3 * x.2)
  unfold benP
  generalize lowP (n0 * x.1 + n1 * x.2) (n2 * x.1 + n3 * x.2) = w at *
  obtain ⟨k, l, hk, hl, e1, e2⟩ := par_of (x := w) (y := (n0 * x.1 + n1 * x.2, n2 * x.1 + n3 * x.2)) pl.ne nz cr
  simp only at e1 e2
  refine ⟨k, l * (n0 * n3 - n1 * n2), hk, mul2_ne hl hD, ?_, ?_⟩
  · show k * (w.1 * n3 + w.2 * (0 - n1)) = _
    have : k * (w.1 * n3 + w.2 * (0 - n1)) = (k * w.1) * n3 - (k * w.2) * n1 := by grind
    rw [this, e1, e2]
    grind
  · show k * (w.1 * (0 - n2) + w.2 * n0) = _
    have : k * (w.1 * (0 - n2) + w.2 * n0) = (k * w.2) * n0 - (k * w.1) * n2 := by grind
    rw [this, e1, e2]
    grind
theorem at_scale (c : Co) (k l : Int) (x y : Pt) : c.at_ (k * x.1, k * x.2) (l * y.1, l * y.2) = k * k * (l * l) * c.at_ x y := by
  show atV c.a c.b c.c c.d c.e c.f (k * x.1) (k * x.2) (l * y.1) (l * y.2) = k * k * (l * l) * atV c.a c.b c.c c.d c.e c.f x.1 x.2 y.1 y.2
  unfold atV
  grind
theorem sc_at (c : Co) {k l : Int} {x u y : Pt} (e1 : k * x.1 = l * u.1) (e2 : k * x.2 = l * u.2) : k * k * c.at_ x y = l * l * c.at_ u y := by
  have h1 := at_scale c k 1 x y
  have h2 := at_scale c l 1 u y
  rw [e1, e2] at h1
  rw [h1] at h2
  simp only [Int.mul_one] at h2
  exact h2
/-- the other partner, by sum and product, but for a factor -/
theorem nx_is2 {c : Co} {x y z : Pt} {m k : Int} (h : Hold c x y) (hz : IsPt z) (hm : m ≠ 0) (hA : m * c.A y = k * (x.2 * z.2)) (hB : m * c.B y = -(k * (x.2 * z.1 + x.1 * z.2))) (hC : m * c.C y = k * (x.1 * z.1)) : c.nx x y = z := by
  obtain ⟨a, g, o, e, _, hn⟩ := h.oth
  rw [e]
  have f0 := h.px.ne
  rw [o.hA] at hA
  rw [o.hB] at hB
  rw [o.hC] at hC
  have e1 : m * a = k * z.2 := by
    by_cases z2 : x.2 = 0
    · have x1 : x.1 ≠ 0 := fun w => f0 ⟨w, z2⟩
      rw [z2] at hB
      have : x.1 * (m * a) = x.1 * (k * z.2) := by grind
      exact Int.eq_of_mul_eq_mul_left x1 this
    · have : x.2 * (m * a) = x.2 * (k * z.2) := by grind
      exact Int.eq_of_mul_eq_mul_left z2 this
  have e2 : m * g = k * z.1 := by
    by_cases z1 : x.1 = 0
    · have x2 : x.2 ≠ 0 := fun w => f0 ⟨z1, w⟩
      rw [z1] at hB
      have : x.2 * (m * g) = x.2 * (k * z.1) := by grind
      exact Int.eq_of_mul_eq_mul_left x2 this
    · have : x.1 * (m * g) = x.1 * (k * z.1) := by grind
      exact Int.eq_of_mul_eq_mul_left z1 this
  refine lowP_eq hz hn ?_
  have : m * (z.1 * a) = m * (z.2 * g) := by
    have : m * (z.1 * a) = z.1 * (m * a) := by grind
    rw [this, e1]
    have : m * (z.2 * g) = z.2 * (m * g) := by grind
    rw [this, e2]
    grind
  exact Int.eq_of_mul_eq_mul_left hm this
/-- d is the relation c of renamed points, but for a factor -/
structure Ren (c d : Co) (n0 n1 n2 n3 : Int) : Prop where
  b : d.bend ≠ 0
  n : n0 * n3 ≠ n1 * n2
  e : ∃ m : Int, m ≠ 0 ∧ ∀ u v, (renT c n0 n1 n2 n3).at_ u v = m * d.at_ u v
theorem ben_pt (n0 n1 n2 n3 : Int) (x : Pt) : IsPt (benP n0 n1 n2 n3 x) := lowP_pt _ _
theorem Ren.hold {c d : Co} {n0 n1 n2 n3 : Int} (r : Ren c d n0 n1 n2 n3) {x y : Pt} (h : Hold c x y) : Hold d (benP n0 n1 n2 n3 x) (benP n0 n1 n2 n3 y) := by
  refine ⟨r.b, ben_pt _ _ _ _ _, ben_pt _ _ _ _ _, ?_⟩
  obtain ⟨m, hm, e⟩ := r.e
  obtain ⟨k1, l1, hk1, hl1, a1, a2⟩ := ben_lin r.n h.px.ne
  obtain ⟨k2, l2, hk2, hl2, b1, b2⟩ := ben_lin r.n h.py.ne
  have e0 := e (benP n0 n1 n2 n3 x) (benP n0 n1 n2 n3 y)
  unfold renT at e0
  rw [mv_at] at e0
  have s1 := sc_at c (y := lin (benP n0 n1 n2 n3 y) (n3, 0 - n2) (0 - n1, n0)) a1 a2
  have s2 := sc_at c (y := x) b1 b2
  rw [at_comm c x _] at s1
  rw [at_comm c y x, h.h, Int.mul_zero] at s2
  have z := (Int.mul_eq_zero.mp s2).resolve_left (mul2_ne hk2 hk2)
  rw [z, Int.mul_zero, e0] at s1
  have := (Int.mul_eq_zero.mp s1).resolve_left (mul2_ne hk1 hk1)
  exact (Int.mul_eq_zero.mp this).resolve_left hm
theorem Ren.nx {c d : Co} {n0 n1 n2 n3 : Int} (r : Ren c d n0 n1 n2 n3) {x y : Pt} (h : Hold c x y) : d.nx (benP n0 n1 n2 n3 x) (benP n0 n1 n2 n3 y) = benP n0 n1 n2 n3 (c.nx x y) := by
  have hd := r.hold h
  have hw := h.next
  obtain ⟨a, g, o, e1, _, hn⟩ := h.oth
  obtain ⟨m, hm, e⟩ := r.e
  have hD : n0 * n3 - n1 * n2 ≠ 0 := by have := r.n; omega
  obtain ⟨k1, l1, hk1, hl1, a1, a2⟩ := ben_lin r.n h.px.ne
  obtain ⟨k2, l2, hk2, hl2, b1, b2⟩ := ben_lin r.n h.py.ne
  obtain ⟨k3, l3, hk3, hl3, c1, c2⟩ := ben_lin r.n hw.py.ne
  have pw := ben_pt n0 n1 n2 n3 (c.nx x y)
  have cr := lowP_cross g a
  rw [← e1] at cr
  obtain ⟨ka, la, hka, hla, f1, f2⟩ := par_of (x := c.nx x y) (y := (g, a)) hw.py.ne (fun z => hn z) cr
  simp only at f1 f2
  generalize benP n0 n1 n2 n3 (c.nx x y) = w' at *
  generalize c.nx x y = w at *
  have full : ∀ u1 u2 : Int, m * (k2 * k2) * l1 * la * l3 * (d.A (benP n0 n1 n2 n3 y) * (u1 * u1) + d.B (benP n0 n1 n2 n3 y) * (u1 * u2) + d.C (benP n0 n1 n2 n3 y) * (u2 * u2)) = l2 * l2 * k1 * ka * k3 * ((n0 * n3 - n1 * n2) * (n0 * n3 - n1 * n2)) * (((benP n0 n1 n2 n3 x).2 * u1 - (benP n0 n1 n2 n3 x).1 * u2) * (w'.2 * u1 - w'.1 * u2)) := by
    intro u1 u2
    have e0 := e (u1, u2) (benP n0 n1 n2 n3 y)
    rw [at_form d (u1, u2)] at e0
    simp only at e0
    unfold renT at e0
    rw [mv_at] at e0
    have s2 := sc_at c (y := lin (u1, u2) (n3, 0 - n2) (0 - n1, n0)) b1 b2
    rw [at_comm c _ (lin (u1, u2) _ _), at_comm c y _, e0, at_form] at s2
    have v := oth_val (y := (lin (u1, u2) (n3, 0 - n2) (0 - n1, n0)).1) (w := (lin (u1, u2) (n3, 0 - n2) (0 - n1, n0)).2) o
    rw [v] at s2
    simp only at s2 a1 a2 c1 c2
    generalize d.A (benP n0 n1 n2 n3 y) * (u1 * u1) + d.B (benP n0 n1 n2 n3 y) * (u1 * u2) + d.C (benP n0 n1 n2 n3 y) * (u2 * u2) = F at *
    generalize benP n0 n1 n2 n3 x = x' at *
    -- x and w as seen from u
    have p1 : l1 * (x.2 * (u1 * n3 + u2 * (0 - n1)) - x.1 * (u1 * (0 - n2) + u2 * n0)) = k1 * ((n0 * n3 - n1 * n2) * (x'.2 * u1 - x'.1 * u2)) := by
      have : l1 * (x.2 * (u1 * n3 + u2 * (0 - n1)) - x.1 * (u1 * (0 - n2) + u2 * n0)) = (l1 * x.2) * (u1 * n3 + u2 * (0 - n1)) - (l1 * x.1) * (u1 * (0 - n2) + u2 * n0) := by grind
      rw [this, ← a1, ← a2]
      grind
    have p3 : l3 * (w.2 * (u1 * n3 + u2 * (0 - n1)) - w.1 * (u1 * (0 - n2) + u2 * n0)) = k3 * ((n0 * n3 - n1 * n2) * (w'.2 * u1 - w'.1 * u2)) := by
      have : l3 * (w.2 * (u1 * n3 + u2 * (0 - n1)) - w.1 * (u1 * (0 - n2) + u2 * n0)) = (l3 * w.2) * (u1 * n3 + u2 * (0 - n1)) - (l3 * w.1) * (u1 * (0 - n2) + u2 * n0) := by grind
      rw [this, ← c1, ← c2]
      grind
    have p2 : la * (a * (u1 * n3 + u2 * (0 - n1)) - g * (u1 * (0 - n2) + u2 * n0)) = ka * (w.2 * (u1 * n3 + u2 * (0 - n1)) - w.1 * (u1 * (0 - n2) + u2 * n0)) := by
      have : la * (a * (u1 * n3 + u2 * (0 - n1)) - g * (u1 * (0 - n2) + u2 * n0)) = (la * a) * (u1 * n3 + u2 * (0 - n1)) - (la * g) * (u1 * (0 - n2) + u2 * n0) := by grind
      rw [this, ← f1, ← f2]
      grind
    generalize x.2 * (u1 * n3 + u2 * (0 - n1)) - x.1 * (u1 * (0 - n2) + u2 * n0) = X1 at *
    generalize a * (u1 * n3 + u2 * (0 - n1)) - g * (u1 * (0 - n2) + u2 * n0) = X2 at *
    generalize w.2 * (u1 * n3 + u2 * (0 - n1)) - w.1 * (u1 * (0 - n2) + u2 * n0) = X3 at *
    generalize x'.2 * u1 - x'.1 * u2 = Y1 at *
    generalize w'.2 * u1 - w'.1 * u2 = Y3 at *
    generalize n0 * n3 - n1 * n2 = D at *
    have q1 : m * (k2 * k2) * l1 * la * l3 * F = (k2 * k2 * (m * F)) * l1 * la * l3 := by grind
    have q2 : l2 * l2 * (X1 * X2) * l1 * la * l3 = l2 * l2 * (l1 * X1) * (la * X2) * l3 := by grind
    have q3 : l2 * l2 * (k1 * (D * Y1)) * (ka * X3) * l3 = l2 * l2 * (k1 * (D * Y1)) * ka * (l3 * X3) := by grind
    rw [q1, s2, q2, p1, p2, q3, p3]
    grind
  have fA := full 1 0
  have fC := full 0 1
  have fB := full 1 1
  simp only [Int.mul_one, Int.mul_zero, Int.add_zero, Int.zero_add, Int.sub_zero, Int.zero_sub] at fA fC fB
  have hM : m * (k2 * k2) * l1 * la * l3 ≠ 0 := mul2_ne (mul2_ne (mul2_ne (mul2_ne hm (mul2_ne hk2 hk2)) hl1) hla) hl3
  clear full
  generalize m * (k2 * k2) * l1 * la * l3 = M at *
  generalize l2 * l2 * k1 * ka * k3 * ((n0 * n3 - n1 * n2) * (n0 * n3 - n1 * n2)) = K at *
  refine nx_is2 hd pw hM fA ?_ (by rw [fC]; grind)
  generalize d.A (benP n0 n1 n2 n3 y) = A at *
  generalize d.B (benP n0 n1 n2 n3 y) = B at *
  generalize d.C (benP n0 n1 n2 n3 y) = C at *
  have e2 : M * (A + B + C) = M * A + M * B + M * C := by grind
  rw [e2, fA, fC] at fB
  grind
theorem Ren.mem {c d : Co} {n0 n1 n2 n3 : Int} (r : Ren c d n0 n1 n2 n3) {x y : Pt} (h : Hold c x y) : ∀ n, d.mem (benP n0 n1 n2 n3 x) (benP n0 n1 n2 n3 y) n = benP n0 n1 n2 n3 (c.mem x y n)
  | 0 => rfl
  | 1 => rfl
  | n + 2 => by
    rw [mem2, r.mem h n, r.mem h (n + 1), mem2]
    exact r.nx (h.mem n)
theorem ben_inj {n0 n1 n2 n3 : Int} (hn : n0 * n3 ≠ n1 * n2) {x y : Pt} (hx : IsPt x) (hy : IsPt y) (h : benP n0 n1 n2 n3 x = benP n0 n1 n2 n3 y) : x = y := by
  obtain ⟨k1, l1, hk1, hl1, a1, a2⟩ := ben_lin hn hx.ne
  obtain ⟨k2, l2, hk2, hl2, b1, b2⟩ := ben_lin hn hy.ne
  rw [h] at a1 a2
  generalize (lin (benP n0 n1 n2 n3 y) (n3, 0 - n2) (0 - n1, n0)).1 = t1 at *
  generalize (lin (benP n0 n1 n2 n3 y) (n3, 0 - n2) (0 - n1, n0)).2 = t2 at *
  refine pt_eq hx hy ?_
  have : (l1 * l2) * (x.1 * y.2) = (l1 * l2) * (y.1 * x.2) := by
    have e1 : (l1 * l2) * (x.1 * y.2) = (l1 * x.1) * (l2 * y.2) := by grind
    have e2 : (l1 * l2) * (y.1 * x.2) = (l2 * y.1) * (l1 * x.2) := by grind
    rw [e1, e2, ← a1, ← a2, ← b1, ← b2]
    grind
  exact Int.eq_of_mul_eq_mul_left (mul2_ne hl1 hl2) this
end DL

namespace DL
open PySem PySem.Spec PyProof.Rows L2 Evl
/-! ## members at any index -/
theorem StGood.mul {c : Co} {x y : Pt} (h : StGood c x y) : MulP c := ⟨h.hold.b, h.bd.sB (by decide)⟩
/-- the members before a pair that stands in a chain -/
theorem mem_back {c : Co} {x y : Pt} (h : Hold c x y) (k i : Nat) : c.mem (c.mem x y (k + 1)) (c.mem x y k) i = if i ≤ k + 1 then c.mem x y (k + 1 - i) else c.mem y x (i - k) := by
  by_cases hi : i ≤ k + 1
  · rw [if_pos hi]
    exact mem_rev h k i hi
  · rw [if_neg hi]
    have e := mem_shift c (c.mem x y (k + 1)) (c.mem x y k) k (i - k)
    rw [show k + (i - k) = i by omega] at e
    rw [← e, mem_rev h k k (by omega), mem_rev h k (k + 1) (by omega), show k + 1 - k = 1 by omega, show k + 1 - (k + 1) = 0 by omega]
    rfl
end DL

namespace DL
open PySem PySem.Spec PyProof.Rows L2 Evl
/-! ## range with a step -/
section
variable {G : Gs} {B0 : Hp} {ρ : Ro} {O : Ow}
end
end DL

namespace DL
open PySem PySem.Spec PyProof.Rows L2 Evl
/-! ## list(range(a, b, c)) -/
section
variable {X : Cx}
end
section
variable {G : Gs} {B0 : Hp} {ρ : Ro} {O : Ow}
end
end DL

namespace DL
open PySem PySem.Spec PyProof.Rows L2 Evl
/-! ## closing, where the numbers are scaled or renamed; Tate's families -/
theorem Sc.close {c d : Co} {s : Int} (hs : s ≠ 0) (hc : c.bend ≠ 0) (hd : d.bend ≠ 0) (hX : d.X = s * c.X) (hI : d.I = s * s * c.I) (hJ : d.J = s * s * s * c.J) : d.close = c.close := by
  have hn : s * 1 ≠ 0 * 0 := by omega
  have r : Ren c.add d.add s 0 0 1 := ⟨(add_hold hd).b, hn, 1, by decide, fun u v => by
    unfold renT
    rw [mv_at]
    show atV 1 (-2 * c.X) (c.X * c.X) (6 * c.I - 2 * c.X * c.X) (6 * c.I * c.X + 4 * c.J) (9 * c.I * c.I + 4 * c.J * c.X) (u.1 * 1 + u.2 * (0 - 0)) (u.1 * (0 - 0) + u.2 * s) (v.1 * 1 + v.2 * (0 - 0)) (v.1 * (0 - 0) + v.2 * s) = 1 * atV 1 (-2 * d.X) (d.X * d.X) (6 * d.I - 2 * d.X * d.X) (6 * d.I * d.X + 4 * d.J) (9 * d.I * d.I + 4 * d.J * d.X) u.1 u.2 v.1 v.2
    rw [hX, hI, hJ]
    unfold atV
    grind⟩
  have h := add_hold hc
  have b0 : benP s 0 0 1 (1, 0) = (1, 0) := lowP_eq pt_inf (fun z => hs (by have := z.1; simp only at this; omega)) (by simp)
  have b1 : benP s 0 0 1 (c.X, 1) = (d.X, 1) := lowP_eq (pt_int d.X) (fun z => by have := z.2; simp only at this; omega) (by simp only; rw [hX]; grind)
  unfold Co.close
  congr 1
  funext n
  congr 1
  have m := r.mem h n
  rw [b0, b1] at m
  rw [m]
  refine decide_eq_decide.mpr ⟨fun e => ben_inj hn (h.mem n).px pt_inf (by rw [e, b0]), fun e => by rw [e, b0]⟩
end DL

namespace DL
open PySem PySem.Spec PyProof.Rows L2 Evl
/-! ## members so many steps apart, and when both are the same -/
/-- 0 for the multiples that are, twice, nothing -/
def Co.K (c : Co) (u : Pt) : Int := u.2 * (u.1 * u.1 * u.1 - 3 * c.I * u.1 * (u.2 * u.2) - c.J * (u.2 * u.2 * u.2))
def Co.ds (c : Co) (x : Pt) : Int := c.B x * c.B x - 4 * c.A x * c.C x
/-! ### the form of a multiple is never nothing -/
end DL

namespace DL
open PySem PySem.Spec PyProof.Rows L2 Evl
/-! ## a chain from further back -/
theorem far_mem {c : Co} {x y : Pt} (h : Hold c x y) (r i : Nat) : c.mem (c.mem y x (r + 1)) (c.mem y x r) i = if i < r then c.mem y x (r + 1 - i) else c.mem x y (i - r) := by
  rw [mem_back h.symm r i]
  by_cases h1 : i < r
  · rw [if_pos (by omega), if_pos h1]
  · rw [if_neg h1]
    by_cases h2 : i ≤ r + 1
    · rw [if_pos h2]
      have : i = r ∨ i = r + 1 := by omega
      rcases this with rfl | rfl
      · rw [show i + 1 - i = 1 by omega, Nat.sub_self]
        rfl
      · rw [Nat.sub_self, show r + 1 - r = 1 by omega]
        rfl
    · rw [if_neg h2]
end DL

namespace DL
open PySem PySem.Spec PyProof.Rows L2 Evl
/-! ## the five numbers of the relation of so many steps; how great its numbers are -/
end DL
namespace DL
open PySem PySem.Spec PyProof.Rows L2 Evl
/-- bounds that are reckoned out -/
class AbI (x : Int) (a : outParam Nat) : Prop where
  h : x.natAbs ≤ a
instance abi_mul {x y : Int} {a b : Nat} [h : AbI x a] [k : AbI y b] : AbI (x * y) (a * b) := ⟨abs_mul_le h.h k.h⟩
instance abi_add {x y : Int} {a b : Nat} [h : AbI x a] [k : AbI y b] : AbI (x + y) (a + b) := ⟨abs_add_le h.h k.h⟩
instance abi_sub {x y : Int} {a b : Nat} [h : AbI x a] [k : AbI y b] : AbI (x - y) (a + b) := ⟨by
  have := abs_add_le (x := x) (y := -y) h.h (by rw [Int.natAbs_neg]; exact k.h)
  exact this⟩
instance abi_neg {x : Int} {a : Nat} [h : AbI x a] : AbI (-x) a := ⟨by rw [Int.natAbs_neg]; exact h.h⟩
instance abi_lit {n : Nat} : AbI (no_index (@OfNat.ofNat Int n instOfNat)) n := ⟨Nat.le_refl n⟩
end DL

namespace DL
open PySem PySem.Spec PyProof.Rows L2 Evl
/-! ## when the relation of so many steps is bent; the partners by it -/
/-! ### closer bounds -/
end DL

namespace DL
open PySem PySem.Spec PyProof.Rows L2 Evl
/-! ## the lists of numbers that pairs leave free: great points -/
theorem wi_preT {f g : Int} {xs ys : List Int} {b e : Nat} (hf : f.natAbs < 10 ^ e) (hg : g.natAbs < 10 ^ e) (bx : ∀ x ∈ xs, x.natAbs < 10 ^ b) (bY : ∀ y ∈ ys, y.natAbs < 10 ^ b) :
    ∀ z ∈ (xs.zip ys).map (fun p => f * p.1 - g * p.2), z.natAbs < 10 ^ (e + b + 1) := by
  intro z hz
  obtain ⟨p, hp, rfl⟩ := List.mem_map.mp hz
  obtain ⟨h1, h2⟩ := List.of_mem_zip hp
  have a1 : (f * p.1).natAbs < 10 ^ (e + b) := bd_mul hf (bx _ h1)
  have a2 : (g * p.2).natAbs < 10 ^ (e + b) := bd_mul hg (bY _ h2)
  have ee : 10 ^ (e + b + 1) = 10 * 10 ^ (e + b) := by rw [Nat.pow_succ, Nat.mul_comm]
  have p : 0 < 10 ^ (e + b) := Nat.pow_pos (by decide)
  omega
theorem dot_bdT {xs ys : List Int} {b t : Nat} (hx : xs.length = 6) (bx : ∀ x ∈ xs, x.natAbs < 10 ^ b) (bY : ∀ y ∈ ys, y.natAbs < 10 ^ t) : (dotL xs ys).natAbs < 10 ^ (b + t + 1) := by
  have h : ∀ z ∈ (xs.zip ys).map (fun p => p.1 * p.2), z.natAbs < 10 ^ (b + t) := by
    intro z hz
    obtain ⟨p, hp, rfl⟩ := List.mem_map.mp hz
    obtain ⟨h1, h2⟩ := List.of_mem_zip hp
    exact bd_mul (bx _ h1) (bY _ h2)
  have := sum_bd h
  rw [List.length_map, List.length_zip, hx] at this
  have e : 10 ^ (b + t + 1) = 10 * 10 ^ (b + t) := by rw [Nat.pow_succ, Nat.mul_comm]
  have p : 0 < 10 ^ (b + t) := Nat.pow_pos (by decide)
  have m : min 6 ys.length * 10 ^ (b + t) ≤ 6 * 10 ^ (b + t) := Nat.mul_le_mul_right _ (Nat.min_le_left _ _)
  unfold dotL
  omega
theorem narrow_sixT {ls : List (List Int)} {t : List Int} {b e : Nat} (h : Six b ls) (ht : ∀ x ∈ t, x.natAbs < 10 ^ e) : narrow ls t = ls ∨ ((narrow ls t).length + 1 = ls.length ∧ Six (2 * b + e + 2) (narrow ls t)) := by
  rcases narrow_len (ls := ls) (t := t) with ⟨e, _⟩ | ⟨g, hg, hl, e'⟩
  · exact .inl e
  · refine .inr ⟨by omega, ?_⟩
    unfold narrow
    rw [hg]
    intro l hl'
    obtain ⟨i, hi, rfl⟩ := List.mem_map.mp hl'
    have hi := List.mem_range.mp (List.mem_filter.mp hi).1
    obtain ⟨g1, g2⟩ := h _ (getD_mem (d := []) hl)
    obtain ⟨i1, i2⟩ := h _ (getD_mem (d := []) hi)
    have := plain_bd (wi_preT (dot_bdT g1 g2 ht) (dot_bdT i1 i2 ht) i2 g2)
    exact ⟨wi_len i1 g1, fun x hx => Nat.lt_of_lt_of_le (this x hx) (ten_mono (by omega))⟩
/-- how great the numbers of so many lists may be, with terms of up to 2,800 digits -/
def bigT : Nat → Nat
  | 6 => 1
  | 5 => 2804
  | 4 => 8410
  | 3 => 19622
  | 2 => 42046
  | 1 => 86894
  | _ => 176590
structure ListsT (ls : List (List Int)) : Prop where
  len : ls.length ≤ 6
  six : Six (bigT ls.length) ls
theorem bigT_step : ∀ n, n ≤ 6 → 0 < n → 2 * bigT n + 2800 + 2 ≤ bigT (n - 1)
  | 1, _, _ => by decide
  | 2, _, _ => by decide
  | 3, _, _ => by decide
  | 4, _, _ => by decide
  | 5, _, _ => by decide
  | 6, _, _ => by decide
  | 0, _, h => by omega
  | n + 7, h, _ => by omega
theorem ListsT.narrow {ls : List (List Int)} {t : List Int} (h : ListsT ls) (ht : ∀ x ∈ t, x.natAbs < 10 ^ 2800) : ListsT (narrow ls t) := by
  rcases narrow_sixT h.six ht with e | ⟨e, s⟩
  · rw [e]
    exact h
  · have hl := h.len
    refine ⟨by omega, s.le ?_⟩
    have := bigT_step ls.length hl (by omega)
    rw [show (DL.narrow ls t).length = ls.length - 1 by omega]
    exact this
theorem ListsT.unit : ListsT unitL := ⟨by decide, fun l hl => (Lists.unit.six l hl)⟩
end DL

namespace DL
open PySem PySem.Spec PyProof.Rows L2 Evl
/-! ## the relations that pairs leave free -/
theorem dot_at (c : Co) (x y : Pt) : dotL c.list (termsL x y) = c.at_ x y := by
  obtain ⟨a, b, cc, d, e, f⟩ := c
  obtain ⟨p, q⟩ := x
  obtain ⟨r, s⟩ := y
  show a * (p * p * r * r) + (b * (p * r * (p * s + r * q)) + (cc * (p * p * s * s + r * r * q * q) + (d * (p * q * r * s) + (e * (q * s * (p * s + r * q)) + (f * (q * q * s * s) + 0))))) = atV a b cc d e f p q r s
  unfold atV
  grind
theorem common_holds {ps : List (Pt × Pt)} {d : Co} (e : d.list ∈ commonL ps) : ∀ p ∈ ps, d.at_ p.1 p.2 = 0 := fun p hp => by
  obtain ⟨i, hi, ei⟩ := List.getElem_of_mem e
  have := (common_bas ps).2.mem i hi _ ⟨p, hp, rfl⟩
  rw [List.getD_eq_getElem?_getD, List.getElem?_eq_getElem hi, Option.getD_some, ei, ← dot_vc rfl (terms_6 _ _), dot_at] at this
  exact this
end DL

namespace DL
open PySem PySem.Spec PyProof.Rows L2 Evl
end DL

namespace DL
open PySem PySem.Spec PyProof.Rows L2 Evl
/-! ## rows cleared above and below each lead, and the only direction left -/
def gjRow (s : Nat) (lead r : List Int) : List Int := plainL (elimR s lead r)
def rkG (i : Nat) : Nat := 931 * 2 ^ i - 1
theorem rkG_step (i : Nat) : 2 * rkG i + 1 = rkG (i + 1) := by
  unfold rkG
  have : 0 < 2 ^ i := Nat.pow_pos (by decide)
  rw [Nat.pow_succ]
  omega
theorem rkG_mono {i j : Nat} (h : i ≤ j) : rkG i ≤ rkG j := by
  unfold rkG
  have : 2 ^ i ≤ 2 ^ j := Nat.pow_le_pow_right (by decide) h
  omega
structure GJ (v : List Int) (s : Nat) (R : List (List Int)) (S : List Nat) : Prop where
  len : R.length = 7
  six : ∀ r ∈ R, r.length = 6
  bd : ∀ r ∈ R, ∀ x ∈ r, x.natAbs < 10 ^ rkG S.length
  ker : ∀ r ∈ R, dt (vc v) (vc r) = 0
  inc : S.Pairwise (· < ·)
  low : ∀ i ∈ S, i < s
  piv : ∀ i, i < S.length → vc (R.getD i []) (S.getD i 0) ≠ 0
  zer : ∀ i k, i < S.length → k < 7 → k ≠ i → vc (R.getD k []) (S.getD i 0) = 0
theorem GJ.skip {v : List Int} {s : Nat} {R : List (List Int)} {S : List Nat} (h : GJ v s R S) : GJ v (s + 1) R S :=
  ⟨h.len, h.six, h.bd, h.ker, h.inc, fun i hi => Nat.lt_succ_of_lt (h.low i hi), h.piv, h.zer⟩
theorem inc_len : ∀ (S : List Nat) (lo s : Nat), S.Pairwise (· < ·) → (∀ i ∈ S, lo ≤ i ∧ i < s) → lo ≤ s → S.length + lo ≤ s
  | [], lo, s, _, _, h => by
    rw [List.length_nil]
    omega
  | a :: t, lo, s, hp, hs, h => by
    obtain ⟨h1, h2⟩ := List.pairwise_cons.mp hp
    have ha := hs a (.head _)
    have := inc_len t (a + 1) s h2 (fun i hi => ⟨h1 i hi, (hs i (.tail _ hi)).2⟩) (by omega)
    rw [List.length_cons]
    omega
theorem GJ.few {v : List Int} {s : Nat} {R : List (List Int)} {S : List Nat} (h : GJ v s R S) : S.length ≤ s := by
  have := inc_len S 0 s h.inc (fun i hi => ⟨Nat.zero_le _, h.low i hi⟩) (Nat.zero_le _)
  omega
theorem gj_vc {s : Nat} {g r : List Int} (hg : g.length = 6) (hr : r.length = 6) : ∃ q : Int, q ≠ 0 ∧ ∀ k, k < 6 → q * vc (gjRow s g r) k = vc g s * vc r k - vc r s * vc g k := by
  obtain ⟨q, q0, e⟩ := plain_vc (elimR s g r)
  refine ⟨q, q0, fun k hk => ?_⟩
  unfold gjRow
  rw [e k, elim_vc hg hr hk]
  rfl
theorem plainL_l (ns : List Int) : (plainL ns).length = ns.length := by
  unfold plainL
  rw [List.length_map]
theorem plain_row {g : List Int} : ∃ q : Int, q ≠ 0 ∧ ∀ k, q * vc (plainL g) k = vc g k := plain_vc g
theorem dt_row {v : Nat → Int} {q a b : Int} {w r g : Nat → Int} (q0 : q ≠ 0) (e : ∀ k, k < 6 → q * w k = a * r k - b * g k) (h1 : dt v r = 0) (h2 : dt v g = 0) : dt v w = 0 := by
  have e1 : q * dt v w = a * dt v r - b * dt v g := by
    unfold dt
    rw [← sm_mul, ← sm_mul, ← sm_mul, ← sm_sub]
    exact sm_congr fun k hk => by
      have := e k hk
      grind
  rw [h1, h2, Int.mul_zero, Int.mul_zero, Int.sub_zero] at e1
  exact (Int.mul_eq_zero.mp e1).resolve_left q0
/-- the rows behind a turn -/
def gjR (n s j : Nat) (g : List Int) (R : List (List Int)) : List (List Int) :=
  (((R.take j ++ R.drop (j + 1)).map (gjRow s (plainL g))).take n ++ [plainL g]) ++ ((R.take j ++ R.drop (j + 1)).map (gjRow s (plainL g))).drop n
theorem cut_get {R : List (List Int)} {j k : Nat} (hR : R.length = 7) (hj : j < 7) (hk : k < 6) : (R.take j ++ R.drop (j + 1))[k]? = some (R.getD (if k < j then k else k + 1) []) := by
  rw [List.getElem?_append, List.length_take, hR, Nat.min_eq_left (by omega)]
  by_cases h : k < j
  · rw [if_pos h, if_pos h, List.getElem?_take, if_pos h, List.getD_eq_getElem?_getD, List.getElem?_eq_getElem (by omega)]
    rfl
  · rw [if_neg h, if_neg h, List.getElem?_drop, show j + 1 + (k - j) = k + 1 by omega, List.getD_eq_getElem?_getD, List.getElem?_eq_getElem (by omega)]
    rfl
theorem gjR_len {R : List (List Int)} {n s j : Nat} {g : List Int} (hR : R.length = 7) (hj : j < 7) (hn : n ≤ 6) : (gjR n s j g R).length = 7 := by
  unfold gjR
  simp only [List.length_append, List.length_take, List.length_drop, List.length_map, List.length_cons, List.length_nil, hR]
  omega
theorem gjR_get {R : List (List Int)} {n s j : Nat} {g : List Int} (hR : R.length = 7) (hj : j < 7) (hn : n ≤ j) (k : Nat) (hk : k < 7) :
    (k < n → (gjR n s j g R).getD k [] = gjRow s (plainL g) (R.getD k [])) ∧ (k = n → (gjR n s j g R).getD k [] = plainL g) ∧ (n < k → ∃ m, n ≤ m ∧ m < 7 ∧ m ≠ j ∧ (gjR n s j g R).getD k [] = gjRow s (plainL g) (R.getD m [])) := by
  have lc : ((R.take j ++ R.drop (j + 1)).map (gjRow s (plainL g))).length = 6 := by
    simp only [List.length_append, List.length_take, List.length_drop, List.length_map, hR]
    omega
  have ll : (((R.take j ++ R.drop (j + 1)).map (gjRow s (plainL g))).take n ++ [plainL g]).length = n + 1 := by
    rw [List.length_append, List.length_take, lc, Nat.min_eq_left (by omega)]
    rfl
  have lt : (((R.take j ++ R.drop (j + 1)).map (gjRow s (plainL g))).take n).length = n := by
    rw [List.length_take, lc, Nat.min_eq_left (by omega)]
  refine ⟨fun h => ?_, fun h => ?_, fun h => ⟨if k - 1 < j then k - 1 else k, ?_, ?_, ?_, ?_⟩⟩
  · unfold gjR
    rw [List.getD_eq_getElem?_getD, List.getElem?_append, ll, if_pos (by omega), List.getElem?_append, lt, if_pos h, List.getElem?_take, if_pos h, List.getElem?_map, cut_get hR hj (by omega), if_pos (by omega)]
    rfl
  · unfold gjR
    rw [List.getD_eq_getElem?_getD, List.getElem?_append, ll, if_pos (by omega), List.getElem?_append, lt, if_neg (by omega), h, Nat.sub_self]
    rfl
  · split <;> omega
  · split <;> omega
  · split <;> omega
  · unfold gjR
    rw [List.getD_eq_getElem?_getD, List.getElem?_append, ll, if_neg (by omega), List.getElem?_drop, List.getElem?_map, show n + (k - (n + 1)) = k - 1 by omega, cut_get hR hj (by omega)]
    rw [show (if k - 1 < j then k - 1 else k - 1 + 1) = (if k - 1 < j then k - 1 else k) by split <;> omega]
    rfl
theorem gjR_mem {R : List (List Int)} {n s j : Nat} {g r : List Int} (h : r ∈ gjR n s j g R) : r = plainL g ∨ ∃ r0 ∈ R, r = gjRow s (plainL g) r0 := by
  have go : r ∈ (R.take j ++ R.drop (j + 1)).map (gjRow s (plainL g)) → ∃ r0 ∈ R, r = gjRow s (plainL g) r0 := fun h => by
    obtain ⟨r0, h0, rfl⟩ := List.mem_map.mp h
    rcases List.mem_append.mp h0 with h0 | h0
    · exact ⟨r0, List.mem_of_mem_take h0, rfl⟩
    · exact ⟨r0, List.mem_of_mem_drop h0, rfl⟩
  unfold gjR at h
  rcases List.mem_append.mp h with h | h
  · rcases List.mem_append.mp h with h | h
    · exact .inr (go (List.mem_of_mem_take h))
    · exact .inl (List.mem_singleton.mp h)
  · exact .inr (go (List.mem_of_mem_drop h))
theorem snoc_get {S : List Nat} {s i : Nat} : (S ++ [s]).getD i 0 = if i < S.length then S.getD i 0 else if i = S.length then s else 0 := by
  rw [List.getD_eq_getElem?_getD, List.getElem?_append]
  by_cases h : i < S.length
  · rw [if_pos h, if_pos h, List.getD_eq_getElem?_getD]
  · rw [if_neg h, if_neg h]
    by_cases e : i = S.length
    · rw [if_pos e, e, Nat.sub_self]
      rfl
    · rw [if_neg e, List.getElem?_eq_none (by rw [List.length_singleton]; omega)]
      rfl
theorem getD_in {S : List Nat} {i : Nat} (h : i < S.length) : S.getD i 0 ∈ S := by
  rw [List.getD_eq_getElem?_getD, List.getElem?_eq_getElem h]
  exact List.getElem_mem h
theorem getR_in {R : List (List Int)} {i : Nat} (h : i < R.length) : R.getD i [] ∈ R := by
  rw [List.getD_eq_getElem?_getD, List.getElem?_eq_getElem h]
  exact List.getElem_mem h
theorem GJ.next {v : List Int} {s : Nat} {R : List (List Int)} {S : List Nat} (h : GJ v s R S) (hs : s < 6) {j : Nat} (nj : S.length ≤ j) (j7 : j < 7) (gs : vc (R.getD j []) s ≠ 0) :
    GJ v (s + 1) (gjR S.length s j (R.getD j []) R) (S ++ [s]) := by
  have gR : R.getD j [] ∈ R := getR_in (by rw [h.len]; exact j7)
  have g6 := h.six _ gR
  have gb := h.bd _ gR
  have gk := h.ker _ gR
  have gz : ∀ i, i < S.length → vc (R.getD j []) (S.getD i 0) = 0 := fun i hi => h.zer i j hi j7 (by omega)
  have get := fun k hk => gjR_get (n := S.length) (s := s) (g := R.getD j []) h.len j7 nj k hk
  have len := gjR_len (n := S.length) (s := s) (g := R.getD j []) h.len j7 (by omega)
  generalize R.getD j [] = g at *
  obtain ⟨q, q0, eq⟩ := plain_row (g := g)
  have l6 : (plainL g).length = 6 := by rw [plainL_l, g6]
  have ls : vc (plainL g) s ≠ 0 := fun z => gs (by rw [← eq, z, Int.mul_zero])
  have lz : ∀ i, i < S.length → vc (plainL g) (S.getD i 0) = 0 := fun i hi => by
    have := eq (S.getD i 0)
    rw [gz i hi] at this
    exact (Int.mul_eq_zero.mp this).resolve_left q0
  have lk : dt (vc v) (vc (plainL g)) = 0 := dt_row (a := 1) (r := vc g) (g := fun _ => 0) (b := 0) q0 (fun k _ => by rw [eq k, Int.zero_mul, Int.sub_zero, Int.one_mul]) gk (by unfold dt; exact sm_zero fun _ _ => Int.mul_zero _)
  have S6 : ∀ i, i < S.length → S.getD i 0 < 6 := fun i hi => Nat.lt_trans (h.low _ (getD_in hi)) hs
  have lS : (S ++ [s]).length = S.length + 1 := by rw [List.length_append]; rfl
  refine ⟨len, fun r hr => ?_, fun r hr x hx => ?_, fun r hr => ?_, ?_, fun i hi => ?_, fun i hi => ?_, fun i k hi hk ki => ?_⟩
  · rcases gjR_mem hr with rfl | ⟨r0, m0, rfl⟩
    · exact l6
    · unfold gjRow
      rw [plainL_l, elim_len l6 (h.six _ m0)]
  · rw [lS, ← rkG_step]
    have pb := plain_bd gb
    rcases gjR_mem hr with rfl | ⟨r0, m0, rfl⟩
    · exact Nat.lt_of_lt_of_le (pb x hx) (ten_mono (by omega))
    · have rb := h.bd _ m0
      have r6 := h.six _ m0
      refine plain_bd (fun y hy => ?_) x hx
      obtain ⟨p, hp, rfl⟩ := List.mem_map.mp hy
      obtain ⟨p1, p2⟩ := List.of_mem_zip hp
      have a1 : ((plainL g).getD s 0 * p.1).natAbs < 10 ^ (rkG S.length + rkG S.length) := bd_mul (pb _ (getD_mem (by rw [l6]; exact hs))) (rb _ p1)
      have a2 : (r0.getD s 0 * p.2).natAbs < 10 ^ (rkG S.length + rkG S.length) := bd_mul (rb _ (getD_mem (by rw [r6]; exact hs))) (pb _ p2)
      have := bd_sub a1 a2
      rw [show Nat.max (rkG S.length + rkG S.length) (rkG S.length + rkG S.length) = _ from Nat.max_self _] at this
      rw [show 2 * rkG S.length + 1 = rkG S.length + rkG S.length + 1 by omega]
      exact this
  · rcases gjR_mem hr with rfl | ⟨r0, m0, rfl⟩
    · exact lk
    · obtain ⟨q', q0', e'⟩ := gj_vc (s := s) l6 (h.six _ m0)
      exact dt_row q0' e' (h.ker _ m0) lk
  · rw [List.pairwise_append]
    exact ⟨h.inc, List.pairwise_singleton _ _, fun a ha b hb => by rw [List.mem_singleton.mp hb]; exact h.low a ha⟩
  · rcases List.mem_append.mp hi with hi | hi
    · exact Nat.lt_succ_of_lt (h.low i hi)
    · rw [List.mem_singleton.mp hi]
      exact Nat.lt_succ_self s
  · rw [lS] at hi
    rw [snoc_get]
    by_cases hn : i < S.length
    · rw [if_pos hn, (get i (by omega)).1 hn]
      obtain ⟨q', q0', e'⟩ := gj_vc (s := s) l6 (h.six _ (getR_in (i := i) (by rw [h.len]; omega)))
      have := e' _ (S6 i hn)
      rw [lz i hn, Int.mul_zero, Int.sub_zero] at this
      intro z
      rw [z, Int.mul_zero] at this
      exact (Int.mul_ne_zero ls (h.piv i hn)) this.symm
    · obtain rfl : i = S.length := by omega
      rw [if_neg hn, if_pos rfl, (get _ (by omega)).2.1 rfl]
      exact ls
  · rw [lS] at hi
    rw [snoc_get]
    have row : ∀ m, m < 7 → ∀ c, c < 6 → (vc (plainL g) s * vc (R.getD m []) c - vc (R.getD m []) s * vc (plainL g) c = 0) → vc (gjRow s (plainL g) (R.getD m [])) c = 0 := fun m hm c hc z => by
      obtain ⟨q', q0', e'⟩ := gj_vc (s := s) l6 (h.six _ (getR_in (i := m) (by rw [h.len]; exact hm)))
      have := e' c hc
      rw [z] at this
      exact (Int.mul_eq_zero.mp this).resolve_left q0'
    by_cases hn : i < S.length
    · rw [if_pos hn]
      by_cases h1 : k < S.length
      · rw [(get k hk).1 h1]
        exact row k hk _ (S6 i hn) (by rw [h.zer i k hn hk ki, lz i hn]; simp)
      · by_cases h2 : k = S.length
        · rw [(get k hk).2.1 h2]
          exact lz i hn
        · obtain ⟨m, m1, m2, m3, e⟩ := (get k hk).2.2 (by omega)
          rw [e]
          exact row m m2 _ (S6 i hn) (by rw [h.zer i m hn m2 (by omega), lz i hn]; simp)
    · obtain rfl : i = S.length := by omega
      rw [if_neg hn, if_pos rfl]
      by_cases h1 : k < S.length
      · rw [(get k hk).1 h1]
        exact row k hk _ hs (by rw [Int.mul_comm]; exact Int.sub_self _)
      · obtain ⟨m, m1, m2, m3, e⟩ := (get k hk).2.2 (by omega)
        rw [e]
        exact row m m2 _ hs (by rw [Int.mul_comm]; exact Int.sub_self _)
theorem sm_one : ∀ (n : Nat) {f : Nat → Int} {a : Nat}, a < n → (∀ k, k < n → k ≠ a → f k = 0) → sm n f = f a
  | 0, _, _, h, _ => absurd h (Nat.not_lt_zero _)
  | n + 1, f, a, h, hz => by
    show sm n f + f n = f a
    by_cases e : a = n
    · rw [e, sm_zero fun k hk => hz k (by omega) (by omega), Int.zero_add]
    · rw [sm_one n (a := a) (by omega) fun k hk hk' => hz k (by omega) hk', hz n (by omega) (by omega), Int.add_zero]
theorem sm_two : ∀ (n : Nat) {f : Nat → Int} {a b : Nat}, a < n → b < n → a ≠ b → (∀ k, k < n → k ≠ a → k ≠ b → f k = 0) → sm n f = f a + f b
  | 0, _, _, _, h, _, _, _ => absurd h (Nat.not_lt_zero _)
  | n + 1, f, a, b, ha, hb, hab, hz => by
    show sm n f + f n = f a + f b
    by_cases ea : a = n
    · rw [sm_one n (a := b) (by omega) fun k hk hk' => hz k (by omega) (by omega) hk', ea, Int.add_comm]
    · by_cases eb : b = n
      · rw [sm_one n (a := a) (by omega) fun k hk hk' => hz k (by omega) hk' (by omega), eb]
      · rw [sm_two n (a := a) (b := b) (by omega) (by omega) hab fun k hk k1 k2 => hz k (by omega) k1 k2, hz n (by omega) (by omega) (by omega), Int.add_zero]
/-- all leads together -/
def prP (R : List (List Int)) (S : List Nat) : Nat → Int
  | 0 => 1
  | i + 1 => prP R S i * vc (R.getD i []) (S.getD i 0)
theorem prP_dvd (R : List (List Int)) (S : List Nat) : ∀ n i, i < n → ∃ w, prP R S n = vc (R.getD i []) (S.getD i 0) * w
  | 0, _, h => absurd h (Nat.not_lt_zero _)
  | n + 1, i, h => by
    by_cases e : i = n
    · subst e
      exact ⟨prP R S i, Int.mul_comm _ _⟩
    · obtain ⟨w, hw⟩ := prP_dvd R S n i (by omega)
      exact ⟨w * vc (R.getD n []) (S.getD n 0), by
        show prP R S n * _ = _
        rw [hw, Int.mul_assoc]⟩
theorem prP_ne {v : List Int} {s : Nat} {R : List (List Int)} {S : List Nat} (h : GJ v s R S) : ∀ n, n ≤ S.length → prP R S n ≠ 0
  | 0, _ => by
    show (1 : Int) ≠ 0
    decide
  | n + 1, hn => Int.mul_ne_zero (prP_ne h n (by omega)) (h.piv n (by omega))
theorem all_six {S : List Nat} (h5 : S.length = 5) (hp : S.Pairwise (· < ·)) (hl : ∀ i ∈ S, i < 6) {f k : Nat} (hf : f ∉ S) (f6 : f < 6) (k6 : k < 6) (kf : k ≠ f) : ∃ i, i < 5 ∧ k = S.getD i 0 := by
  match S, h5 with
  | [a, b, c, d, e], _ =>
    simp only [List.pairwise_cons, List.mem_cons, List.not_mem_nil, or_false, forall_eq_or_imp, forall_eq, List.Pairwise.nil, and_true] at hp hl hf
    have : k = a ∨ k = b ∨ k = c ∨ k = d ∨ k = e := by omega
    rcases this with rfl | rfl | rfl | rfl | rfl
    · exact ⟨0, by decide, rfl⟩
    · exact ⟨1, by decide, rfl⟩
    · exact ⟨2, by decide, rfl⟩
    · exact ⟨3, by decide, rfl⟩
    · exact ⟨4, by decide, rfl⟩
theorem GJ.fin {v : List Int} {R : List (List Int)} {S : List Nat} (h : GJ v 6 R S) (h5 : S.length = 5) (v6 : v.length = 6) (hz : nz v ≠ []) {f : Nat} (hf : f ∉ S) (f6 : f < 6) {F : List Int} (F6 : F.length = 6) (e1 : vc F f = prP R S 5)
    (e2 : ∀ i, i < 5 → vc F (S.getD i 0) = 0 - (vc (R.getD i []) f * prP R S 5).fdiv (vc (R.getD i []) (S.getD i 0))) : plainL F = plainL v := by
  have W0 := prP_ne h 5 (by omega)
  have all := fun {k} => all_six h5 h.inc h.low hf f6 (k := k)
  have rel : ∀ k, k < 6 → vc v f * vc F k = prP R S 5 * vc v k := fun k k6 => by
    by_cases kf : k = f
    · rw [kf, e1, Int.mul_comm]
    · obtain ⟨i, i5, rfl⟩ := all k6 kf
      have p0 := h.piv i (by omega)
      have ri := h.ker _ (getR_in (i := i) (by rw [h.len]; omega))
      have two : dt (vc v) (vc (R.getD i [])) = vc v (S.getD i 0) * vc (R.getD i []) (S.getD i 0) + vc v f * vc (R.getD i []) f := by
        unfold dt
        refine sm_two 6 k6 f6 kf fun m m6 m1 m2 => ?_
        obtain ⟨l, l5, rfl⟩ := all m6 m2
        rw [h.zer l i (by omega) (by omega) (fun z => m1 (by rw [z])), Int.mul_zero]
      rw [two] at ri
      obtain ⟨w, hw⟩ := prP_dvd R S 5 i i5
      rw [e2 i i5, hw]
      generalize vc (R.getD i []) (S.getD i 0) = p at *
      generalize vc (R.getD i []) f = r at *
      rw [show r * (p * w) = r * w * p by grind, Int.mul_fdiv_cancel _ p0]
      generalize vc v (S.getD i 0) = x at *
      generalize vc v f = y at *
      have : y * r = - (x * p) := by omega
      grind
  have f0 : vc v f ≠ 0 := fun z => by
    refine hz ?_
    have all0 : ∀ k, k < 6 → vc v k = 0 := fun k k6 => by
      have := rel k k6
      rw [z, Int.zero_mul] at this
      exact (Int.mul_eq_zero.mp this.symm).resolve_left W0
    unfold nz
    refine List.filter_eq_nil_iff.mpr fun y hy => ?_
    obtain ⟨k, hk, rfl⟩ := List.mem_iff_getElem.mp hy
    have := all0 k (by omega)
    unfold vc at this
    rw [List.getD_eq_getElem?_getD, List.getElem?_eq_getElem hk] at this
    have this : v[k] = 0 := this
    rw [this]
    decide
  have em : F.map (fun x => vc v f * x) = v.map fun x => prP R S 5 * x := by
    refine List.ext_getElem (by rw [List.length_map, List.length_map, F6, v6]) fun k k1 k2 => ?_
    rw [List.getElem_map, List.getElem_map]
    rw [List.length_map] at k1 k2
    have := rel k (by omega)
    unfold vc at this
    rw [List.getD_eq_getElem?_getD (l := F), List.getElem?_eq_getElem k1, List.getD_eq_getElem?_getD (l := v) (i := k), List.getElem?_eq_getElem k2] at this
    exact this
  rw [← plainL_mul f0 F, em, plainL_mul W0]
theorem log_ten {n : Nat} {x : Int} (h : x.natAbs < 10 ^ n) : x.natAbs.log2 ≤ 10 * (n / 3 + 1) := by
  have e : 10 ^ n ≤ 2 ^ (10 * (n / 3 + 1)) := by
    rw [Nat.pow_mul]
    refine Nat.le_trans (Nat.pow_le_pow_right (by decide) (show n ≤ 3 * (n / 3 + 1) by omega)) ?_
    rw [Nat.pow_mul]
    exact Nat.pow_le_pow_left (by decide) _
  exact log2_lt_of (Nat.lt_of_lt_of_le h (Nat.le_trans e (Nat.pow_le_pow_right (by decide) (Nat.le_succ _))))
theorem prP_bd {v : List Int} {s : Nat} {R : List (List Int)} {S : List Nat} (h : GJ v s R S) (hS : ∀ i ∈ S, i < 6) : ∀ n, n ≤ S.length → (prP R S n).natAbs < 10 ^ (n * rkG S.length + 1)
  | 0, _ => by
    rw [Nat.zero_mul]
    show (1 : Int).natAbs < 10 ^ (0 + 1)
    decide
  | n + 1, hn => by
    have a := prP_bd h hS n (by omega)
    have few := h.few
    have b : (vc (R.getD n []) (S.getD n 0)).natAbs < 10 ^ rkG S.length := by
      by_cases n7 : n < 7
      · have m := getR_in (R := R) (i := n) (by rw [h.len]; exact n7)
        exact h.bd _ m _ (getD_mem (by rw [h.six _ m]; exact hS _ (getD_in (by omega))))
      · have : R.getD n [] = [] := by
          rw [List.getD_eq_getElem?_getD, List.getElem?_eq_none (by rw [h.len]; omega)]
          rfl
        rw [this]
        exact Nat.pow_pos (by decide)
    have := bd_mul a b
    rw [show n * rkG S.length + 1 + rkG S.length = (n + 1) * rkG S.length + 1 by rw [Nat.succ_mul]; omega] at this
    exact this
end DL

namespace DL
open PySem PySem.Spec PyProof.Rows L2 Evl
/-! ## the place of a row behind a start -/
/-- where d stands among ds from place i on -/
structure PlaceOf (ds : List PyData) (d : PyData) (i j : Nat) : Prop where
  behind : i ≤ j
  here : ∃ z, ds[j]? = some z ∧ PyData.eqv z d = true
  first : ∀ (m : Nat) (u : PyData), i ≤ m → m < j → ds[m]? = some u → PyData.eqv u d = false
def rPlace (K : PySem.W.Frag) : V → List V → Hp → VK → Prop := fun x xs H Q => ∃ (a : Addr) (y : V) (d : PyData) (ds : List PyData) (i j : Nat), (x = .ref a ∧ xs = [y, .int (i : Int)]) ∧ (Dp K H (.ref a) (.list ds) ∧ Dp K H y d) ∧
  (SeqAt.shaped (.list ds) = true ∧ SeqAt.shaped d = true) ∧ PlaceOf ds d i j ∧ Q (.int (j : Int)) H
theorem mt_place {X : Cx} (room : X.A.units + 65 < cLine) : MtR X "list.index" (rPlace X.K) := by
  rintro pins s σ H x xs v us Q I rx rxs ⟨a, y, d, ds, i, j, ⟨rfl, rfl⟩, ⟨dl, dy⟩, ⟨sl, sd⟩, P, q⟩
  cases rx
  obtain ⟨uy, ui, rfl, ry, ri⟩ : ∃ uy ui, us = [uy, ui] ∧ RelV y uy ∧ RelV (.int (i : Int)) ui := by
    cases rxs with
    | cons h t =>
      cases t with
      | cons h2 t2 =>
        cases t2
        exact ⟨_, _, rfl, h, h2⟩
  obtain ⟨t, rfl⟩ := (show ∃ t, ui = Value.int (i : Int) t from ri)
  obtain ⟨bs, reads⟩ := Dp.reads I d y uy dy ry
  have lay := SeqAt.canLay_of_shaped sl
  have fits : X.A.units + 1 + min (PyData.depthAll ds) d.depth < cLine := room_in_shaped sd room
  obtain ⟨z, hz, hit⟩ := P.here
  cases dl with
  | lst hs ha =>
    obtain ⟨its, rv, ⟨⟨cls, dd, data, sls⟩, n, ho, hc, hdn, hdt⟩, hlen⟩ := I.list hs
    simp only at hc hdt
    subst hc
    subst hdt
    obtain ⟨as, all⟩ := Dp.readsAll I ds _ its ha rv
    have cnt : its.length = ds.length := SeqAt.ReadsAll.length ds its as all
    have told : its.map (SeqAt.readOf s.heap) = ds := SeqAt.readsAll_map ds its as lay all
    have jd : j < ds.length := (List.getElem?_eq_some_iff.mp hz).1
    have jl : j < its.toArray.size := by rw [List.size_toArray]; omega
    have vl := rv.length
    have most := sizeLine_eq
    have at_ : ∀ (m : Nat) (hm : m < its.toArray.size) (u : PyData), ds[m]? = some u → SeqAt.readOf s.heap its.toArray[m] = u := fun m hm u hu => by
      have hm' : m < its.length := by rw [List.size_toArray] at hm; exact hm
      rw [← told, List.getElem?_map, List.getElem?_eq_getElem hm'] at hu
      have := Option.some.inj (show some (SeqAt.readOf s.heap its[m]) = some u from hu)
      simpa using this
    have each := SeqAt.items_eqAt (vs := its.toArray) (show ReadsAll s.heap its.toArray.toList ds as from all) reads lay (SeqAt.canLay_of_shaped sd) fits
    let e : Nat → Bool := fun m => if h : m < its.toArray.size then PyData.eqv (SeqAt.readOf s.heap its.toArray[m]) d else false
    have ee : ∀ (m : Nat) (hm : m < its.toArray.size), e m = PyData.eqv (SeqAt.readOf s.heap its.toArray[m]) d := fun m hm => dif_pos hm
    refine call_meets PySem.F.slot_list_index ⟨_, ho, rfl⟩ PySem.F.entry_list_index (PySem.F.args_list_index_3 _ _ _)
      (SeqAt.list_index3_found a its.toArray n dd sls uy e (i : Int) t j jl (by rw [SeqAt.searchFrom_nat]; exact P.behind) (by rw [List.size_toArray] at jl; omega) ?_ ?_) ⟨ho, fun m hm => ?_, ?_⟩
    · rw [ee j jl, at_ j jl z hz]
      exact hit
    · intro m hm lo hi
      rw [SeqAt.searchFrom_nat] at lo
      have hmd : m < ds.length := by rw [List.size_toArray] at hm; omega
      rw [ee m hm, at_ m hm _ (List.getElem?_eq_getElem hmd)]
      exact P.first m _ lo hi (List.getElem?_eq_getElem hmd)
    · rw [ee m hm]
      exact each _ (Array.getElem_mem hm)
    · exact ⟨.int (j : Int), H, I.tok _, ⟨_, rfl⟩, q⟩
section
variable {G : Gs} {B0 : Hp} {ρ : Ro} {O : Ow} {κ : D → Ow → Prop}
theorem le_place {to : TE} {t : TA} (h : LE G B0 to ρ O fun x O1 => ∃ ds, x = .py (.list ds) ∧ LA G B0 t ρ O1 fun xs O2 => ∃ (d : PyData) (i j : Nat), xs = [.py d, .py (.int (i : Int))] ∧ (SeqAt.shaped (.list ds) = true ∧ SeqAt.shaped d = true) ∧ PlaceOf ds d i j ∧ κ (.py (.int (j : Int))) O2) :
    LE G B0 (tBM G.K "list" (rPlace G.K) to t) ρ O κ := fun B H σ s st Q q =>
  h B H σ s st _ fun v x B1 H1 O1 ⟨ds, ex, arg⟩ e1 s1 r1 => by
    subst ex
    obtain ⟨a, vs, rfl, h1, h2, _⟩ := lst_of s1 r1 rfl
    refine ⟨.inl ⟨rfl, vs, h1⟩, arg B1 H1 σ s1 (st.mono e1) _ fun us xs B2 H2 O2 ⟨d, i, j, exs, ⟨sl, sd⟩, P, k⟩ e2 s2 r2 => ?_⟩
    subst exs
    obtain ⟨w, y, rfl, rw', ry⟩ := two_inv r2
    rw [Dd.int_inv ry]
    exact ⟨a, w, d, ds, i, j, ⟨rfl, rfl⟩, ⟨dp_of s2 (show Rp G B2 (.ref a) (.py (.list ds)) from Dd.mono e2 r1) rfl (nd_sh sl), dp_of s2 rw' rfl (nd_sh sd)⟩, ⟨sl, sd⟩, P, q _ (.py (.int (j : Int))) B2 _ _ k (e1.trans e2) s2 (show Dd _ _ _ _ from .int _)⟩
/-- a list so many times, a new one that will be changed -/
theorem lr_repW {x : D} {ds : List PyData} {n : Int} (isList : asPy O x = some (.list ds)) (unscripted : ∀ ns, x ≠ .sc ns) (low : -1000000 < n) (high : n < 1000000) (few : ds.length * n.toNat ≤ 100000)
    (k : ∀ p, O p = none → κ (.own p) (oset O p (List.replicate n.toNat ds).flatten)) : LR G B0 rMulU x (.py (.int n)) O κ := fun B H v w s r1 r2 Q q => by
  obtain ⟨a, vs, rfl, _, all, where_⟩ := lst_of s r1 isList
  rw [Dd.int_inv r2]
  refine .inr ⟨a, n, vs, rfl, rfl, where_.resolve_left (fun ⟨ns, e⟩ => unscripted ns e), by omega, by omega, sz_of (by rw [all.len]; exact few), fun p free => ?_⟩
  have unowned : O p = none := by
    cases own : O p with
    | none => rfl
    | some es =>
      obtain ⟨_, us, g2, _⟩ := s.ow p es own
      rw [free] at g2
      cases g2
  exact q _ _ B _ _ (k p unowned) (Ex.refl B) (s.newO free (dd_rep all n.toNat)) rfl
end
end DL

namespace DL
open PySem PySem.Spec PyProof.Rows L2 Evl

local macro_rules | `(tactic| walk_at "le") => `(tactic| first
  | (with_reducible refine le_int ?_)
  | (with_reducible refine le_str ?_)
  | (with_reducible refine le_bl ?_)
  | (with_reducible refine le_non ?_)
  | ((with_reducible refine' le_var ?hv ?_); (case hv => exact rfl); all_goals skip)
  | (with_reducible refine le_raw ?_)
  | (with_reducible refine le_op ?_)
  | (with_reducible refine le_un ?_)
  | (with_reducible refine le_cb ?_)
  | (with_reducible refine la_cons ?_)
  | (with_reducible refine la_nil ?_)
  | (with_reducible refine le_tup ?_)
  | (with_reducible refine le_lst ?_)
  | (with_reducible refine le_if ?_)
  | (with_reducible refine lt_test ?_)
  | (with_reducible refine lt_and ?_)
  | (with_reducible refine lt_or ?_)
  | (with_reducible refine lt_not ?_)
  | (with_reducible refine lt_tr ?_)
  | (with_reducible refine lt_yes ?_)
  | (with_reducible refine le_andV ?_)
  | (with_reducible refine le_orV ?_)
  | (with_reducible refine le_notV ?_)
  | (with_reducible refine le_sl ?_)
  | (with_reducible refine lo_none ?_)
  | (with_reducible refine lo_some ?_)
  | (with_reducible refine lr_add ?_)
  | ((with_reducible refine' lr_cat ?hx ?hy ?nx ?ny ?hl ?_); (case hx => exact rfl); (case hy => exact rfl); (case nx => exact fun _ z => nomatch z); (case ny => exact fun _ z => nomatch z); (case hl => exact Nat.le_of_ble_eq_true rfl); all_goals skip)
  | ((with_reducible refine le_disp1 ?hs ?_); (case hs => first | exact .int _ | exact .str _ | exact .non | exact .bl _))
  | (with_reducible refine lr_sub ?_)
  | ((with_reducible refine lr_mul ?hs ?_); (case hs => first | exact mulW (big_of (by omega)) (big_of (by omega)) | exact mulW bd_big bd_big))
  | ((with_reducible refine lr_fdiv ?hs ?_); (case hs => exact divU (by omega) (sml_of (by omega))))
  | ((with_reducible refine lr_powL ?hs ?_); (case hs => exact powU (big_of (by omega)) (by decide) (by decide)))
  | ((with_reducible refine lr_pow ?hs ?_); (case hs => exact powU (big_of (by omega)) (by decide) (by decide)))
  | (with_reducible refine lr_lt ?_)
  | (with_reducible refine lr_le ?_)
  | (with_reducible refine lr_gt ?_)
  | (with_reducible refine lr_ge ?_)
  | (with_reducible refine lr_eqI ?_)
  | (with_reducible refine lr_neI ?_)
  | (with_reducible refine lr_eqS ?_)
  | (with_reducible refine lr_neS ?_)
  | ((with_reducible refine' lr_ix ?hx ?hi ?_); (case hx => first | exact asOwn (by assumption) | exact asOwn oset_same | exact rfl); (case hi => exact rfl); all_goals skip)
  | ((with_reducible refine' lr_ixT ?hi ?_); (case hi => exact rfl); all_goals skip)
  | (with_reducible refine lu_neg ?_)
  | (with_reducible refine lc_int ?_)
  | (with_reducible refine lc_abs ?_)
  | (with_reducible refine lc_mx ?_)
  | (with_reducible refine lc_mn ?_)
  | (with_reducible refine lc_gcd ?_)
  | (with_reducible refine lc_lenT ?_)
  | ((with_reducible refine' lc_len ?hv ?_); (case hv => first | exact asOwn (by assumption) | exact asOwn oset_same | exact rfl); all_goals skip)
  | (with_reducible refine ls_seq ?_)
  | (with_reducible refine ls_set ?_)
  | (with_reducible refine ls_par ?_)
  | (with_reducible refine ls_par3 ?_)
  | (with_reducible refine ls_asg ?_)
  | (with_reducible refine ls_ret ?_)
  | (with_reducible refine ls_retN ?_)
  | (with_reducible refine ls_drop ?_)
  | (with_reducible refine ls_if ?_)
  | (with_reducible refine ls_next ?_)
  | (with_reducible refine lg_name ?_)
  | ((with_reducible refine lg_tup ?hn ?_); (case hn => exact rfl))
  | ((with_reducible refine lg_unl ?hn ?_); (case hn => exact rfl))
  | (with_reducible refine lg_sub ?_)
  | ((with_reducible show LGs _ _ _ _ _ _ _); first | refine lgs_cons ?_ | refine lgs_nil ?_)
  | (with_reducible refine le_call ?_)
  | (with_reducible refine le_callG ?_)
  | (with_reducible refine le_kw0 ?_)
  | (with_reducible refine ifT ?_)
  | (with_reducible refine ifF ?_)
  | (with_reducible refine ifNT ?_)
  | (with_reducible refine ifNF ?_)
  | (with_reducible refine py_cons ?_)
  | (with_reducible refine py_nil ⟨lenk rfl, ?_⟩)
  | (refine ⟨_, rfl, ?_⟩)
  | (refine ⟨_, _, rfl, ?_⟩)
  | (refine ⟨_, _, _, rfl, ?_⟩))
local macro_rules | `(tactic| walk_at "st") => `(tactic| (refine' ⟨_, _, _, _, _, rfl, rfl, rfl, ?hv, ?hw, ?_⟩; (case hv => first | assumption | exact oset_same); (case hw => exact rfl); all_goals skip))
local macro_rules | `(tactic| walk_at "l") => `(tactic| repeat walk_at "le")
local macro_rules | `(tactic| walk_at "k") => `(tactic| repeat ((fail_if_success (with_reducible refine le_if ?_)); (fail_if_success (with_reducible refine ls_if ?_)); walk_at "le"))
local macro_rules | `(tactic| walk_at "d") => `(tactic| (refine' ⟨_, _, _, _, rfl, ?hv, ?hw, ?h1, ?h2, ?h3, ?_⟩; (case hv => first | exact oset_same | assumption | (rw [oset_ne (by assumption)]; exact oset_same)); (case hw => assumption); (case h1 => omega); (case h2 => omega); (case h3 => omega); all_goals skip))
local macro_rules | `(tactic| walk_at "ok") => `(tactic| repeat' (first | (with_reducible refine okR_tup ?_) | (with_reducible refine okR_lst ?_) | (with_reducible exact okRs_nil) | (with_reducible refine okRs_cons ?_ ?_) | (with_reducible exact okR_str) | (with_reducible exact okR_bool) | (with_reducible exact okR_none) | exact ok_int (by omega)))
local macro_rules | `(tactic| walk_at "all") => `(tactic| repeat' (first | (refine all_app ?_ ?_) | (refine all_cons ?_ ?_) | (exact all_nil)))

local macro_rules | `(tactic| walk_at "n") => `(tactic| first
  | ((with_reducible show LE _ _ _ _ _ _); first
    | (with_reducible refine le_int ?_)
    | (with_reducible refine le_str ?_)
    | (with_reducible refine le_bl ?_)
    | (with_reducible refine le_non ?_)
    | ((with_reducible refine' le_varN ?hv ?_); (case hv => ((repeat (with_reducible apply GetAt.s)); with_reducible exact GetAt.z)); all_goals skip)
    | ((with_reducible refine' le_var ?hv ?_); (case hv => exact rfl); all_goals skip)
    | (with_reducible refine le_raw ?_)
    | (with_reducible refine le_op ?_)
    | (with_reducible refine le_un ?_)
    | (with_reducible refine le_bits ?_)
    | (with_reducible refine le_split ?_)
    | (with_reducible refine le_sortP ?_)
    | (with_reducible refine le_sortSet ?_)
    | (with_reducible refine le_cb ?_)
    | (with_reducible refine le_tup ?_)
    | (with_reducible refine le_lst ?_)
    | (with_reducible refine le_if ?_)
    | (with_reducible refine le_andV ?_)
    | (with_reducible refine le_orV ?_)
    | (with_reducible refine le_notV ?_)
    | (with_reducible refine le_slT ?_)
    | (with_reducible refine le_sl ?_)
    | ((with_reducible refine le_disp1 ?hs ?_); (case hs => first | exact .int _ | exact .str _ | exact .non | exact .bl _))
    | (with_reducible refine le_call ?_)
    | (with_reducible refine le_callG ?_)
    | (with_reducible refine le_kw0 ?_))
  | ((with_reducible show LA _ _ _ _ _ _); first
    | (with_reducible refine la_cons ?_)
    | (with_reducible refine la_nil ?_))
  | ((with_reducible show LT _ _ _ _ _ _); first
    | (with_reducible refine lt_test ?_)
    | (with_reducible refine lt_and ?_)
    | (with_reducible refine lt_or ?_)
    | (with_reducible refine lt_not ?_)
    | (with_reducible refine lt_tr ?_)
    | (with_reducible refine lt_yes ?_))
  | ((with_reducible show LR _ _ _ _ _ _ _); first
    | (with_reducible refine lr_mulS ?_)
    | (with_reducible refine lr_add ?_)
    | ((with_reducible refine' lr_cat ?hx ?hy ?nx ?ny ?hl ?_); (case hx => exact rfl); (case hy => exact rfl); (case nx => exact fun _ z => nomatch z); (case ny => exact fun _ z => nomatch z); (case hl => exact Nat.le_of_ble_eq_true rfl); all_goals skip)
    | (with_reducible refine lr_sub ?_)
    | ((with_reducible refine lr_mul ?hs ?_); (case hs => first | exact mulW (big_of (by omega)) (big_of (by omega)) | exact mulW bd_big bd_big))
    | ((with_reducible refine lr_fdiv ?hs ?_); (case hs => exact divU (by omega) (sml_of (by omega))))
    | ((with_reducible refine lr_powL ?hs ?_); (case hs => exact powU (big_of (by omega)) (by decide) (by decide)))
    | ((with_reducible refine lr_pow ?hs ?_); (case hs => exact powU (big_of (by omega)) (by decide) (by decide)))
    | (with_reducible refine lr_lt ?_)
    | (with_reducible refine lr_le ?_)
    | (with_reducible refine lr_gt ?_)
    | (with_reducible refine lr_ge ?_)
    | (with_reducible refine lr_eqI ?_)
    | (with_reducible refine lr_neI ?_)
    | (with_reducible refine lr_eqS ?_)
    | (with_reducible refine lr_neS ?_)
    | ((with_reducible refine' lr_ix ?hx ?hi ?_); (case hx => first | exact asOwn (by assumption) | exact asOwn oset_same | exact rfl); (case hi => exact rfl); all_goals skip)
    | ((with_reducible refine' lr_ixT ?hi ?_); (case hi => exact rfl); all_goals skip))
  | ((with_reducible show LU _ _ _ _ _ _); first
    | (with_reducible refine lu_neg ?_))
  | ((with_reducible show LC _ _ _ _ _ _); first
    | (with_reducible refine lc_intB ?_)
    | (with_reducible refine lc_int ?_)
    | (with_reducible refine lc_abs ?_)
    | (with_reducible refine lc_mx ?_)
    | (with_reducible refine lc_mn ?_)
    | (with_reducible refine lc_gcd ?_)
    | (with_reducible refine lc_lenT ?_)
    | ((with_reducible refine' lc_len ?hv ?_); (case hv => first | exact asOwn (by assumption) | exact asOwn oset_same | exact rfl); all_goals skip))
  | ((with_reducible show LO _ _ _ _ _ _); first
    | (with_reducible refine lo_none ?_)
    | (with_reducible refine lo_some ?_))
  | ((with_reducible show LS _ _ _ _ _ _ _ _ _); first
    | (with_reducible refine ls_seq ?_)
    | ((with_reducible show LS _ _ _ (_ :: _) _ _ _ _ _); (with_reducible refine ls_setN ?_))
    | ((with_reducible show LS _ _ _ (_ :: _) _ _ _ _ _); (with_reducible refine ls_parN ?_))
    | ((with_reducible show LS _ _ _ (_ :: _) _ _ _ _ _); (with_reducible refine ls_par3N ?_))
    | (with_reducible refine ls_set ?_)
    | (with_reducible refine ls_par ?_)
    | (with_reducible refine ls_par3 ?_)
    | (with_reducible refine ls_asg ?_)
    | (with_reducible refine ls_ret ?_)
    | (with_reducible refine ls_retN ?_)
    | (with_reducible refine ls_drop ?_)
    | (with_reducible refine ls_if ?_)
    | (with_reducible refine ls_next ?_))
  | ((with_reducible show LG _ _ _ _ _ _ _); first
    | ((with_reducible refine' lg_nameN ?hs ?_); (case hs => ((repeat (with_reducible apply SetAt.s)); with_reducible exact SetAt.z)); all_goals skip)
    | (with_reducible refine lg_name ?_)
    | ((with_reducible refine lg_tup ?hn ?_); (case hn => exact rfl))
    | ((with_reducible refine lg_unl ?hn ?_); (case hn => exact rfl))
    | (with_reducible refine lg_sub ?_))
  | ((with_reducible show LGs _ _ _ _ _ _ _); first | refine lgs_cons ?_ | refine lgs_nil ?_)
  | ((with_reducible refine' ex_set ?hs ?_); (case hs => first | ((repeat (with_reducible apply SetAt.s)); with_reducible exact SetAt.z) | (exact SetAt.of (Nat.le_of_ble_eq_true rfl))); all_goals skip)
  | (with_reducible refine ifT ?_)
  | (with_reducible refine ifF ?_)
  | (with_reducible refine ifNT ?_)
  | (with_reducible refine ifNF ?_)
  | (with_reducible refine py_cons ?_)
  | (with_reducible refine py_nil ⟨lenk rfl, ?_⟩)
  | (refine ⟨_, rfl, ?_⟩)
  | (refine ⟨_, _, rfl, ?_⟩)
  | (refine ⟨_, _, _, rfl, ?_⟩))
local macro_rules | `(tactic| walk_at "m") => `(tactic| first
  | ((with_reducible show LE _ _ _ _ _ _); first
    | (with_reducible refine le_int ?_)
    | (with_reducible refine le_str ?_)
    | (with_reducible refine le_bl ?_)
    | (with_reducible refine le_non ?_)
    | ((with_reducible refine' le_varN ?hv ?_); (case hv => ((repeat (with_reducible apply GetAt.s)); with_reducible exact GetAt.z)); all_goals skip)
    | ((with_reducible refine' le_var ?hv ?_); (case hv => exact rfl); all_goals skip)
    | (with_reducible refine le_raw ?_)
    | (with_reducible refine le_op ?_)
    | (with_reducible refine le_un ?_)
    | (with_reducible refine le_bits ?_)
    | (with_reducible refine le_split ?_)
    | (with_reducible refine le_sortP ?_)
    | (with_reducible refine le_sortSet ?_)
    | (with_reducible refine le_cb ?_)
    | (with_reducible refine le_tup ?_)
    | (with_reducible refine le_lst ?_)
    | (with_reducible refine le_if ?_)
    | (with_reducible refine le_andV ?_)
    | (with_reducible refine le_orV ?_)
    | (with_reducible refine le_notV ?_)
    | (with_reducible refine le_slT ?_)
    | (with_reducible refine le_sl ?_)
    | ((with_reducible refine le_disp1 ?hs ?_); (case hs => first | exact .int _ | exact .str _ | exact .non | exact .bl _))
    | (with_reducible refine le_call ?_)
    | (with_reducible refine le_callG ?_)
    | (with_reducible refine le_kw0 ?_))
  | ((with_reducible show LA _ _ _ _ _ _); first
    | (with_reducible refine la_cons ?_)
    | (with_reducible refine la_nil ?_))
  | ((with_reducible show LT _ _ _ _ _ _); first
    | (with_reducible refine lt_test ?_)
    | (with_reducible refine lt_and ?_)
    | (with_reducible refine lt_or ?_)
    | (with_reducible refine lt_not ?_)
    | (with_reducible refine lt_tr ?_)
    | (with_reducible refine lt_yes ?_))
  | ((with_reducible show LR _ _ _ _ _ _ _); first
    | (with_reducible refine lr_mulS ?_)
    | (with_reducible refine lr_add ?_)
    | ((with_reducible refine' lr_cat ?hx ?hy ?nx ?ny ?hl ?_); (case hx => exact rfl); (case hy => exact rfl); (case nx => exact fun _ z => nomatch z); (case ny => exact fun _ z => nomatch z); (case hl => exact Nat.le_of_ble_eq_true rfl); all_goals skip)
    | (with_reducible refine lr_sub ?_)
    | ((with_reducible refine lr_mul ?hs ?_); (case hs => first | exact mulW (big_of (by omega)) (big_of (by omega)) | exact mulW bd_big bd_big))
    | ((with_reducible refine lr_fdiv ?hs ?_); (case hs => exact divU (by omega) (sml_of (by omega))))
    | ((with_reducible refine lr_powL ?hs ?_); (case hs => exact powU (big_of (by omega)) (by decide) (by decide)))
    | ((with_reducible refine lr_pow ?hs ?_); (case hs => exact powU (big_of (by omega)) (by decide) (by decide)))
    | (with_reducible refine lr_lt ?_)
    | (with_reducible refine lr_le ?_)
    | (with_reducible refine lr_gt ?_)
    | (with_reducible refine lr_ge ?_)
    | (with_reducible refine lr_eqI ?_)
    | (with_reducible refine lr_neI ?_)
    | (with_reducible refine lr_eqS ?_)
    | (with_reducible refine lr_neS ?_)
    | ((with_reducible refine' lr_ix ?hx ?hi ?_); (case hx => first | exact asOwn (by assumption) | exact asOwn oset_same | exact rfl); (case hi => exact rfl); all_goals skip)
    | ((with_reducible refine' lr_ixT ?hi ?_); (case hi => exact rfl); all_goals skip))
  | ((with_reducible show LU _ _ _ _ _ _); first
    | (with_reducible refine lu_neg ?_))
  | ((with_reducible show LC _ _ _ _ _ _); first
    | (with_reducible refine lc_intB ?_)
    | (with_reducible refine lc_int ?_)
    | (with_reducible refine lc_abs ?_)
    | (with_reducible refine lc_mx ?_)
    | (with_reducible refine lc_mn ?_)
    | (with_reducible refine lc_gcd ?_)
    | (with_reducible refine lc_lenT ?_)
    | ((with_reducible refine' lc_len ?hv ?_); (case hv => first | exact asOwn (by assumption) | exact asOwn oset_same | exact rfl); all_goals skip))
  | ((with_reducible show LO _ _ _ _ _ _); first
    | (with_reducible refine lo_none ?_)
    | (with_reducible refine lo_some ?_))
  | ((with_reducible show LS _ _ _ _ _ _ _ _ _); first
    | (with_reducible refine ls_seq ?_)
    | ((with_reducible show LS _ _ _ (_ :: _) _ _ _ _ _); (with_reducible refine ls_setN ?_))
    | ((with_reducible show LS _ _ _ (_ :: _) _ _ _ _ _); (with_reducible refine ls_parN ?_))
    | ((with_reducible show LS _ _ _ (_ :: _) _ _ _ _ _); (with_reducible refine ls_par3N ?_))
    | (with_reducible refine ls_set ?_)
    | (with_reducible refine ls_par ?_)
    | (with_reducible refine ls_par3 ?_)
    | (with_reducible refine ls_asg ?_)
    | (with_reducible refine ls_ret ?_)
    | (with_reducible refine ls_retN ?_)
    | (with_reducible refine ls_drop ?_)
    | (with_reducible refine ls_if ?_)
    | (with_reducible refine ls_next ?_))
  | ((with_reducible show LG _ _ _ _ _ _ _); first
    | ((with_reducible refine' lg_nameN ?hs ?_); (case hs => ((repeat (with_reducible apply SetAt.s)); with_reducible exact SetAt.z)); all_goals skip)
    | (with_reducible refine lg_name ?_)
    | ((with_reducible refine lg_tup ?hn ?_); (case hn => exact rfl))
    | ((with_reducible refine lg_unl ?hn ?_); (case hn => exact rfl))
    | (with_reducible refine lg_sub ?_))
  | ((with_reducible show LGs _ _ _ _ _ _ _); first | refine lgs_cons ?_ | refine lgs_nil ?_)
  | ((with_reducible refine' ex_set ?hs ?_); (case hs => first | ((repeat (with_reducible apply SetAt.s)); with_reducible exact SetAt.z) | (exact SetAt.of (Nat.le_of_ble_eq_true rfl))); all_goals skip)
  | (with_reducible refine ifT ?_)
  | (with_reducible refine ifF ?_)
  | (with_reducible refine ifNT ?_)
  | (with_reducible refine ifNF ?_)
  | (with_reducible refine py_cons ?_)
  | (with_reducible refine py_nil ⟨lenk rfl, ?_⟩))
local macro_rules | `(tactic| walk_at "a") => `(tactic| repeat walk_at "m")
local macro_rules | `(tactic| walk_at "s") => `(tactic| simp only [startR, List.map_cons, List.map_nil, List.length_cons, List.length_nil, List.cons_append, List.nil_append, Nat.reduceSub, Nat.reduceAdd, List.replicate_succ, List.replicate_zero, List.replicate])
local macro_rules | `(tactic| walk_at "b") => `(tactic| repeat (first | ((with_reducible refine' if_n ?hc ?_); (case hc => decide)) | ((with_reducible refine' if_y ?hc ?_); (case hc => decide)) | ((with_reducible refine' if_ny ?hc ?_); (case hc => decide)) | ((with_reducible refine' if_nn ?hc ?_); (case hc => decide)) | walk_at "n"))
local macro_rules | `(tactic| walk_at "w") => `(tactic| repeat walk_at "n")
local macro_rules | `(tactic| walk_at "v") => `(tactic| repeat ((fail_if_success (with_reducible refine le_if ?_)); (fail_if_success (with_reducible refine ls_if ?_)); walk_at "n"))
local macro_rules | `(tactic| walk_at "u") => `(tactic| repeat ((fail_if_success (with_reducible show LS _ _ (tSeq (tIfS _ _ _) _) _ _ _ _ _ _)); walk_at "n"))
local macro_rules | `(tactic| walk_at "c") => `(tactic| repeat ((fail_if_success (with_reducible show LS _ _ (tSeq _ _) _ _ _ _ _ _)); walk_at "n"))

/-! ### law_pool -/
abbrev N_law_pool : List Str := ["script", "spot", "cell"]
def t_law_pool (G : Gs) (a : Ad) : TS :=
  (tSeq (tAsg (tC (.int 0)) (gName 2))
    (tSeq (tIfS (tTest (tOp rLt (tVar 1) (tCB (rLen G.K) (tCons (tVar 0) tNil)))) (tAsg (tOp (rIx G.K) (tVar 0) (tVar 1)) (gName 2)) tNext)
    (tRet (tLst (tCons (tCB rMx (tCons (tC (.int 0)) (tCons (tOp rSubU (tCB (rAbs) (tCons (tVar 2) tNil)) (tOp rPowU (tC (.int 10)) (tC (.int 18)))) tNil))) (tCons (tOp rAddU (tOp rModU (tCB (rInt1) (tCons (tVar 2) tNil)) (tC (.int 2305843009213693951))) (tOp rMulU (tC (.int 7368787)) (tOp rAddU (tVar 1) (tC (.int 1))))) (tCons (tC (.int 0)) tNil)))))))
def F_law_pool (a : Ad) : DSp := fun ds O κ _ => ∃ (ns : List Int) (spot : Int), ds = [.sc ns, .py (.int spot)] ∧ 0 ≤ spot ∧ spot ≤ 100 ∧ ∀ p q, O p = none → PoolL q 0 → κ (.own p) (oset O p q)
theorem len_law_pool (a : Ad) : ∀ ds O κ ε, F_law_pool a ds O κ ε → ds.length = (["script", "spot"] : List Str).length := by
  rintro _ O κ ε ⟨ns, spot, rfl, _⟩
  rfl
theorem pool_end {G : Gs} {B0 : Hp} {ρ : Ro} {O : Ow} {R : D → Ow → Prop} {N Bk Ct : Ro → Ow → Prop} {cell spot : Int} (h1 : ρ[1]? = some (some (.py (.int spot)))) (h2 : ρ[2]? = some (some (.py (.int cell)))) (h3 : 0 ≤ spot) (h4 : spot ≤ 100)
    (k : ∀ p q, O p = none → PoolL q 0 → R (.own p) (oset O p q)) : LS G B0 (tRet (tLst (tCons (tCB rMx (tCons (tC (.int 0)) (tCons (tOp rSubU (tCB (rAbs) (tCons (tVar 2) tNil)) (tOp rPowU (tC (.int 10)) (tC (.int 18)))) tNil)))
      (tCons (tOp rAddU (tOp rModU (tCB (rInt1) (tCons (tVar 2) tNil)) (tC (.int 2305843009213693951))) (tOp rMulU (tC (.int 7368787)) (tOp rAddU (tVar 1) (tC (.int 1))))) (tCons (tC (.int 0)) tNil))))) ρ O N R Bk Ct := by
  refine ls_ret (le_lstO ?_)
  walk_at "l"
  refine le_var h2 ?_
  walk_at "l"
  refine le_var h2 ?_
  walk_at "l"
  refine lr_modr (by omega) fun r h0 h1' => ?_
  walk_at "l"
  refine le_var h1 ?_
  walk_at "l"
  refine fun p hp => k p _ hp ⟨_, _, _, rfl, ?_, by omega, by omega, by omega, by omega⟩
  omega
theorem ls_law_pool {G : Gs} {a : Ad} : ∀ (B0 : Hp) ds O κ ε, F_law_pool a ds O κ ε → LS G B0 (t_law_pool G a) (startR N_law_pool ds) O (fun _ O' => κ (.py .none) O') κ (fun _ _ => False) (fun _ _ => False) := by
  rintro B0 _ O κ ε ⟨ns, spot, rfl, h0, h1, k⟩
  unfold t_law_pool
  walk_at "l"
  refine if_dec (fun h => ?_) (fun h => ?_)
  · obtain ⟨cell, hc⟩ := atI_ints (ns := ns) h0 (by rw [List.length_map] at h; exact h)
    walk_at "l"
    refine lr_ix rfl hc ?_
    refine pool_end (cell := cell) ?_ ?_ h0 h1 k
    all_goals rfl
  · walk_at "le"
    refine pool_end (cell := 0) ?_ ?_ h0 h1 k
    all_goals rfl

/-! ### law_draw -/
abbrev N_law_draw : List Str := ["pool", "span", "drawn", "mixed"]
def t_law_draw (G : Gs) (a : Ad) : TS :=
  (tSeq (tIfS (tTest (tOp rGt (tOp (rIx G.K) (tVar 0) (tC (.int 0))) (tC (.int 0)))) (tSeq (tAsg (tOp rModU (tCB (rInt1) (tCons (tOp (rIx G.K) (tVar 0) (tC (.int 0))) tNil)) (tVar 1)) (gName 2))
    (tSeq (tAsg (tOp rFdivU (tOp (rIx G.K) (tVar 0) (tC (.int 0))) (tVar 1)) (gSub (tVar 0) (tC (.int 0)) rSetL))
    (tRet (tVar 2)))) tNext)
    (tSeq (tAsg (tOp rAddU (tOp (rIx G.K) (tVar 0) (tC (.int 2))) (tC (.int 1))) (gSub (tVar 0) (tC (.int 2)) rSetL))
    (tSeq (tAsg (tOp rModU (tCB (rInt1) (tCons (tOp rPowU (tOp rAddU (tOp (rIx G.K) (tVar 0) (tC (.int 1))) (tOp rMulU (tC (.int 15485863)) (tOp (rIx G.K) (tVar 0) (tC (.int 2))))) (tC (.int 3))) tNil)) (tC (.int 162259276829213363391578010288127))) (gName 3))
    (tSeq (tAsg (tOp rModU (tCB (rInt1) (tCons (tOp rPowU (tOp rAddU (tVar 3) (tOp rMulU (tC (.int 32452843)) (tOp (rIx G.K) (tVar 0) (tC (.int 2))))) (tC (.int 3))) tNil)) (tC (.int 170141183460469231731687303715884105727))) (gName 3))
    (tRet (tOp rModU (tCB (rInt1) (tCons (tOp rFdivU (tVar 3) (tC (.int 1048576))) tNil)) (tVar 1)))))))
def F_law_draw (a : Ad) : DSp := fun ds O κ _ => ∃ (p : Addr) (span n : Int) (q : List PyData), ds = [.own p, .py (.int span)] ∧ O p = some q ∧ PoolL q n ∧ n ≤ 1000000 ∧ 1 ≤ span ∧ span ≤ 10 ^ 40 ∧
  ∀ (r : Int) q', 0 ≤ r → r < span → PoolL q' (n + 1) → κ (.py (.int r)) (oset O p q')
theorem len_law_draw (a : Ad) : ∀ ds O κ ε, F_law_draw a ds O κ ε → ds.length = (["pool", "span"] : List Str).length := by
  rintro _ O κ ε ⟨p, span, n, q, rfl, _⟩
  rfl
theorem ls_law_draw {G : Gs} {a : Ad} : ∀ (B0 : Hp) ds O κ ε, F_law_draw a ds O κ ε → LS G B0 (t_law_draw G a) (startR N_law_draw ds) O (fun _ O' => κ (.py .none) O') κ (fun _ _ => False) (fun _ _ => False) := by
  rintro B0 _ O κ ε ⟨p, span, n, q, rfl, hO, ⟨x, y, c, rfl, hx, hy, hy2, hc, hcn⟩, hn, hs, hs2, k⟩
  unfold t_law_draw
  walk_at "l"
  refine if_dec (fun h => ?_) (fun h => ?_)
  · walk_at "l"
    refine lr_modr (by omega) fun r h0 h1 => ?_
    walk_at "l"
    walk_at "st"
    walk_at "l"
    exact k r _ h0 h1 ⟨_, _, _, rfl, fdiv_nn (by omega) (by omega), by omega, by omega, by omega, by omega⟩
  · walk_at "l"
    walk_at "st"
    walk_at "l"
    refine lr_modr (by omega) fun m1 h0 h1 => ?_
    walk_at "l"
    refine lr_modr (by omega) fun m2 h2 h3 => ?_
    walk_at "l"
    refine lr_modr (by omega) fun r h4 h5 => ?_
    exact k r _ h4 h5 ⟨_, _, _, rfl, by omega, by omega, by omega, by omega, by omega⟩

/-! ### law_tate -/
abbrev N_law_tate : List Str := ["pool", "u", "v", "kind", "less", "twice", "p", "q", "r", "t", "lead"]
def t_law_tate (G : Gs) (a : Ad) : TS :=
  (tSeq (tPar 1 2 (tCons (tOp rSubU (tCall (spD G (F_law_draw a)) [] E0 (tCons (tVar 0) (tCons (tC (.int 9)) tNil))) (tC (.int 4))) (tCons (tOp rAddU (tC (.int 1)) (tCall (spD G (F_law_draw a)) [] E0 (tCons (tVar 0) (tCons (tC (.int 3)) tNil)))) tNil)))
    (tSeq (tPar3 3 4 5 (tCons (tOp (rIx G.K) (tLst (tCons (tC (.int 7)) (tCons (tC (.int 8)) (tCons (tC (.int 9)) (tCons (tC (.int 10)) (tCons (tC (.int 12)) (tCons (tC (.int 5)) (tCons (tC (.int 6)) tNil)))))))) (tCall (spD G (F_law_draw a)) [] E0 (tCons (tVar 0) (tCons (tC (.int 7)) tNil)))) (tCons (tOp rSubU (tVar 1) (tVar 2)) (tCons (tOp rSubU (tOp rMulU (tC (.int 2)) (tVar 1)) (tVar 2)) tNil))))
    (tSeq (tAsg (tTup (tCons (tVar 1) (tCons (tVar 2) (tCons (tVar 1) (tCons (tVar 2) tNil))))) (gTup G.K 4 (gCons (gName 6) (gCons (gName 7) (gCons (gName 8) (gCons (gName 9) gNil))))))
    (tSeq (tIfS (tTest (tOp (rEqU G.K) (tVar 3) (tC (.int 6)))) (tPar 6 7 (tCons (tOp rMulU (tVar 1) (tOp rAddU (tVar 2) (tVar 1))) (tCons (tOp rMulU (tVar 2) (tVar 2)) tNil))) tNext)
    (tSeq (tIfS (tTest (tOp (rEqU G.K) (tVar 3) (tC (.int 7)))) (tSeq (tPar 6 7 (tCons (tOp rMulU (tOp rMulU (tVar 1) (tVar 1)) (tVar 4)) (tCons (tOp rMulU (tOp rMulU (tVar 2) (tVar 2)) (tVar 2)) tNil)))
    (tPar 8 9 (tCons (tOp rMulU (tVar 1) (tVar 4)) (tCons (tOp rMulU (tVar 2) (tVar 2)) tNil)))) tNext)
    (tSeq (tIfS (tTest (tOp (rEqU G.K) (tVar 3) (tC (.int 8)))) (tSeq (tPar 6 7 (tCons (tOp rMulU (tVar 5) (tVar 4)) (tCons (tOp rMulU (tVar 2) (tVar 2)) tNil)))
    (tPar 8 9 (tCons (tVar 6) (tCons (tOp rMulU (tVar 1) (tVar 2)) tNil)))) tNext)
    (tSeq (tIfS (tTest (tOp (rEqU G.K) (tVar 3) (tC (.int 9)))) (tSeq (tPar 8 9 (tCons (tOp rMulU (tOp rMulU (tVar 1) (tVar 1)) (tVar 4)) (tCons (tOp rMulU (tOp rMulU (tVar 2) (tVar 2)) (tVar 2)) tNil)))
    (tSeq (tAsg (tOp rMulU (tVar 8) (tOp rAddU (tOp rMulU (tVar 1) (tVar 4)) (tOp rMulU (tVar 2) (tVar 2)))) (gName 6))
    (tAsg (tOp rMulU (tOp rMulU (tVar 9) (tVar 2)) (tVar 2)) (gName 7)))) tNext)
    (tSeq (tIfS (tTest (tOp (rEqU G.K) (tVar 3) (tC (.int 10)))) (tSeq (tAsg (tOp rSubU (tOp rMulU (tVar 1) (tVar 2)) (tOp rMulU (tVar 4) (tVar 4))) (gName 10))
    (tSeq (tPar 8 9 (tCons (tOp rMulU (tOp rMulU (tVar 1) (tVar 5)) (tVar 4)) (tCons (tOp rMulU (tVar 2) (tVar 10)) tNil)))
    (tPar 6 7 (tCons (tOp rMulU (tOp rMulU (tVar 8) (tVar 1)) (tVar 1)) (tCons (tOp rMulU (tVar 9) (tVar 10)) tNil))))) tNext)
    (tSeq (tIfS (tTest (tOp (rEqU G.K) (tVar 3) (tC (.int 12)))) (tSeq (tAsg (tOp rMulU (tOp rAddU (tOp rMulU (tOp rMulU (tC (.int 3)) (tVar 1)) (tVar 4)) (tOp rMulU (tVar 2) (tVar 2))) (tVar 1)) (gName 8))
    (tSeq (tAsg (tOp rSubU (tC (.int 0)) (tOp rMulU (tVar 8) (tVar 5))) (gName 8))
    (tSeq (tAsg (tOp rMulU (tOp rMulU (tOp rMulU (tVar 2) (tVar 4)) (tVar 4)) (tVar 4)) (gName 9))
    (tSeq (tAsg (tOp rSubU (tC (.int 0)) (tOp rMulU (tVar 8) (tOp rAddU (tOp rMulU (tOp rMulU (tC (.int 2)) (tVar 1)) (tVar 4)) (tOp rMulU (tVar 2) (tVar 2))))) (gName 6))
    (tAsg (tOp rMulU (tOp rMulU (tVar 9) (tVar 2)) (tVar 4)) (gName 7)))))) tNext)
    (tRet (tTup (tCons (tLst (tCons (tOp rMulU (tOp rMulU (tOp rMulU (tVar 7) (tVar 7)) (tVar 7)) (tVar 9)) (tCons (tC (.int 0)) (tCons (tC (.int 0)) (tCons (tOp rMulU (tOp rMulU (tOp rMulU (tVar 6) (tVar 7)) (tVar 7)) (tOp rSubU (tVar 9) (tVar 8))) (tCons (tOp rSubU (tC (.int 0)) (tOp rMulU (tOp rMulU (tOp rMulU (tVar 6) (tVar 6)) (tVar 7)) (tVar 9))) (tCons (tOp rMulU (tOp rMulU (tOp rMulU (tVar 6) (tVar 6)) (tVar 6)) (tVar 9)) tNil))))))) (tCons (tVar 3) tNil)))))))))))))
def F_law_tate (a : Ad) : DSp := fun ds O κ _ => ∃ (p : Addr) (q : List PyData) (n : Int), ds = [.own p] ∧ O p = some q ∧ PoolL q n ∧ n ≤ 900000 ∧
  ∀ (k u v : Int) q', (k, u, v) ∈ tateAll → PoolL q' (n + 3) → κ (.py (.tuple [(tateC k u v).py, .int k])) (oset O p q')
theorem len_law_tate (a : Ad) : ∀ ds O κ ε, F_law_tate a ds O κ ε → ds.length = (["pool"] : List Str).length := by
  rintro _ O κ ε ⟨p, q, n, rfl, _⟩
  rfl
theorem ls_law_tate {G : Gs} {a : Ad} : ∀ (B0 : Hp) ds O κ ε, F_law_tate a ds O κ ε → LS G B0 (t_law_tate G a) (startR N_law_tate ds) O (fun _ O' => κ (.py .none) O') κ (fun _ _ => False) (fun _ _ => False) := by
  rintro B0 _ O κ ε ⟨p, q, n, rfl, hO, hq, hn, k⟩
  walk_at "s"
  unfold t_law_tate
  walk_at "w"
  walk_at "d"
  intro r1 q1 a1 b1 c1
  walk_at "w"
  walk_at "d"
  intro r2 q2 a2 b2 c2
  rw [oset_oset]
  walk_at "w"
  walk_at "d"
  intro r3 q3 a3 b3 c3
  rw [oset_oset]
  have c3' : PoolL q3 (n + 3) := c3.mono (by omega)
  have hu : -4 ≤ r1 - 4 ∧ r1 - 4 ≤ 4 := by omega
  have hv : 1 ≤ 1 + r2 ∧ 1 + r2 ≤ 3 := by omega
  have bu : BdI (r1 - 4) 1 := ⟨by omega⟩
  have bv : BdI (1 + r2) 1 := ⟨by omega⟩
  have hk := fun kk (hm : kk ∈ [(7 : Int), 8, 9, 10, 12, 5, 6]) => k kk _ _ _ (tate_mem hm hu hv) c3'
  generalize r1 - 4 = u at *
  generalize 1 + r2 = v at *
  clear k c1 c2 c3 hO hq
  have : r3 = 0 ∨ r3 = 1 ∨ r3 = 2 ∨ r3 = 3 ∨ r3 = 4 ∨ r3 = 5 ∨ r3 = 6 := by omega
  rcases this with rfl | rfl | rfl | rfl | rfl | rfl | rfl
  · have k := hk 7 (by decide)
    walk_at "b"
    exact k
  · have k := hk 8 (by decide)
    walk_at "b"
    exact k
  · have k := hk 9 (by decide)
    walk_at "b"
    exact k
  · have k := hk 10 (by decide)
    walk_at "b"
    exact k
  · have k := hk 12 (by decide)
    walk_at "b"
    exact k
  · have k := hk 5 (by decide)
    walk_at "b"
    exact k
  · have k := hk 6 (by decide)
    walk_at "b"
    exact k

/-! ### law_at -/
abbrev N_law_at : List Str := ["numbers_here", "one_here", "two_here", "p", "q", "r", "s", "terms", "factor", "term"]
def t_law_at (G : Gs) (a : Ad) : TS :=
  (tSeq (tAsg (tTup (tCons (tVar 1) (tCons (tVar 2) tNil))) (gTup G.K 2 (gCons (gTup G.K 2 (gCons (gName 3) (gCons (gName 4) gNil))) (gCons (gTup G.K 2 (gCons (gName 5) (gCons (gName 6) gNil))) gNil))))
    (tSeq (tAsg (tLst (tCons (tOp rMulU (tOp rMulU (tOp rMulU (tVar 3) (tVar 3)) (tVar 5)) (tVar 5)) (tCons (tOp rMulU (tOp rMulU (tVar 3) (tVar 5)) (tOp rAddU (tOp rMulU (tVar 3) (tVar 6)) (tOp rMulU (tVar 5) (tVar 4)))) (tCons (tOp rAddU (tOp rMulU (tOp rMulU (tOp rMulU (tVar 3) (tVar 3)) (tVar 6)) (tVar 6)) (tOp rMulU (tOp rMulU (tOp rMulU (tVar 5) (tVar 5)) (tVar 4)) (tVar 4))) tNil)))) (gName 7))
    (tSeq (tAsg (tOp rAddU (tVar 7) (tLst (tCons (tOp rMulU (tOp rMulU (tOp rMulU (tVar 3) (tVar 4)) (tVar 5)) (tVar 6)) (tCons (tOp rMulU (tOp rMulU (tVar 4) (tVar 6)) (tOp rAddU (tOp rMulU (tVar 3) (tVar 6)) (tOp rMulU (tVar 5) (tVar 4)))) (tCons (tOp rMulU (tOp rMulU (tOp rMulU (tVar 4) (tVar 4)) (tVar 6)) (tVar 6)) tNil))))) (gName 7))
    (tRet (tCB (rSum G.K) (tCons (tLc (iZip G.K (tCons (tVar 0) (tCons (tVar 7) tNil))) (gTup G.K 2 (gCons (gName 8) (gCons (gName 9) gNil))) tYes (tOp rMulU (tVar 8) (tVar 9)) [8, 9]) tNil))))))
def F_law_at (a : Ad) : DSp := fun ds O κ _ => ∃ c0 c1 c2 c3 c4 c5 p q r s : Int, ds = [.py (six c0 c1 c2 c3 c4 c5), .py (.tuple [.int p, .int q]), .py (.tuple [.int r, .int s])] ∧ sixB 90000 c0 c1 c2 c3 c4 c5 ∧
  (p.natAbs < 10 ^ 3000 ∧ q.natAbs < 10 ^ 3000 ∧ r.natAbs < 10 ^ 3000 ∧ s.natAbs < 10 ^ 3000) ∧ κ (.py (.int (atV c0 c1 c2 c3 c4 c5 p q r s))) O
theorem len_law_at (a : Ad) : ∀ ds O κ ε, F_law_at a ds O κ ε → ds.length = (["numbers_here", "one_here", "two_here"] : List Str).length := by
  rintro _ O κ ε ⟨c0, c1, c2, c3, c4, c5, p, q, r, s, rfl, _⟩
  rfl
theorem ls_law_at {G : Gs} {a : Ad} : ∀ (B0 : Hp) ds O κ ε, F_law_at a ds O κ ε → LS G B0 (t_law_at G a) (startR N_law_at ds) O (fun _ O' => κ (.py .none) O') κ (fun _ _ => False) (fun _ _ => False) := by
  rintro B0 _ O κ ε ⟨c0, c1, c2, c3, c4, c5, p, q, r, s, rfl, ⟨h0, h1, h2, h3, h4, h5⟩, ⟨hp, hq, hr, hs⟩, k⟩
  have i0 : BdI c0 90000 := ⟨h0⟩
  have i1 : BdI c1 90000 := ⟨h1⟩
  have i2 : BdI c2 90000 := ⟨h2⟩
  have i3 : BdI c3 90000 := ⟨h3⟩
  have i4 : BdI c4 90000 := ⟨h4⟩
  have i5 : BdI c5 90000 := ⟨h5⟩
  have ip : BdI p 3000 := ⟨hp⟩
  have iq : BdI q 3000 := ⟨hq⟩
  have ir : BdI r 3000 := ⟨hr⟩
  have is : BdI s 3000 := ⟨hs⟩
  unfold t_law_at
  walk_at "l"
  refine le_zipmul [c0, c1, c2, c3, c4, c5] [p * p * r * r, p * r * (p * s + r * q), p * p * s * s + r * r * q * q, p * q * r * s, q * s * (p * s + r * q), q * q * s * s] rfl rfl (by decide) (by show 6 < 100000; decide) ?_ ?_ ?_
  · intro x hx
    simp only [List.mem_cons, List.not_mem_nil, or_false] at hx
    rcases hx with rfl | rfl | rfl | rfl | rfl | rfl <;> exact bd_big
  · intro x hx
    simp only [List.mem_cons, List.not_mem_nil, or_false] at hx
    rcases hx with rfl | rfl | rfl | rfl | rfl | rfl <;> exact bd_big
  · walk_at "l"
    refine ⟨rfl, ?_⟩
    walk_at "l"
    refine lc_sum rfl ?_
    have e : ((([c0, c1, c2, c3, c4, c5] : List Int).zip [p * p * r * r, p * r * (p * s + r * q), p * p * s * s + r * r * q * q, p * q * r * s, q * s * (p * s + r * q), q * q * s * s]).map fun p => p.1 * p.2).sum = atV c0 c1 c2 c3 c4 c5 p q r s := by
      simp only [List.zip_cons_cons, List.zip_nil_right, List.map_cons, List.map_nil, List.sum_cons, List.sum_nil, atV]
      omega
    rw [e]
    exact k

/-! ### law_form -/
abbrev N_law_form : List Str := ["numbers_here", "one_here", "high", "low"]
def t_law_form (G : Gs) (a : Ad) : TS :=
  (tSeq (tPar 2 3 (tCons (tCall (spD G (F_law_at a)) [] E0 (tCons (tVar 0) (tCons (tVar 1) (tCons (tTup (tCons (tC (.int 1)) (tCons (tC (.int 0)) tNil))) tNil)))) (tCons (tCall (spD G (F_law_at a)) [] E0 (tCons (tVar 0) (tCons (tVar 1) (tCons (tTup (tCons (tC (.int 0)) (tCons (tC (.int 1)) tNil))) tNil)))) tNil)))
    (tRet (tLst (tCons (tVar 2) (tCons (tOp rSubU (tOp rSubU (tCall (spD G (F_law_at a)) [] E0 (tCons (tVar 0) (tCons (tVar 1) (tCons (tTup (tCons (tC (.int 1)) (tCons (tC (.int 1)) tNil))) tNil)))) (tVar 2)) (tVar 3)) (tCons (tVar 3) tNil))))))
theorem six_up {c0 c1 c2 c3 c4 c5 : Int} (h6 : sixB 100 c0 c1 c2 c3 c4 c5) : sixB 90000 c0 c1 c2 c3 c4 c5 := ⟨bd_le h6.1 (by decide), bd_le h6.2.1 (by decide), bd_le h6.2.2.1 (by decide), bd_le h6.2.2.2.1 (by decide), bd_le h6.2.2.2.2.1 (by decide), bd_le h6.2.2.2.2.2 (by decide)⟩
def F_law_form (a : Ad) : DSp := fun ds O κ _ => ∃ c0 c1 c2 c3 c4 c5 p q : Int, ds = [.py (six c0 c1 c2 c3 c4 c5), .py (.tuple [.int p, .int q])] ∧ sixB 90000 c0 c1 c2 c3 c4 c5 ∧
  (p.natAbs < 10 ^ 3000 ∧ q.natAbs < 10 ^ 3000) ∧ κ (.py (.list [.int (fV c0 c1 c2 p q), .int (fV c1 c3 c4 p q), .int (fV c2 c4 c5 p q)])) O
theorem len_law_form (a : Ad) : ∀ ds O κ ε, F_law_form a ds O κ ε → ds.length = (["numbers_here", "one_here"] : List Str).length := by
  rintro _ O κ ε ⟨c0, c1, c2, c3, c4, c5, p, q, rfl, _⟩
  rfl
theorem ls_law_form {G : Gs} {a : Ad} : ∀ (B0 : Hp) ds O κ ε, F_law_form a ds O κ ε → LS G B0 (t_law_form G a) (startR N_law_form ds) O (fun _ O' => κ (.py .none) O') κ (fun _ _ => False) (fun _ _ => False) := by
  rintro B0 _ O κ ε ⟨c0, c1, c2, c3, c4, c5, p, q, rfl, h6, ⟨hp, hq⟩, k⟩
  unfold t_law_form
  walk_at "l"
  refine ⟨_, _, _, _, _, _, p, q, 1, 0, rfl, h6, ⟨hp, hq, bd_to 3000, bd_to 3000⟩, ?_⟩
  rw [atV_hi]
  walk_at "l"
  refine ⟨_, _, _, _, _, _, p, q, 0, 1, rfl, h6, ⟨hp, hq, bd_to 3000, bd_to 3000⟩, ?_⟩
  rw [atV_lo]
  walk_at "l"
  refine ⟨_, _, _, _, _, _, p, q, 1, 1, rfl, h6, ⟨hp, hq, bd_to 3000, bd_to 3000⟩, ?_⟩
  walk_at "l"
  rw [atV_mid]
  exact k

/-! ### law_five -/
abbrev N_law_five : List Str := ["numbers_here", "values", "spot", "high", "middle", "low", "even_one", "even_two", "odd_one", "odd_two", "fourth", "third"]
def t_law_five (G : Gs) (a : Ad) : TS :=
  (tSeq (tAsg (tLst tNil) (gName 1))
    (tSeq (tFor (iTup G.K (tTup (tCons (tC (.int 0)) (tCons (tC (.int 1)) (tCons (tUn rNeg (tC (.int 1))) (tCons (tC (.int 2)) (tCons (tUn rNeg (tC (.int 2))) tNil))))))) (gName 2) (tSeq (tAsg (tCall (spD G (F_law_form a)) [] E0 (tCons (tVar 0) (tCons (tTup (tCons (tVar 2) (tCons (tC (.int 1)) tNil))) tNil))) (gUnl G.K 3 (gCons (gName 3) (gCons (gName 4) (gCons (gName 5) gNil)))))
    (tDrop (tBM G.K "list" rAppend (tVar 1) (tCons (tOp rSubU (tOp rMulU (tVar 4) (tVar 4)) (tOp rMulU (tOp rMulU (tC (.int 4)) (tVar 3)) (tVar 5))) tNil)))))
    (tSeq (tAsg (tOp rSubU (tOp rAddU (tOp (rIx G.K) (tVar 1) (tC (.int 1))) (tOp (rIx G.K) (tVar 1) (tC (.int 2)))) (tOp rMulU (tC (.int 2)) (tOp (rIx G.K) (tVar 1) (tC (.int 0))))) (gName 6))
    (tSeq (tAsg (tOp rSubU (tOp rAddU (tOp (rIx G.K) (tVar 1) (tC (.int 3))) (tOp (rIx G.K) (tVar 1) (tC (.int 4)))) (tOp rMulU (tC (.int 2)) (tOp (rIx G.K) (tVar 1) (tC (.int 0))))) (gName 7))
    (tSeq (tPar 8 9 (tCons (tOp rSubU (tOp (rIx G.K) (tVar 1) (tC (.int 1))) (tOp (rIx G.K) (tVar 1) (tC (.int 2)))) (tCons (tOp rSubU (tOp (rIx G.K) (tVar 1) (tC (.int 3))) (tOp (rIx G.K) (tVar 1) (tC (.int 4)))) tNil)))
    (tSeq (tPar 10 11 (tCons (tOp rFdivU (tOp rSubU (tVar 7) (tOp rMulU (tC (.int 4)) (tVar 6))) (tC (.int 24))) (tCons (tOp rFdivU (tOp rSubU (tVar 9) (tOp rMulU (tC (.int 2)) (tVar 8))) (tC (.int 12))) tNil)))
    (tRet (tLst (tCons (tVar 10) (tCons (tVar 11) (tCons (tOp rSubU (tOp rFdivU (tVar 6) (tC (.int 2))) (tVar 10)) (tCons (tOp rSubU (tOp rFdivU (tVar 8) (tC (.int 2))) (tVar 11)) (tCons (tOp (rIx G.K) (tVar 1) (tC (.int 0))) tNil)))))))))))))
/-- the form of degree four at t -/
def five (c0 c1 c2 c3 c4 c5 t : Int) : Int := fV c1 c3 c4 t 1 * fV c1 c3 c4 t 1 - 4 * fV c0 c1 c2 t 1 * fV c2 c4 c5 t 1
def spots : List Int := [0, 1, -1, 2, -2]
theorem five_at (c0 c1 c2 c3 c4 c5 t : Int) : five c0 c1 c2 c3 c4 c5 t = q4 c0 c1 c2 c3 c4 c5 * (t * t * t * t) + q3 c0 c1 c2 c3 c4 c5 * (t * t * t) + q2 c0 c1 c2 c3 c4 c5 * (t * t) + q1 c0 c1 c2 c3 c4 c5 * t + q0 c0 c1 c2 c3 c4 c5 := by
  unfold five fV q4 q3 q2 q1 q0
  grind
theorem six_17 {c0 c1 c2 c3 c4 c5 : Int} (h6 : sixB 1700 c0 c1 c2 c3 c4 c5) : sixB 90000 c0 c1 c2 c3 c4 c5 := ⟨bd_le h6.1 (by decide), bd_le h6.2.1 (by decide), bd_le h6.2.2.1 (by decide), bd_le h6.2.2.2.1 (by decide), bd_le h6.2.2.2.2.1 (by decide), bd_le h6.2.2.2.2.2 (by decide)⟩
theorem six_40 {c0 c1 c2 c3 c4 c5 : Int} (h6 : sixB 40 c0 c1 c2 c3 c4 c5) : sixB 1700 c0 c1 c2 c3 c4 c5 := ⟨bd_le h6.1 (by decide), bd_le h6.2.1 (by decide), bd_le h6.2.2.1 (by decide), bd_le h6.2.2.2.1 (by decide), bd_le h6.2.2.2.2.1 (by decide), bd_le h6.2.2.2.2.2 (by decide)⟩
def F_law_five (_ : Ad) : DSp := fun ds O κ _ => ∃ c0 c1 c2 c3 c4 c5 : Int, ds = [.py (six c0 c1 c2 c3 c4 c5)] ∧ sixB 1700 c0 c1 c2 c3 c4 c5 ∧ κ (.py (quD c0 c1 c2 c3 c4 c5)) O
theorem len_law_five (a : Ad) : ∀ ds O κ ε, F_law_five a ds O κ ε → ds.length = (["numbers_here"] : List Str).length := by
  rintro _ O κ ε ⟨c0, c1, c2, c3, c4, c5, rfl, _⟩
  rfl
theorem ls_law_five {G : Gs} {a : Ad} : ∀ (B0 : Hp) ds O κ ε, F_law_five a ds O κ ε → LS G B0 (t_law_five G a) (startR N_law_five ds) O (fun _ O' => κ (.py .none) O') κ (fun _ _ => False) (fun _ _ => False) := by
  rintro B0 _ O κ ε ⟨c0, c1, c2, c3, c4, c5, rfl, h6, k⟩
  have fb : ∀ {t : Int}, t.natAbs ≤ 2 → BdI (fV c0 c1 c2 t 1) 1704 ∧ BdI (fV c1 c3 c4 t 1) 1704 ∧ BdI (fV c2 c4 c5 t 1) 1704 := by
    intro t ht
    have it : BdI t 1 := ⟨by omega⟩
    have i1 : BdI (1 : Int) 1 := ⟨by decide⟩
    exact ⟨⟨fV_bd ⟨h6.1⟩ ⟨h6.2.1⟩ ⟨h6.2.2.1⟩ it i1 trivial⟩, ⟨fV_bd ⟨h6.2.1⟩ ⟨h6.2.2.2.1⟩ ⟨h6.2.2.2.2.1⟩ it i1 trivial⟩, ⟨fV_bd ⟨h6.2.2.1⟩ ⟨h6.2.2.2.2.1⟩ ⟨h6.2.2.2.2.2⟩ it i1 trivial⟩⟩
  have vb : ∀ {t : Int}, t.natAbs ≤ 2 → BdI (five c0 c1 c2 c3 c4 c5 t) 3415 := by
    intro t ht
    obtain ⟨b1, b2, b3⟩ := fb ht
    exact ⟨by unfold five; exact bd_to 3415⟩
  unfold t_law_five
  walk_at "le"
  walk_at "le"
  refine le_lstO ?_
  walk_at "l"
  intro p hp
  walk_at "le"
  refine ls_for (li_tup ?_)
  walk_at "l"
  refine ⟨fun i ρ' O' => ∃ s h m l : Option D, ρ' = [some (.py (six c0 c1 c2 c3 c4 c5)), some (.own p), s, h, m, l, none, none, none, none, none, none] ∧ O' = oset O p ((spots.take i).map fun t => .int (five c0 c1 c2 c3 c4 c5 t)), ⟨none, none, none, none, rfl, rfl⟩, ?_, ?_⟩
  · rintro i d ρ' O' hd ⟨s, h, m, l, rfl, rfl⟩
    obtain ⟨t, rfl, ht, ht2⟩ : ∃ t, d = .py (.int t) ∧ spots[i]? = some t ∧ t.natAbs ≤ 2 := by
      have e : (List.map D.py [PyData.int 0, PyData.int 1, PyData.int (-1), PyData.int 2, PyData.int (-2)]) = spots.map fun t => D.py (.int t) := rfl
      rw [e, List.getElem?_map] at hd
      cases he : spots[i]? with
      | none => rw [he] at hd; cases hd
      | some x =>
        rw [he] at hd
        cases hd
        refine ⟨x, rfl, rfl, ?_⟩
        have m := List.mem_of_getElem? he
        simp only [spots, List.mem_cons, List.not_mem_nil, or_false] at m
        rcases m with rfl | rfl | rfl | rfl | rfl <;> decide
    obtain ⟨b1, b2, b3⟩ := fb ht2
    walk_at "l"
    refine ⟨_, _, _, _, _, _, t, 1, rfl, six_17 h6, ⟨Nat.lt_of_le_of_lt ht2 (by decide +kernel), by decide +kernel⟩, ?_⟩
    walk_at "l"
    refine le_append ?_
    walk_at "l"
    refine ⟨⟨_, oset_same⟩, ?_⟩
    walk_at "l"
    refine ⟨_, oset_same, ?_, ?_⟩
    · rw [List.length_map, List.length_take]
      show min i 5 < 100000
      omega
    · refine ⟨_, _, _, _, rfl, ?_⟩
      rw [oset_oset, List.take_add_one, ht, List.map_append]
      rfl
  · rintro ρ' O' ⟨s, h, m, l, rfl, rfl⟩
    have v0 := vb (t := 0) (by decide)
    have v1 := vb (t := 1) (by decide)
    have v2 := vb (t := -1) (by decide)
    have v3 := vb (t := 2) (by decide)
    have v4 := vb (t := -2) (by decide)
    show LS G B0 _ _ (oset O p [.int (five c0 c1 c2 c3 c4 c5 0), .int (five c0 c1 c2 c3 c4 c5 1), .int (five c0 c1 c2 c3 c4 c5 (-1)), .int (five c0 c1 c2 c3 c4 c5 2), .int (five c0 c1 c2 c3 c4 c5 (-2))]) _ _ _ _
    refine ls_freeze (i := 1) rfl oset_same ?_
    rw [odel_oset hp]
    have f0 := five_at c0 c1 c2 c3 c4 c5 0
    have f1 := five_at c0 c1 c2 c3 c4 c5 1
    have f2 := five_at c0 c1 c2 c3 c4 c5 (-1)
    have f3 := five_at c0 c1 c2 c3 c4 c5 2
    have f4 := five_at c0 c1 c2 c3 c4 c5 (-2)
    walk_at "l"
    have e1 : (five c0 c1 c2 c3 c4 c5 2 + five c0 c1 c2 c3 c4 c5 (-2) - 2 * five c0 c1 c2 c3 c4 c5 0 - 4 * (five c0 c1 c2 c3 c4 c5 1 + five c0 c1 c2 c3 c4 c5 (-1) - 2 * five c0 c1 c2 c3 c4 c5 0)).fdiv 24 = q4 c0 c1 c2 c3 c4 c5 := by
      rw [Int.fdiv_eq_ediv_of_nonneg _ (by decide)]
      omega
    have e2 : (five c0 c1 c2 c3 c4 c5 2 - five c0 c1 c2 c3 c4 c5 (-2) - 2 * (five c0 c1 c2 c3 c4 c5 1 - five c0 c1 c2 c3 c4 c5 (-1))).fdiv 12 = q3 c0 c1 c2 c3 c4 c5 := by
      rw [Int.fdiv_eq_ediv_of_nonneg _ (by decide)]
      omega
    rw [e1, e2]
    have e3 : (five c0 c1 c2 c3 c4 c5 1 + five c0 c1 c2 c3 c4 c5 (-1) - 2 * five c0 c1 c2 c3 c4 c5 0).fdiv 2 - q4 c0 c1 c2 c3 c4 c5 = q2 c0 c1 c2 c3 c4 c5 := by
      rw [Int.fdiv_eq_ediv_of_nonneg _ (by decide)]
      omega
    have e4 : (five c0 c1 c2 c3 c4 c5 1 - five c0 c1 c2 c3 c4 c5 (-1)).fdiv 2 - q3 c0 c1 c2 c3 c4 c5 = q1 c0 c1 c2 c3 c4 c5 := by
      rw [Int.fdiv_eq_ediv_of_nonneg _ (by decide)]
      omega
    have e5 : five c0 c1 c2 c3 c4 c5 0 = q0 c0 c1 c2 c3 c4 c5 := by omega
    rw [e3, e4, e5]
    exact k

/-! ### law_plain -/
abbrev N_law_plain : List Str := ["numbers_here", "part", "some", "left", "right"]
def t_law_plain (G : Gs) (a : Ad) : TS :=
  (tSeq (tAsg (tC (.int 0)) (gName 1))
    (tSeq (tFor (iList G.K (tVar 0)) (gName 2) (tSeq (tPar 3 4 (tCons (tCB (rAbs) (tCons (tVar 2) tNil)) (tCons (tVar 1) tNil)))
    (tSeq (tWhile (tTest (tOp (rNeU G.K) (tVar 4) (tC (.int 0)))) (tPar 3 4 (tCons (tVar 4) (tCons (tOp rModU (tCB (rInt1) (tCons (tVar 3) tNil)) (tVar 4)) tNil))))
    (tAsg (tVar 3) (gName 1)))))
    (tSeq (tIfS (tTest (tOp rLt (tOp (rIx G.K) (tLc (iList G.K (tVar 0)) (gName 2) (tTest (tOp (rNeU G.K) (tVar 2) (tC (.int 0)))) (tVar 2) [2]) (tC (.int 0))) (tC (.int 0)))) (tAsg (tOp rSubU (tC (.int 0)) (tVar 1)) (gName 1)) tNext)
    (tRet (tLc (iList G.K (tVar 0)) (gName 2) tYes (tOp rFdivP (tVar 2) (tVar 1)) [2])))))
def F_law_plain (a : Ad) : DSp := fun ds O κ _ => ∃ ns : List Int, ds = [.py (.list (ns.map PyData.int))] ∧ ns.length < 1000 ∧ ((∀ x ∈ ns, x.natAbs < 10 ^ 1700) ∨ gcdL ns < 10 ^ 1700 ∨ True) ∧ nz ns ≠ [] ∧ κ (.py (.list ((plainL ns).map PyData.int))) O
theorem len_law_plain (a : Ad) : ∀ ds O κ ε, F_law_plain a ds O κ ε → ds.length = (["numbers_here"] : List Str).length := by
  rintro _ O κ ε ⟨ns, rfl, _⟩
  rfl
def outP : D → PyData
  | .py d => d
  | _ => .none
def outI : D → Int
  | .py (.int i) => i
  | _ => 0
theorem ints_sel (ns : List Int) : ((((ns.map PyData.int).map D.py).filter fun d => !decide (outI d = 0)).map outP) = (nz ns).map PyData.int := by
  rw [List.map_map, List.filter_map, List.map_map]
  rfl
theorem ls_law_plain {G : Gs} {a : Ad} : ∀ (B0 : Hp) ds O κ ε, F_law_plain a ds O κ ε → LS G B0 (t_law_plain G a) (startR N_law_plain ds) O (fun _ O' => κ (.py .none) O') κ (fun _ _ => False) (fun _ _ => False) := by
  rintro B0 _ O κ ε ⟨ns, rfl, hl, hb, hn, k⟩
  have gp := gcdL_pos hn
  obtain ⟨x0, hx0, hx1, hx2⟩ := nz_mem hn
  unfold t_law_plain
  walk_at "le"
  walk_at "le"
  walk_at "le"
  walk_at "le"
  refine ls_for (li_list ?_)
  walk_at "l"
  refine ⟨fun i ρ' O' => ∃ s l r, ρ' = [some (.py (.list (ns.map PyData.int))), some (.py (.int (gcdL (ns.take i) : Int))), s, l, r] ∧ O' = O, ⟨_, _, _, rfl, rfl⟩, ?_, ?_⟩
  · rintro i d ρ' O' hd ⟨s, l, r, rfl, rfl⟩
    obtain ⟨x, rfl, hx⟩ : ∃ x, d = .py (.int x) ∧ ns[i]? = some x := by
      rw [List.getElem?_map, List.getElem?_map] at hd
      cases he : ns[i]? with
      | none => rw [he] at hd; cases hd
      | some x => rw [he] at hd; cases hd; exact ⟨x, rfl, rfl⟩
    walk_at "l"
    refine ls_while (fun m ρ' O2 => ∃ l r : Int, ρ' = [some (.py (.list (ns.map PyData.int))), some (.py (.int (gcdL (ns.take i) : Int))), some (.py (.int x)), some (.py (.int l)), some (.py (.int r))] ∧ O2 = O' ∧ m = r.toNat ∧ 0 ≤ l ∧ 0 ≤ r ∧ Int.gcd l r = Int.gcd x (gcdL (ns.take i) : Int)) (gcdL (ns.take i)) ⟨_, _, rfl, rfl, by omega, by omega, by omega, by rw [Int.gcd_eq_natAbs_gcd_natAbs, Int.gcd_eq_natAbs_gcd_natAbs]; rfl⟩ ?_
    rintro m ρ' O' ⟨l, r, rfl, rfl, rfl, hl, hr, hg⟩
    walk_at "l"
    refine if_ndec (fun h => ?_) (fun h => ?_)
    · obtain ⟨g1, g2, g3⟩ := gcd_turn hl hr h
      walk_at "l"
      refine lr_mod h ?_
      walk_at "l"
      exact ⟨_, by omega, r, l.fmod r, rfl, rfl, rfl, hr, g2, g1.trans hg⟩
    · subst h
      walk_at "l"
      refine ⟨some (.py (.int x)), some (.py (.int l)), some (.py (.int 0)), ?_, rfl⟩
      rw [Int.gcd_zero_right] at hg
      have e : (gcdL (ns.take (i + 1)) : Int) = l := by
        rw [List.take_add_one, hx]
        show (gcdL (ns.take i ++ [x]) : Int) = l
        rw [gcdL_snoc]
        omega
      rw [e]
      rfl
  · rintro ρ' O' ⟨s, l, r, rfl, rfl⟩
    rw [List.length_map, List.length_map, List.take_length]
    walk_at "l"
    refine le_map outP (fun d => !decide (outI d = 0)) (gin_name List.mem_cons_self) (li_list ?_)
    walk_at "l"
    refine ⟨by rw [List.length_map, List.length_map]; omega, ?_, ?_⟩
    · intro d hd r2 acc hr2
      obtain ⟨d1, h1, rfl⟩ := List.mem_map.mp hd
      obtain ⟨x, h2, rfl⟩ := List.mem_map.mp h1
      walk_at "l"
      refine ⟨rfl, ?_⟩
      walk_at "l"
      refine ⟨rfl, rfl, fun _ => ?_⟩
      walk_at "l"
      exact ⟨rfl, rfl⟩
    · rw [ints_sel]
      walk_at "l"
      have hi : atI ((nz ns).map PyData.int) 0 = some (.int x0) := by
        cases e : nz ns with
        | nil => exact absurd e hn
        | cons y ys =>
          rw [e] at hx2
          have hx2' : y = x0 := hx2
          rw [hx2', atI_nn (by decide) (by simp)]
          rfl
      refine lr_ix rfl hi ?_
      have fin : ∀ ρ : Ro, ρ.length = 5 → ρ[0]? = some (some (.py (.list (ns.map PyData.int)))) → ρ[1]? = some (some (.py (.int (plainD ns)))) →
          LE G B0 (tLc (iList G.K (tVar 0)) (gName 2) tYes (tOp rFdivP (tVar 2) (tVar 1)) [2]) ρ O' κ := by
        intro ρ hρ e0 e1
        obtain ⟨z0, z1, z2, z3, z4, rfl⟩ := five_of hρ
        cases e0
        cases e1
        have dn : plainD ns ≠ 0 := by
          unfold plainD
          split <;> omega
        refine le_map (fun d => .int ((outI d).fdiv (plainD ns))) (fun _ => true) (gin_name List.mem_cons_self) (li_list ?_)
        walk_at "l"
        refine ⟨by rw [List.length_map, List.length_map]; omega, ?_, ?_⟩
        · intro d hd r2 acc hr2
          obtain ⟨d1, h1, rfl⟩ := List.mem_map.mp hd
          obtain ⟨x, h2, rfl⟩ := List.mem_map.mp h1
          walk_at "l"
          refine ⟨rfl, ?_⟩
          walk_at "l"
          refine ⟨rfl, rfl, fun _ => ?_⟩
          walk_at "le"
          walk_at "le"
          walk_at "le"
          exact lr_fdivP dn ⟨rfl, rfl⟩
        · have e : ((((ns.map PyData.int).map D.py).filter fun _ => true).map fun d => PyData.int ((outI d).fdiv (plainD ns))) = (plainL ns).map PyData.int := by
            rw [List.filter_eq_self.mpr (fun _ _ => rfl)]
            unfold plainL
            rw [List.map_map, List.map_map, List.map_map]
            rfl
          rw [e]
          exact k
      have hp : plainD ns = if x0 < 0 then 0 - (gcdL ns : Int) else (gcdL ns : Int) := by
        unfold plainD
        rw [hx2]
      walk_at "l"
      refine if_dec (fun h => ?_) (fun h => ?_)
      · walk_at "le"
        walk_at "le"
        walk_at "le"
        walk_at "le"
        walk_at "le"
        refine ls_ret (fin _ rfl rfl ?_)
        rw [hp, if_pos h]
        rfl
      · refine ls_next (ls_ret (fin _ rfl rfl ?_))
        rw [hp, if_neg h]
        rfl

/-! ### law_is_straight -/
abbrev N_law_is_straight : List Str := ["numbers_here", "here", "size", "left", "right", "spot", "some", "high", "low", "padded", "one_here", "two_here"]
def t_law_is_straight (G : Gs) (a : Ad) : TS :=
  (tSeq (tAsg (tCall (spD G (F_law_five a)) [] E0 (tCons (tVar 0) tNil)) (gName 1))
    (tSeq (tIfS (tAnd (tTest (tOp (rEqU G.K) (tOp (rIx G.K) (tVar 1) (tC (.int 0))) (tC (.int 0)))) (tTest (tOp (rEqU G.K) (tOp (rIx G.K) (tVar 1) (tC (.int 1))) (tC (.int 0))))) (tRet (tC (.bl false))) tNext)
    (tSeq (tAsg (tIf (tTest (tOp (rNeU G.K) (tOp (rIx G.K) (tVar 1) (tC (.int 0))) (tC (.int 0)))) (tVar 1) (tSl (rSlL G.K) (tVar 1) (tPart (tC (.int 1))) tNoPart)) (gName 1))
    (tSeq (tAsg (tOp rSubU (tCB (rLen G.K) (tCons (tVar 1) tNil)) (tC (.int 1))) (gName 2))
    (tSeq (tPar 3 4 (tCons (tVar 1) (tCons (tLc (iEnum G.K (tCons (tSl (rSlL G.K) (tVar 1) tNoPart (tPart (tUn rNeg (tC (.int 1))))) tNil)) (gTup G.K 2 (gCons (gName 5) (gCons (gName 6) gNil))) tYes (tOp rMulU (tOp rSubU (tVar 2) (tVar 5)) (tVar 6)) [5, 6]) tNil)))
    (tSeq (tWhile (tTest (tOp rGt (tCB (rLen G.K) (tCons (tVar 4) tNil)) (tC (.int 1)))) (tSeq (tWhile (tTest (tOp rGe (tCB (rLen G.K) (tCons (tVar 3) tNil)) (tCB (rLen G.K) (tCons (tVar 4) tNil)))) (tSeq (tAsg (tTup (tCons (tOp (rIx G.K) (tVar 3) (tC (.int 0))) (tCons (tOp (rIx G.K) (tVar 4) (tC (.int 0))) tNil))) (gTup G.K 2 (gCons (gName 7) (gCons (gName 8) gNil))))
    (tSeq (tAsg (tOp rAddU (tVar 4) (tOp rMulU (tLst (tCons (tC (.int 0)) tNil)) (tOp rSubU (tCB (rLen G.K) (tCons (tVar 3) tNil)) (tCB (rLen G.K) (tCons (tVar 4) tNil))))) (gName 9))
    (tAsg (tSl (rSlL G.K) (tLc (iZip G.K (tCons (tVar 3) (tCons (tVar 9) tNil))) (gTup G.K 2 (gCons (gName 10) (gCons (gName 11) gNil))) tYes (tOp rSubU (tOp rMulU (tVar 8) (tVar 10)) (tOp rMulU (tVar 7) (tVar 11))) [10, 11]) (tPart (tC (.int 1))) tNoPart) (gName 3)))))
    (tSeq (tWhile (tAnd (tTest (tOp (rNeU G.K) (tVar 3) (tLst tNil))) (tTest (tOp (rEqU G.K) (tOp (rIx G.K) (tVar 3) (tC (.int 0))) (tC (.int 0))))) (tAsg (tSl (rSlL G.K) (tVar 3) (tPart (tC (.int 1))) tNoPart) (gName 3)))
    (tSeq (tIfS (tTest (tOp (rEqU G.K) (tVar 3) (tLst tNil))) (tRet (tC (.bl false))) tNext)
    (tPar 3 4 (tCons (tVar 4) (tCons (tCall (spD G (F_law_plain a)) [] E0 (tCons (tVar 3) tNil)) tNil)))))))
    (tRet (tOp (rNeU G.K) (tVar 4) (tLst (tCons (tC (.int 0)) tNil))))))))))
/-! Euclid on lists of numbers -/
def elimS (l r : List Int) : List Int := ((l.zip (r ++ List.replicate (l.length - r.length) 0)).map fun p => r.headD 0 * p.1 - l.headD 0 * p.2).drop 1
def innS : Nat → List Int → List Int → List Int
  | 0, l, _ => l
  | n + 1, l, r => if r.length ≤ l.length then innS n (elimS l r) r else l
def stripS (l : List Int) : List Int := l.dropWhile fun x => decide (x = 0)
def euS : Nat → List Int → List Int → Bool
  | 0, _, _ => false
  | n + 1, l, r => if 1 < r.length then (if stripS (innS (l.length + 1) l r) = [] then false else euS n r (plainL (stripS (innS (l.length + 1) l r)))) else !decide (r = [0])
theorem strip0 (l : List Int) : stripS (0 :: l) = stripS l := rfl
theorem stripN {x : Int} (h : x ≠ 0) (l : List Int) : stripS (x :: l) = x :: l := by
  unfold stripS
  rw [List.dropWhile_cons, if_neg (by simpa using h)]
theorem nz_of {x : Int} (h : x ≠ 0) (l : List Int) : nz (x :: l) ≠ [] := by
  unfold nz
  rw [List.filter_cons, if_pos (by rw [decide_eq_false h]; rfl)]
  exact fun z => nomatch z
theorem plain1 {x : Int} (h : x ≠ 0) : ∃ y, plainL [x] = [y] ∧ y ≠ 0 := by
  obtain ⟨g, _, hg⟩ := plain_mul (nz_of h [])
  refine ⟨_, rfl, fun z => h ?_⟩
  have z' : x.fdiv (plainD [x]) = 0 := z
  rw [← hg x List.mem_cons_self, z', Int.zero_mul]
theorem eu1 {n : Nat} {l : List Int} {x : Int} (h : x ≠ 0) : euS (n + 1) l [x] = true := by
  unfold euS
  rw [if_neg (by simp)]
  have : ¬ [x] = [(0 : Int)] := fun e => h (by cases e; rfl)
  rw [decide_eq_false this]
  rfl
theorem inn_stop {n : Nat} {l r : List Int} (h : l.length < r.length) : innS (n + 1) l r = l := by
  unfold innS
  rw [if_neg (by omega)]
theorem inn_go {n : Nat} {l r : List Int} (h : r.length ≤ l.length) : innS (n + 1) l r = innS n (elimS l r) r := by
  rw [innS, if_pos h]
theorem eu_go {n : Nat} {l r s : List Int} (h : 1 < r.length) (hs : innS (l.length + 1) l r = s) (hz : stripS s ≠ []) : euS (n + 1) l r = euS n r (plainL (stripS s)) := by
  rw [euS, if_pos h, hs, if_neg hz]
theorem eu_no {n : Nat} {l r s : List Int} (h : 1 < r.length) (hs : innS (l.length + 1) l r = s) (hz : stripS s = []) : euS (n + 1) l r = false := by
  rw [euS, if_pos h, hs, if_pos hz]
/-- quadratic by linear -/
theorem eu_21 {n : Nat} {x y z u v : Int} (hu : u ≠ 0) : euS (n + 2) [x, y, z] [u, v] = !decide (x * v * v - y * u * v + z * u * u = 0) := by
  have hs : innS (([x, y, z] : List Int).length + 1) [x, y, z] [u, v] = [x * v * v - y * u * v + z * u * u] := by
    show innS 4 [x, y, z] [u, v] = _
    rw [inn_go (by simp), inn_go (by simp [elimS]), inn_stop (by simp [elimS])]
    simp [elimS, List.replicate]
    grind
  by_cases h : x * v * v - y * u * v + z * u * u = 0
  · rw [eu_no (n := n + 1) (by simp) hs (by rw [h]; rfl), decide_eq_true h]
    rfl
  · rw [eu_go (n := n + 1) (by simp) hs (by rw [stripN h]; exact fun z => nomatch z), stripN h, decide_eq_false h]
    obtain ⟨w, hw, w0⟩ := plain1 h
    rw [hw]
    exact eu1 w0
/-- cubic by linear -/
theorem eu_31 {n : Nat} {x y z t u v : Int} (hu : u ≠ 0) : euS (n + 2) [x, y, z, t] [u, v] = !decide (t * u * u * u - z * u * u * v + y * u * v * v - x * v * v * v = 0) := by
  have hs : innS (([x, y, z, t] : List Int).length + 1) [x, y, z, t] [u, v] = [t * u * u * u - z * u * u * v + y * u * v * v - x * v * v * v] := by
    show innS 5 [x, y, z, t] [u, v] = _
    rw [inn_go (by simp), inn_go (by simp [elimS]), inn_go (by simp [elimS]), inn_stop (by simp [elimS])]
    simp [elimS, List.replicate]
    grind
  by_cases h : t * u * u * u - z * u * u * v + y * u * v * v - x * v * v * v = 0
  · rw [eu_no (n := n + 1) (by simp) hs (by rw [h]; rfl), decide_eq_true h]
    rfl
  · rw [eu_go (n := n + 1) (by simp) hs (by rw [stripN h]; exact fun z => nomatch z), stripN h, decide_eq_false h]
    obtain ⟨w, hw, w0⟩ := plain1 h
    rw [hw]
    exact eu1 w0
theorem dec_iff {p q : Prop} [Decidable p] [Decidable q] (h : p ↔ q) : (!decide p) = !decide q := by
  by_cases hp : p
  · rw [decide_eq_true hp, decide_eq_true (h.mp hp)]
  · rw [decide_eq_false hp, decide_eq_false (fun z => hp (h.mpr z))]
theorem mul_ne {x y : Int} (hx : x ≠ 0) (hy : y ≠ 0) : x * y ≠ 0 := fun h => by
  rcases Int.mul_eq_zero.mp h with h | h
  · exact hx h
  · exact hy h
theorem zero_iff {k x y : Int} {m : Int} (hk : k ≠ 0) (hm : m ≠ 0) (h : k * x = m * y) : x = 0 ↔ y = 0 := by
  constructor
  · intro e
    rw [e, Int.mul_zero] at h
    rcases Int.mul_eq_zero.mp h.symm with h | h
    · exact absurd h hm
    · exact h
  · intro e
    rw [e, Int.mul_zero] at h
    rcases Int.mul_eq_zero.mp h with h | h
    · exact absurd h hk
    · exact h
def rP (x y z t u v w : Int) : Int := u * (z * u - x * w) - (y * u - x * v) * v
def rQ (x y z t u v w : Int) : Int := u * (t * u) - (y * u - x * v) * w
def rR (u v w p q : Int) : Int := u * q * q - v * p * q + w * p * p
/-- cubic by quadratic -/
theorem eu_32 {n : Nat} {x y z t u v w : Int} (hu : u ≠ 0) : euS (n + 3) [x, y, z, t] [u, v, w] = !decide (rR u v w (rP x y z t u v w) (rQ x y z t u v w) = 0) := by
  have hs : innS (([x, y, z, t] : List Int).length + 1) [x, y, z, t] [u, v, w] = [rP x y z t u v w, rQ x y z t u v w] := by
    show innS 5 [x, y, z, t] [u, v, w] = _
    rw [inn_go (by simp), inn_go (by simp [elimS]), inn_stop (by simp [elimS])]
    simp [elimS, List.replicate, rP, rQ]
    grind
  generalize rP x y z t u v w = p at hs ⊢
  generalize rQ x y z t u v w = q at hs ⊢
  by_cases hp : p = 0
  · subst hp
    have e : rR u v w 0 q = u * (q * q) := by
      unfold rR
      grind
    by_cases hq : q = 0
    · subst hq
      rw [eu_no (n := n + 2) (by simp) hs (by rfl), e, Int.zero_mul, Int.mul_zero]
      rfl
    · rw [eu_go (n := n + 2) (by simp) hs (by rw [strip0, stripN hq]; exact fun z => nomatch z), strip0, stripN hq, e, decide_eq_false (mul_ne hu (mul_ne hq hq))]
      obtain ⟨y, hy, y0⟩ := plain1 hq
      rw [hy]
      exact eu1 y0
  · rw [eu_go (n := n + 2) (by simp) hs (by rw [stripN hp]; exact fun z => nomatch z), stripN hp]
    obtain ⟨g, g0, hg⟩ := plain_mul (nz_of hp [q])
    have h1 := hg p List.mem_cons_self
    have h2 := hg q (List.mem_cons_of_mem _ List.mem_cons_self)
    show euS (n + 2) [u, v, w] [p.fdiv (plainD [p, q]), q.fdiv (plainD [p, q])] = _
    generalize p.fdiv (plainD [p, q]) = p' at h1 ⊢
    generalize q.fdiv (plainD [p, q]) = q' at h2 ⊢
    have p0 : p' ≠ 0 := fun z => hp (by rw [← h1, z, Int.zero_mul])
    rw [eu_21 p0]
    refine dec_iff (zero_iff (k := g * g) (m := 1) (mul_ne g0 g0) (by decide) ?_)
    rw [← h1, ← h2]
    unfold rR
    grind
theorem id4 (a b c d e : Int) : 27 * rR (8 * a * c - 3 * b * b) (12 * a * d - 2 * b * c) (16 * a * e - b * d) (rP (4 * a) (3 * b) (2 * c) d (8 * a * c - 3 * b * b) (12 * a * d - 2 * b * c) (16 * a * e - b * d)) (rQ (4 * a) (3 * b) (2 * c) d (8 * a * c - 3 * b * b) (12 * a * d - 2 * b * c) (16 * a * e - b * d)) =
    256 * a * a * (8 * a * c - 3 * b * b) * (8 * a * c - 3 * b * b) * bendV a b c d e := by
  unfold rR rP rQ bendV bendI bendJ
  grind
theorem id4b (a b c d e : Int) (h : 8 * a * c - 3 * b * b = 0) : 27 * (d * (12 * a * d - 2 * b * c) * (12 * a * d - 2 * b * c) * (12 * a * d - 2 * b * c) - 2 * c * (12 * a * d - 2 * b * c) * (12 * a * d - 2 * b * c) * (16 * a * e - b * d) +
    3 * b * (12 * a * d - 2 * b * c) * (16 * a * e - b * d) * (16 * a * e - b * d) - 4 * a * (16 * a * e - b * d) * (16 * a * e - b * d) * (16 * a * e - b * d)) = -64 * a * bendV a b c d e := by
  unfold bendV bendI bendJ
  grind
theorem id4c (a b c d e : Int) (h : 8 * a * c - 3 * b * b = 0) (h2 : 12 * a * d - 2 * b * c = 0) (ha : a ≠ 0) : 16 * bendV a b c d e = 27 * ((16 * a * e - b * d) * (16 * a * e - b * d) * (16 * a * e - b * d)) := by
  have key : a * a * a * a * a * a * (16 * bendV a b c d e - 27 * ((16 * a * e - b * d) * (16 * a * e - b * d) * (16 * a * e - b * d))) = 0 := by
    unfold bendV bendI bendJ
    grind
  have a6 : a * a * a * a * a * a ≠ 0 := mul_ne (mul_ne (mul_ne (mul_ne (mul_ne ha ha) ha) ha) ha) ha
  rcases Int.mul_eq_zero.mp key with h | h
  · exact absurd h a6
  · omega
theorem rR_hom (g x y z t u v w : Int) : rR (u * g) (v * g) (w * g) (rP x y z t (u * g) (v * g) (w * g)) (rQ x y z t (u * g) (v * g) (w * g)) = g * g * g * g * g * rR u v w (rP x y z t u v w) (rQ x y z t u v w) := by
  unfold rR rP rQ
  grind
theorem pow5_ne {g : Int} (h : g ≠ 0) : g * g * g * g * g ≠ 0 := mul_ne (mul_ne (mul_ne (mul_ne h h) h) h) h
theorem eu4 {n : Nat} {a b c d e : Int} (ha : a ≠ 0) : euS (n + 4) [a, b, c, d, e] [4 * a, 3 * b, 2 * c, d] = !decide (bendV a b c d e = 0) := by
  have i1 := id4 a b c d e
  have i2 := id4b a b c d e
  have i3 := id4c a b c d e
  have hs : innS (([a, b, c, d, e] : List Int).length + 1) [a, b, c, d, e] [4 * a, 3 * b, 2 * c, d] = [(8 * a * c - 3 * b * b) * a, (12 * a * d - 2 * b * c) * a, (16 * a * e - b * d) * a] := by
    show innS 6 [a, b, c, d, e] [4 * a, 3 * b, 2 * c, d] = _
    rw [inn_go (by simp), inn_go (by simp [elimS]), inn_stop (by simp [elimS])]
    simp [elimS, List.replicate]
    grind
  generalize 8 * a * c - 3 * b * b = A at hs i1 i2 i3
  generalize 12 * a * d - 2 * b * c = B at hs i1 i2 i3
  generalize 16 * a * e - b * d = C at hs i1 i2 i3
  have ht : (1 : Nat) < ([4 * a, 3 * b, 2 * c, d] : List Int).length := by simp
  by_cases hA : A = 0
  · subst hA
    by_cases hB : B = 0
    · subst hB
      have i4 := i3 rfl rfl ha
      rw [Int.zero_mul] at hs
      by_cases hC : C = 0
      · subst hC
        rw [eu_no (n := n + 3) ht hs (by rw [Int.zero_mul]; rfl), decide_eq_true (by omega)]
        rfl
      · have c0 : C * a ≠ 0 := mul_ne hC ha
        rw [eu_go (n := n + 3) ht hs (by rw [strip0, strip0, stripN c0]; exact fun z => nomatch z), strip0, strip0, stripN c0]
        obtain ⟨y, hy, y0⟩ := plain1 c0
        have : C * C * C ≠ 0 := mul_ne (mul_ne hC hC) hC
        rw [hy, decide_eq_false (by omega)]
        exact eu1 y0
    · have b0 : B * a ≠ 0 := mul_ne hB ha
      rw [Int.zero_mul] at hs
      rw [eu_go (n := n + 3) ht hs (by rw [strip0, stripN b0]; exact fun z => nomatch z), strip0, stripN b0]
      obtain ⟨g, g0, hg⟩ := plain_mul (nz_of b0 [C * a])
      have h1 := hg _ List.mem_cons_self
      have h2 := hg (C * a) (List.mem_cons_of_mem _ List.mem_cons_self)
      show euS (n + 3) _ [(B * a).fdiv (plainD [B * a, C * a]), (C * a).fdiv (plainD [B * a, C * a])] = _
      generalize (B * a).fdiv (plainD [B * a, C * a]) = u at h1 ⊢
      generalize (C * a).fdiv (plainD [B * a, C * a]) = v at h2 ⊢
      have u0 : u ≠ 0 := fun z => b0 (by rw [← h1, z, Int.zero_mul])
      rw [eu_31 (n := n + 1) u0]
      refine dec_iff (zero_iff (k := 27 * (g * g * g)) (m := -64 * a * (a * a * a)) (mul_ne (by decide) (mul_ne (mul_ne g0 g0) g0)) (mul_ne (mul_ne (by decide) ha) (mul_ne (mul_ne ha ha) ha)) ?_)
      have i5 := i2 rfl
      clear i1 i2 i3 hs hg
      grind
  · have a0 : A * a ≠ 0 := mul_ne hA ha
    rw [eu_go (n := n + 3) ht hs (by rw [stripN a0]; exact fun z => nomatch z), stripN a0]
    obtain ⟨g, g0, hg⟩ := plain_mul (nz_of a0 [B * a, C * a])
    have h1 := hg _ List.mem_cons_self
    have h2 := hg (B * a) (List.mem_cons_of_mem _ List.mem_cons_self)
    have h3 := hg (C * a) (List.mem_cons_of_mem _ (List.mem_cons_of_mem _ List.mem_cons_self))
    show euS (n + 3) _ [(A * a).fdiv (plainD [A * a, B * a, C * a]), (B * a).fdiv (plainD [A * a, B * a, C * a]), (C * a).fdiv (plainD [A * a, B * a, C * a])] = _
    generalize (A * a).fdiv (plainD [A * a, B * a, C * a]) = u at h1 ⊢
    generalize (B * a).fdiv (plainD [A * a, B * a, C * a]) = v at h2 ⊢
    generalize (C * a).fdiv (plainD [A * a, B * a, C * a]) = w at h3 ⊢
    have u0 : u ≠ 0 := fun z => a0 (by rw [← h1, z, Int.zero_mul])
    rw [eu_32 u0]
    refine dec_iff (zero_iff (k := 27 * (g * g * g * g * g)) (m := a * a * a * a * a * (256 * a * a * A * A)) (mul_ne (by decide) (pow5_ne g0)) (mul_ne (pow5_ne ha) (mul_ne (mul_ne (mul_ne (mul_ne (by decide) ha) ha) hA) hA)) ?_)
    have e1 := rR_hom g (4 * a) (3 * b) (2 * c) d u v w
    have e2 := rR_hom a (4 * a) (3 * b) (2 * c) d A B C
    rw [h1, h2, h3, e2] at e1
    rw [Int.mul_assoc 27, ← e1, ← Int.mul_assoc, Int.mul_comm 27, Int.mul_assoc (a * a * a * a * a), i1, ← Int.mul_assoc]
theorem id3 (b c d e : Int) : bendV 0 b c d e = -(3 * b) * (3 * b * (9 * b * e - c * d) * (9 * b * e - c * d) - 2 * c * (6 * b * d - 2 * c * c) * (9 * b * e - c * d) + d * (6 * b * d - 2 * c * c) * (6 * b * d - 2 * c * c)) := by
  unfold bendV bendI bendJ
  grind
theorem eu3 {n : Nat} {b c d e : Int} (hb : b ≠ 0) : euS (n + 3) [b, c, d, e] [3 * b, 2 * c, d] = !decide (bendV 0 b c d e = 0) := by
  have i1 := id3 b c d e
  have hs : innS (([b, c, d, e] : List Int).length + 1) [b, c, d, e] [3 * b, 2 * c, d] = [(6 * b * d - 2 * c * c) * b, (9 * b * e - c * d) * b] := by
    show innS 5 [b, c, d, e] [3 * b, 2 * c, d] = _
    rw [inn_go (by simp), inn_go (by simp [elimS]), inn_stop (by simp [elimS])]
    simp [elimS, List.replicate]
    grind
  generalize 6 * b * d - 2 * c * c = A at hs i1
  generalize 9 * b * e - c * d = B at hs i1
  have ht : (1 : Nat) < ([3 * b, 2 * c, d] : List Int).length := by simp
  have b3 : -(3 * b) ≠ 0 := by omega
  by_cases hA : A = 0
  · subst hA
    rw [Int.zero_mul] at hs
    have i2 : bendV 0 b c d e = -(3 * b) * (3 * b * (B * B)) := by
      rw [i1]
      grind
    by_cases hB : B = 0
    · subst hB
      rw [eu_no (n := n + 2) ht hs (by rw [Int.zero_mul]; rfl), i2, Int.zero_mul, Int.mul_zero, Int.mul_zero]
      rfl
    · have b0 : B * b ≠ 0 := mul_ne hB hb
      rw [eu_go (n := n + 2) ht hs (by rw [strip0, stripN b0]; exact fun z => nomatch z), strip0, stripN b0]
      obtain ⟨y, hy, y0⟩ := plain1 b0
      rw [hy, decide_eq_false (by rw [i2]; exact mul_ne b3 (mul_ne (by omega) (mul_ne hB hB)))]
      exact eu1 y0
  · have a0 : A * b ≠ 0 := mul_ne hA hb
    rw [eu_go (n := n + 2) ht hs (by rw [stripN a0]; exact fun z => nomatch z), stripN a0]
    obtain ⟨g, g0, hg⟩ := plain_mul (nz_of a0 [B * b])
    have h1 := hg _ List.mem_cons_self
    have h2 := hg (B * b) (List.mem_cons_of_mem _ List.mem_cons_self)
    show euS (n + 2) _ [(A * b).fdiv (plainD [A * b, B * b]), (B * b).fdiv (plainD [A * b, B * b])] = _
    generalize (A * b).fdiv (plainD [A * b, B * b]) = u at h1 ⊢
    generalize (B * b).fdiv (plainD [A * b, B * b]) = v at h2 ⊢
    have u0 : u ≠ 0 := fun z => a0 (by rw [← h1, z, Int.zero_mul])
    rw [eu_21 u0]
    refine dec_iff (zero_iff (k := -(3 * b) * (g * g)) (m := b * b) (mul_ne b3 (mul_ne g0 g0)) (mul_ne hb hb) ?_)
    rw [i1]
    clear hs hg i1
    grind
/-! the loops -/
def LB (n : Nat) (l : List Int) : Prop := ∀ x ∈ l, x.natAbs < 10 ^ n
theorem LB.le {n m : Nat} {l : List Int} (h : LB n l) (k : n ≤ m) : LB m l := fun x hx => bd_le (h x hx) k
theorem LB.drop {n k : Nat} {l : List Int} (h : LB n l) : LB n (l.drop k) := fun x hx => h x (List.mem_of_mem_drop hx)
theorem LB.hd {n : Nat} {l : List Int} (h : LB n l) (h0 : l ≠ []) : (l.headD 0).natAbs < 10 ^ n := by
  cases l with
  | nil => exact absurd rfl h0
  | cons x xs => exact h x List.mem_cons_self
theorem elimS_len {l r : List Int} (h : r.length ≤ l.length) : (elimS l r).length = l.length - 1 := by
  unfold elimS
  rw [List.length_drop, List.length_map, List.length_zip, List.length_append, List.length_replicate]
  omega
theorem elimS_bd {n m : Nat} {l r : List Int} (hl : LB n l) (hr : LB m r) (h0 : l ≠ []) (h1 : r ≠ []) : LB (m + n + 1) (elimS l r) := by
  intro x hx
  unfold elimS at hx
  obtain ⟨⟨y, z⟩, hp, rfl⟩ := List.mem_map.mp (List.mem_of_mem_drop hx)
  obtain ⟨m1, m2⟩ := List.of_mem_zip hp
  have b1 := hl y m1
  have b2 : z.natAbs < 10 ^ m := by
    rcases List.mem_append.mp m2 with m2 | m2
    · exact hr z m2
    · rw [(List.mem_replicate.mp m2).2]
      exact Nat.pow_pos (by decide)
  have b3 := bd_mul (hr.hd h1) b1
  have b4 := bd_mul (hl.hd h0) b2
  have b5 := bd_sub b3 (bd_le b4 (show n + m ≤ m + n by omega))
  rw [show Nat.max (m + n) (m + n) = m + n from Nat.max_self _] at b5
  exact b5
def prI : D → Int × Int
  | .py (.tuple [.int x, .int y]) => (x, y)
  | _ => (0, 0)
/-- where the two lists stand, how long and how great they are -/
def Sz (l r : List Int) : Prop := (l.length = 5 ∧ r.length = 4 ∧ LB 3420 l ∧ LB 3420 r) ∨ (l.length = 4 ∧ (r.length = 3 ∨ r.length = 2) ∧ LB 3420 l ∧ LB 10262 r) ∨ (l.length = 3 ∧ r.length = 2 ∧ LB 10262 l ∧ LB 23946 r) ∨ r.length = 1
/-- the bound of what is left in a turn -/
theorem plainL_len (l : List Int) : (plainL l).length = l.length := by
  unfold plainL
  rw [List.length_map]
theorem plainL_bd {n : Nat} {l : List Int} (hz : nz l ≠ []) (h : LB n l) : LB n (plainL l) := by
  intro x hx
  obtain ⟨y, hy, rfl⟩ := List.mem_map.mp hx
  obtain ⟨g, g0, hg⟩ := plain_mul hz
  have e := hg y hy
  have b := h y hy
  rw [← e, Int.natAbs_mul] at b
  exact Nat.lt_of_le_of_lt (Nat.le_mul_of_pos_right _ (by omega)) b
theorem strip_suffix : ∀ l : List Int, ∃ k, stripS l = l.drop k
  | [] => ⟨0, rfl⟩
  | x :: xs => by
    by_cases h : x = 0
    · obtain ⟨k, hk⟩ := strip_suffix xs
      refine ⟨k + 1, ?_⟩
      rw [h, strip0, hk]
      rfl
    · exact ⟨0, stripN h xs⟩
theorem strip_head {l : List Int} (h : stripS l ≠ []) : ∃ x xs, stripS l = x :: xs ∧ x ≠ 0 := by
  induction l with
  | nil => exact absurd rfl h
  | cons x xs ih =>
    by_cases h0 : x = 0
    · rw [h0, strip0] at h ⊢
      exact ih h
    · exact ⟨x, xs, stripN h0 xs, h0⟩
theorem inn_spec : ∀ (n : Nat) (l r : List Int) (c b : Nat), r ≠ [] → l.length < n + r.length → r.length ≤ l.length + 1 → LB c l → LB b r → (innS n l r).length + 1 = r.length ∧ LB (c + (l.length + 1 - r.length) * (b + 1)) (innS n l r)
  | 0, l, r, c, b, _, h1, h2, hl, _ => by
    refine ⟨by show l.length + 1 = _; omega, ?_⟩
    exact LB.le (show LB c l from hl) (by omega)
  | n + 1, l, r, c, b, h0, h1, h2, hl, hr => by
    by_cases h : r.length ≤ l.length
    · rw [inn_go h]
      have l0 : l ≠ [] := fun e => by
        subst e
        have : 0 < r.length := List.length_pos_iff.mpr h0
        rw [List.length_nil] at h
        omega
      have p0 : 0 < l.length := List.length_pos_iff.mpr l0
      have e := elimS_len h
      obtain ⟨i1, i2⟩ := inn_spec n (elimS l r) r (b + c + 1) b h0 (by omega) (by omega) (elimS_bd hl hr l0 h0) hr
      refine ⟨i1, LB.le i2 ?_⟩
      rw [e]
      have e2 : l.length + 1 - r.length = (l.length - 1 + 1 - r.length) + 1 := by omega
      rw [e2, Nat.add_mul, Nat.one_mul]
      omega
    · rw [inn_stop (by omega)]
      exact ⟨by omega, LB.le hl (by omega)⟩
theorem Sz_go {l r : List Int} (h : Sz l r) (h1 : 1 < r.length) : r.length ≤ l.length ∧ LB 23946 r ∧ LB 10262 l ∧ LB 58156 (innS (l.length + 1) l r) ∧ (innS (l.length + 1) l r).length + 1 = r.length ∧
    (stripS (innS (l.length + 1) l r) ≠ [] → Sz r (plainL (stripS (innS (l.length + 1) l r)))) := by
  have r0 : r ≠ [] := fun e => by
    rw [e] at h1
    simp at h1
  have go : ∀ c b : Nat, r.length ≤ l.length → LB c l → LB b r → (innS (l.length + 1) l r).length + 1 = r.length ∧ LB (c + (l.length + 1 - r.length) * (b + 1)) (innS (l.length + 1) l r) := fun c b hle hl hr =>
    inn_spec (l.length + 1) l r c b r0 (by omega) (by omega) hl hr
  have fin : ∀ n : Nat, LB n (innS (l.length + 1) l r) → stripS (innS (l.length + 1) l r) ≠ [] → (plainL (stripS (innS (l.length + 1) l r))).length ≤ (innS (l.length + 1) l r).length ∧ 0 < (plainL (stripS (innS (l.length + 1) l r))).length ∧ LB n (plainL (stripS (innS (l.length + 1) l r))) := by
    intro n hn hs
    obtain ⟨k, hk⟩ := strip_suffix (innS (l.length + 1) l r)
    obtain ⟨x, xs, e, x0⟩ := strip_head hs
    have hz : nz (stripS (innS (l.length + 1) l r)) ≠ [] := by
      rw [e]
      exact nz_of x0 xs
    refine ⟨?_, ?_, plainL_bd hz ?_⟩
    · rw [plainL_len, hk, List.length_drop]
      omega
    · rw [plainL_len, e]
      exact Nat.zero_lt_succ _
    · rw [hk]
      exact hn.drop
  rcases h with ⟨a1, a2, a3, a4⟩ | ⟨a1, a2, a3, a4⟩ | ⟨a1, a2, a3, a4⟩ | a
  · obtain ⟨g1, g2⟩ := go 3420 3420 (by omega) a3 a4
    have g3 : LB 10262 (innS (l.length + 1) l r) := g2.le (by rw [a1, a2]; decide)
    refine ⟨by omega, a4.le (by decide), a3.le (by decide), g3.le (by decide), g1, fun hs => ?_⟩
    obtain ⟨f1, f2, f3⟩ := fin _ g3 hs
    by_cases h2 : (plainL (stripS (innS (l.length + 1) l r))).length = 1
    · exact .inr (.inr (.inr h2))
    · exact .inr (.inl ⟨a2, by omega, a4, f3⟩)
  · obtain ⟨g1, g2⟩ := go 3420 10262 (by omega) a3 a4
    rcases a2 with a2 | a2
    · have g3 : LB 23946 (innS (l.length + 1) l r) := g2.le (by rw [a1, a2]; decide)
      refine ⟨by omega, a4.le (by decide), a3.le (by decide), g3.le (by decide), g1, fun hs => ?_⟩
      obtain ⟨f1, f2, f3⟩ := fin _ g3 hs
      by_cases h2 : (plainL (stripS (innS (l.length + 1) l r))).length = 1
      · exact .inr (.inr (.inr h2))
      · exact .inr (.inr (.inl ⟨a2, by omega, a4, f3⟩))
    · have g3 : LB 58156 (innS (l.length + 1) l r) := g2.le (by rw [a1, a2]; decide)
      refine ⟨by omega, a4.le (by decide), a3.le (by decide), g3, g1, fun hs => ?_⟩
      obtain ⟨f1, f2, f3⟩ := fin _ g3 hs
      exact .inr (.inr (.inr (by omega)))
  · obtain ⟨g1, g2⟩ := go 10262 23946 (by omega) a3 a4
    have g3 : LB 58156 (innS (l.length + 1) l r) := g2.le (by rw [a1, a2]; decide)
    refine ⟨by omega, a4, a3, g3, g1, fun hs => ?_⟩
    obtain ⟨f1, f2, f3⟩ := fin _ g3 hs
    exact .inr (.inr (.inr (by omega)))
  · omega
theorem Sz_b {l r : List Int} (h : Sz l r) (h1 : 1 < r.length) : ∃ c b, LB c l ∧ LB b r ∧ b ≤ 23946 ∧ c + (l.length + 1 - r.length) * (b + 1) ≤ 58156 := by
  rcases h with ⟨a1, a2, a3, a4⟩ | ⟨a1, a2, a3, a4⟩ | ⟨a1, a2, a3, a4⟩ | a
  · exact ⟨3420, 3420, a3, a4, by decide, by rw [a1, a2]; decide⟩
  · rcases a2 with a2 | a2
    · exact ⟨3420, 10262, a3, a4, by decide, by rw [a1, a2]; decide⟩
    · exact ⟨3420, 10262, a3, a4, by decide, by rw [a1, a2]; decide⟩
  · exact ⟨10262, 23946, a3, a4, by decide, by rw [a1, a2]; decide⟩
  · omega
def F_law_is_straight (_ : Ad) : DSp := fun ds O κ _ => ∃ c0 c1 c2 c3 c4 c5 : Int, ds = [.py (six c0 c1 c2 c3 c4 c5)] ∧ sixB 1700 c0 c1 c2 c3 c4 c5 ∧ κ (.py (.bool (strB c0 c1 c2 c3 c4 c5))) O
theorem len_law_is_straight (a : Ad) : ∀ ds O κ ε, F_law_is_straight a ds O κ ε → ds.length = (["numbers_here"] : List Str).length := by
  rintro _ O κ ε ⟨c0, c1, c2, c3, c4, c5, rfl, _⟩
  rfl
theorem ls_law_is_straight {G : Gs} {a : Ad} : ∀ (B0 : Hp) ds O κ ε, F_law_is_straight a ds O κ ε → LS G B0 (t_law_is_straight G a) (startR N_law_is_straight ds) O (fun _ O' => κ (.py .none) O') κ (fun _ _ => False) (fun _ _ => False) := by
  rintro B0 _ O κ ε ⟨c0, c1, c2, c3, c4, c5, rfl, h6, k⟩
  have i0 : BdI c0 1700 := ⟨h6.1⟩
  have i1 : BdI c1 1700 := ⟨h6.2.1⟩
  have i2 : BdI c2 1700 := ⟨h6.2.2.1⟩
  have i3 : BdI c3 1700 := ⟨h6.2.2.2.1⟩
  have i4 : BdI c4 1700 := ⟨h6.2.2.2.2.1⟩
  have i5 : BdI c5 1700 := ⟨h6.2.2.2.2.2⟩
  have b4 : BdI (q4 c0 c1 c2 c3 c4 c5) 3410 := ⟨by unfold q4; exact bd_to 3410⟩
  have b3 : BdI (q3 c0 c1 c2 c3 c4 c5) 3410 := ⟨by unfold q3; exact bd_to 3410⟩
  have b2 : BdI (q2 c0 c1 c2 c3 c4 c5) 3410 := ⟨by unfold q2; exact bd_to 3410⟩
  have b1 : BdI (q1 c0 c1 c2 c3 c4 c5) 3410 := ⟨by unfold q1; exact bd_to 3410⟩
  have b0 : BdI (q0 c0 c1 c2 c3 c4 c5) 3410 := ⟨by unfold q0; exact bd_to 3410⟩
  unfold strB at k
  unfold t_law_is_straight
  walk_at "k"
  refine ⟨_, _, _, _, _, _, rfl, h6, ?_⟩
  unfold quD
  generalize q4 c0 c1 c2 c3 c4 c5 = a4 at k b4 ⊢
  generalize q3 c0 c1 c2 c3 c4 c5 = a3 at k b3 ⊢
  generalize q2 c0 c1 c2 c3 c4 c5 = a2 at k b2 ⊢
  generalize q1 c0 c1 c2 c3 c4 c5 = a1 at k b1 ⊢
  generalize q0 c0 c1 c2 c3 c4 c5 = a0 at k b0 ⊢
  walk_at "k"
  refine ls_if (LT.imp (κ := fun b O' => b = decide (a4 = 0 ∧ a3 = 0) ∧ O = O') ?_ ?_)
  · walk_at "l"
    refine if_dec (fun h4 => ?_) (fun h4 => ?_)
    · walk_at "l"
      refine ⟨?_, rfl⟩
      by_cases h3 : a3 = 0
      · rw [decide_eq_true h3, decide_eq_true ⟨h4, h3⟩]
      · rw [decide_eq_false h3, decide_eq_false (fun z => h3 z.2)]
    · exact ⟨(decide_eq_false (fun z => h4 z.1)).symm, rfl⟩
  rintro _ _ ⟨rfl, rfl⟩
  refine if_dec (fun h => ?_) (fun h => ?_)
  · obtain ⟨h4, h3⟩ := h
    subst h4
    subst h3
    have e : bendV 0 0 a2 a1 a0 = 0 := by
      unfold bendV bendI bendJ
      grind
    rw [decide_eq_true e] at k
    walk_at "l"
    exact k
  refine ls_next ?_
  walk_at "le"
  walk_at "le"
  refine LE.imp (κ := fun d O' => O = O' ∧ ((a4 ≠ 0 ∧ d = .py (inL [a4, a3, a2, a1, a0])) ∨ (a4 = 0 ∧ a3 ≠ 0 ∧ d = .py (inL [a3, a2, a1, a0])))) ?_ ?_
  · walk_at "l"
    refine if_ndec (fun h4 => ?_) (fun h4 => ?_)
    · walk_at "l"
      exact ⟨rfl, .inl ⟨h4, rfl⟩⟩
    · walk_at "l"
      exact ⟨rfl, .inr ⟨h4, fun z => h ⟨h4, z⟩, rfl⟩⟩
  rintro d _ ⟨rfl, hd⟩
  obtain ⟨hl, rfl, hsz⟩ : ∃ hl : List Int, d = .py (inL hl) ∧ ((a4 ≠ 0 ∧ hl = [a4, a3, a2, a1, a0]) ∨ (a4 = 0 ∧ a3 ≠ 0 ∧ hl = [a3, a2, a1, a0])) := by
    rcases hd with ⟨h1, h2⟩ | ⟨h1, h2, h3⟩
    · exact ⟨_, h2, .inl ⟨h1, rfl⟩⟩
    · exact ⟨_, h3, .inr ⟨h1, h2, rfl⟩⟩
  walk_at "le"
  walk_at "le"
  refine LE.imp (κ := fun d O' => O = O' ∧ d = .py (.int ((hl.length : Int) - 1))) ?_ ?_
  · walk_at "l"
    exact ⟨rfl, by rw [List.length_map]⟩
  rintro d _ ⟨rfl, rfl⟩
  walk_at "le"
  walk_at "le"
  refine LA.imp (κ := fun ds O' => O = O' ∧ ∃ r : List Int, ds = [.py (inL hl), .py (inL r)] ∧ Sz hl r ∧ r ≠ [] ∧ ∃ j, euS (r.length + j) hl r = !decide (bendV a4 a3 a2 a1 a0 = 0)) ?_ ?_
  · rcases hsz with ⟨h4, rfl⟩ | ⟨h4, h3, rfl⟩
    · have hb5 : LB 3420 [a4, a3, a2, a1, a0] := by
        intro u hu
        simp only [List.mem_cons, List.not_mem_nil, or_false] at hu
        rcases hu with rfl | rfl | rfl | rfl | rfl <;> exact bd_to 3420
      have hb4 : LB 3420 [4 * a4, 3 * a3, 2 * a2, 1 * a1] := by
        intro u hu
        simp only [List.mem_cons, List.not_mem_nil, or_false] at hu
        rcases hu with rfl | rfl | rfl | rfl <;> exact bd_to 3420
      rw [show ((([a4, a3, a2, a1, a0] : List Int).length : Nat) : Int) - 1 = 4 from rfl]
      walk_at "l"
      refine le_map (fun d => .int ((4 - (prI d).1) * (prI d).2)) (fun _ => true) (gin_pair List.mem_cons_self (List.mem_cons_of_mem _ List.mem_cons_self)) (li_enum ?_)
      walk_at "l"
      rw [show cutD (List.map PyData.int [a4, a3, a2, a1, a0]) none (some (-1)) = [.int a4, .int a3, .int a2, .int a1] from rfl]
      refine ⟨by simp, ?_, ?_⟩
      · intro d hd r acc hr
        obtain ⟨i, hi, rfl⟩ := List.mem_map.mp hd
        have hi4 : i < 4 := List.mem_range.mp hi
        have : i = 0 ∨ i = 1 ∨ i = 2 ∨ i = 3 := by omega
        rcases this with rfl | rfl | rfl | rfl
        · show LG G B0 _ (.py (.tuple [.int 0, .int a4])) _ _ _
          walk_at "l"
          refine ⟨rfl, ?_⟩
          walk_at "l"
          refine ⟨rfl, rfl, fun _ => ?_⟩
          walk_at "l"
          exact ⟨rfl, rfl⟩
        · show LG G B0 _ (.py (.tuple [.int 1, .int a3])) _ _ _
          walk_at "l"
          refine ⟨rfl, ?_⟩
          walk_at "l"
          refine ⟨rfl, rfl, fun _ => ?_⟩
          walk_at "l"
          exact ⟨rfl, rfl⟩
        · show LG G B0 _ (.py (.tuple [.int 2, .int a2])) _ _ _
          walk_at "l"
          refine ⟨rfl, ?_⟩
          walk_at "l"
          refine ⟨rfl, rfl, fun _ => ?_⟩
          walk_at "l"
          exact ⟨rfl, rfl⟩
        · show LG G B0 _ (.py (.tuple [.int 3, .int a1])) _ _ _
          walk_at "l"
          refine ⟨rfl, ?_⟩
          walk_at "l"
          refine ⟨rfl, rfl, fun _ => ?_⟩
          walk_at "l"
          exact ⟨rfl, rfl⟩
      · walk_at "l"
        refine ⟨rfl, [4 * a4, 3 * a3, 2 * a2, 1 * a1], rfl, .inl ⟨rfl, rfl, hb5, hb4⟩, (fun z => nomatch z), 0, ?_⟩
        rw [Int.one_mul]
        exact eu4 (n := 0) h4
    · have hb5 : LB 3420 [a3, a2, a1, a0] := by
        intro u hu
        simp only [List.mem_cons, List.not_mem_nil, or_false] at hu
        rcases hu with rfl | rfl | rfl | rfl <;> exact bd_to 3420
      have hb4 : LB 3420 [3 * a3, 2 * a2, 1 * a1] := by
        intro u hu
        simp only [List.mem_cons, List.not_mem_nil, or_false] at hu
        rcases hu with rfl | rfl | rfl <;> exact bd_to 3420
      rw [show ((([a3, a2, a1, a0] : List Int).length : Nat) : Int) - 1 = 3 from rfl]
      walk_at "l"
      refine le_map (fun d => .int ((3 - (prI d).1) * (prI d).2)) (fun _ => true) (gin_pair List.mem_cons_self (List.mem_cons_of_mem _ List.mem_cons_self)) (li_enum ?_)
      walk_at "l"
      rw [show cutD (List.map PyData.int [a3, a2, a1, a0]) none (some (-1)) = [.int a3, .int a2, .int a1] from rfl]
      refine ⟨by simp, ?_, ?_⟩
      · intro d hd r acc hr
        obtain ⟨i, hi, rfl⟩ := List.mem_map.mp hd
        have hi4 : i < 3 := List.mem_range.mp hi
        have : i = 0 ∨ i = 1 ∨ i = 2 := by omega
        rcases this with rfl | rfl | rfl
        · show LG G B0 _ (.py (.tuple [.int 0, .int a3])) _ _ _
          walk_at "l"
          refine ⟨rfl, ?_⟩
          walk_at "l"
          refine ⟨rfl, rfl, fun _ => ?_⟩
          walk_at "l"
          exact ⟨rfl, rfl⟩
        · show LG G B0 _ (.py (.tuple [.int 1, .int a2])) _ _ _
          walk_at "l"
          refine ⟨rfl, ?_⟩
          walk_at "l"
          refine ⟨rfl, rfl, fun _ => ?_⟩
          walk_at "l"
          exact ⟨rfl, rfl⟩
        · show LG G B0 _ (.py (.tuple [.int 2, .int a1])) _ _ _
          walk_at "l"
          refine ⟨rfl, ?_⟩
          walk_at "l"
          refine ⟨rfl, rfl, fun _ => ?_⟩
          walk_at "l"
          exact ⟨rfl, rfl⟩
      · walk_at "l"
        refine ⟨rfl, [3 * a3, 2 * a2, 1 * a1], rfl, .inr (.inl ⟨rfl, .inl rfl, hb5, hb4.le (by decide)⟩), (fun z => nomatch z), 0, ?_⟩
        rw [Int.one_mul]
        rw [h4]
        exact eu3 (n := 0) h3
  rintro ds _ ⟨rfl, r, rfl, sz, r0, j, hj⟩
  walk_at "le"
  walk_at "le"
  refine ls_while (fun m ρ' O' => O = O' ∧ ∃ (l r : List Int) (x y z : Option D), ρ' = [some (.py (six c0 c1 c2 c3 c4 c5)), some (.py (inL hl)), some (.py (.int ((hl.length : Int) - 1))), some (.py (inL l)), some (.py (inL r)), none, none, x, y, z, none, none] ∧
    m = r.length ∧ Sz l r ∧ r ≠ [] ∧ ∃ j, euS (r.length + j) l r = !decide (bendV a4 a3 a2 a1 a0 = 0)) r.length ⟨rfl, hl, r, none, none, none, rfl, rfl, sz, r0, j, hj⟩ ?_
  clear hj j r0 sz r
  rintro m ρ' _ ⟨rfl, l, r, x, y, z, rfl, rfl, sz, r0, j, hj⟩
  walk_at "l"
  rw [List.length_map]
  refine if_dec (fun h1 => ?_) (fun h1 => ?_)
  · have h1' : 1 < r.length := by omega
    obtain ⟨g1, g2, g3, g4, g5, g6⟩ := Sz_go sz h1'
    obtain ⟨c, b, hlc, hrb, hb, hcb⟩ := Sz_b sz h1'
    walk_at "le"
    refine ls_while (fun m ρ' O' => O = O' ∧ ∃ (l' : List Int) (x y z : Option D) (c' : Nat), ρ' = [some (.py (six c0 c1 c2 c3 c4 c5)), some (.py (inL hl)), some (.py (.int ((hl.length : Int) - 1))), some (.py (inL l')), some (.py (inL r)), none, none, x, y, z, none, none] ∧
      m = l'.length ∧ LB c' l' ∧ c' + (l'.length + 1 - r.length) * (b + 1) ≤ 58156 ∧ l'.length ≤ 5 ∧ innS (l'.length + 1) l' r = innS (l.length + 1) l r) l.length ⟨rfl, l, x, y, z, c, rfl, rfl, hlc, hcb, ?_, rfl⟩ ?_
    · rcases sz with a | a | a | a <;> omega
    clear hlc hcb x y z c
    rintro m ρ' _ ⟨rfl, l', x, y, z, c, rfl, rfl, hlc, hcb, hl5, hin⟩
    walk_at "l"
    rw [List.length_map, List.length_map]
    refine if_dec (fun h2 => ?_) (fun h2 => ?_)
    · have h2' : r.length ≤ l'.length := by omega
      have l0 : l' ≠ [] := fun e => by
        subst e
        rw [List.length_nil] at h2'
        omega
      have hrb' : LB 23946 r := g2
      have c58156 : c ≤ 58156 := Nat.le_trans (Nat.le_add_right _ _) hcb
      walk_at "l"
      refine lr_ix rfl (at0 l0) ?_
      walk_at "l"
      refine lr_ix rfl (at0 r0) ?_
      walk_at "l"
      rw [List.length_map, List.length_map]
      have en : ((l'.length : Int) - (r.length : Int)).toNat = l'.length - r.length := by omega
      refine lr_rep rfl (fun _ z => nomatch z) (by omega) (by rw [en]; show 1 * _ ≤ _; omega) ?_
      rw [en]
      refine lr_cat rfl rfl (fun _ z => nomatch z) (fun _ z => nomatch z) (by rw [rep0, List.length_map, List.length_map, List.length_replicate]; omega) ?_
      rw [rep0, ← List.map_append]
      walk_at "l"
      refine le_map (fun d => .int (r.headD 0 * (prI d).1 - l'.headD 0 * (prI d).2)) (fun _ => true) (gin_pair List.mem_cons_self (List.mem_cons_of_mem _ List.mem_cons_self)) (li_zip ?_)
      walk_at "l"
      rw [zip_ints]
      refine ⟨by rw [List.length_map, List.length_zip]; omega, ?_, ?_⟩
      · intro d hd r2 acc hr2
        obtain ⟨⟨u, v⟩, hp, rfl⟩ := List.mem_map.mp hd
        obtain ⟨m1, m2⟩ := List.of_mem_zip hp
        have q1 := big_to (bd_le (hlc u m1) (show c ≤ 100000 by omega))
        have q2 : v.natAbs < Big := by
          rcases List.mem_append.mp m2 with m2 | m2
          · exact big_to (bd_le (hrb' v m2) (by decide))
          · rw [(List.mem_replicate.mp m2).2]
            exact big_of (by decide +kernel)
        have q3 := big_to (bd_le (hlc.hd l0) (show c ≤ 100000 by omega))
        have q4 := big_to (bd_le (hrb'.hd r0) (by decide))
        walk_at "l"
        refine ⟨rfl, ?_⟩
        walk_at "l"
        refine ⟨rfl, rfl, fun _ => ?_⟩
        walk_at "le"
        walk_at "le"
        walk_at "le"
        walk_at "le"
        refine lr_mul (mulW q4 q1) ?_
        walk_at "le"
        walk_at "le"
        walk_at "le"
        refine lr_mul (mulW q3 q2) ?_
        walk_at "l"
        exact ⟨rfl, rfl⟩
      · have ez : (((l'.zip (r ++ List.replicate (l'.length - r.length) 0)).map fun p => D.py (.tuple [.int p.1, .int p.2])).filter fun _ => true).map (fun d => PyData.int (r.headD 0 * (prI d).1 - l'.headD 0 * (prI d).2)) =
            ((l'.zip (r ++ List.replicate (l'.length - r.length) 0)).map fun p => r.headD 0 * p.1 - l'.headD 0 * p.2).map PyData.int := by
          rw [List.filter_eq_self.mpr (fun _ _ => rfl), List.map_map, List.map_map]
          rfl
        rw [ez]
        walk_at "l"
        rw [cut_tail]
        have el := elimS_len h2'
        refine ⟨l'.length - 1, by omega, rfl, elimS l' r, _, _, _, b + c + 1, rfl, el.symm, elimS_bd hlc hrb l0 r0, ?_, by omega, ?_⟩
        · rw [el]
          have e2 : l'.length + 1 - r.length = (l'.length - 1 + 1 - r.length) + 1 := by omega
          rw [e2, Nat.add_mul, Nat.one_mul] at hcb
          omega
        · have e3 : (elimS l' r).length + 1 = l'.length := by omega
          rw [e3, ← inn_go h2', hin]
    · have ls : l' = innS (l.length + 1) l r := by
        rw [← hin, inn_stop (by omega)]
      subst ls
      refine ls_seq (ls_while (fun m ρ' O' => O = O' ∧ ∃ (l' : List Int) (x y z : Option D), ρ' = [some (.py (six c0 c1 c2 c3 c4 c5)), some (.py (inL hl)), some (.py (.int ((hl.length : Int) - 1))), some (.py (inL l')), some (.py (inL r)), none, none, x, y, z, none, none] ∧
        m = l'.length ∧ stripS l' = stripS (innS (l.length + 1) l r)) _ ⟨rfl, _, x, y, z, rfl, rfl, rfl⟩ ?_)
      rintro m ρ' _ ⟨rfl, l', x, y, z, rfl, rfl, hst⟩
      walk_at "l"
      refine lr_ne rfl rfl (shaped_ints l') (by decide +kernel) ?_
      have e0 : PyData.eqv (inL l') (.list []) = decide (l' = []) := eqv_ints l' []
      rw [e0]
      have hj' : ∃ j', r.length + j = j' + 1 := ⟨r.length + j - 1, by omega⟩
      obtain ⟨j', hj'⟩ := hj'
      rw [hj'] at hj
      walk_at "l"
      refine if_ndec (fun h3 => ?_) (fun h3 => ?_)
      · obtain ⟨x0, xs, rfl⟩ : ∃ x0 xs, l' = x0 :: xs := by
          cases l' with
          | nil => exact absurd rfl h3
          | cons x0 xs => exact ⟨x0, xs, rfl⟩
        walk_at "l"
        refine lr_ix rfl (at0 h3) ?_
        walk_at "l"
        refine if_dec (fun h4 => ?_) (fun h4 => ?_)
        · walk_at "l"
          rw [cut_tail]
          have h4' : x0 = 0 := h4
          refine ⟨xs.length, by rw [List.length_cons]; omega, rfl, xs, x, y, z, rfl, rfl, ?_⟩
          rw [← hst, h4', strip0]
        · have h4' : x0 ≠ 0 := h4
          rw [stripN h4'] at hst
          have hn : stripS (innS (l.length + 1) l r) ≠ [] := by
            rw [← hst]
            exact fun z => nomatch z
          rw [eu_go (n := j') h1' rfl hn] at hj
          have sz' := g6 hn
          rw [← hst] at hj sz'
          walk_at "l"
          refine lr_eq rfl rfl (shaped_ints _) (by decide +kernel) ?_
          have e1 : PyData.eqv (inL (x0 :: xs)) (.list []) = decide (x0 :: xs = []) := eqv_ints (x0 :: xs) []
          rw [e1]
          walk_at "l"
          refine if_n (fun z => nomatch z) ?_
          walk_at "l"
          obtain ⟨kd, hkd⟩ := strip_suffix (innS (l.length + 1) l r)
          have hl7 : (x0 :: xs).length < r.length := by
            rw [hst, hkd, List.length_drop]
            omega
          have hr5 : r.length ≤ 5 := by
            rcases sz with a | a | a | a <;> omega
          have hbd : LB 58156 (x0 :: xs) := by
            rw [hst, hkd]
            exact g4.drop
          refine ⟨by omega, .inr (.inr trivial), nz_of h4' xs, ?_⟩
          walk_at "l"
          have pl := plainL_len (x0 :: xs)
          refine ⟨(plainL (x0 :: xs)).length, by omega, rfl, r, plainL (x0 :: xs), x, y, z, rfl, rfl, sz', ?_, j' - (plainL (x0 :: xs)).length, ?_⟩
          · intro e
            rw [e] at pl
            cases pl
          · rw [show (plainL (x0 :: xs)).length + (j' - (plainL (x0 :: xs)).length) = j' from by omega]
            exact hj
      · subst h3
        have hn : stripS (innS (l.length + 1) l r) = [] := hst.symm
        rw [eu_no (n := j') h1' rfl hn] at hj
        rw [← hj] at k
        walk_at "l"
        refine lr_eq rfl rfl (by decide +kernel) (by decide +kernel) ?_
        rw [show PyData.eqv (inL []) (.list []) = true from rfl]
        walk_at "l"
        exact k
  · have h1' : r.length = 1 := by
      have := List.length_pos_iff.mpr r0
      omega
    obtain ⟨x0, rfl⟩ := List.length_eq_one_iff.mp h1'
    have hj' : euS ([x0].length + j) l [x0] = !decide (([x0] : List Int) = [0]) := by
      rw [show ([x0] : List Int).length + j = j + 1 from by rw [List.length_singleton]; omega]
      unfold euS
      rw [if_neg (by simp)]
    rw [hj'] at hj
    rw [← hj] at k
    walk_at "l"
    refine lr_ne rfl rfl (shaped_ints _) (by decide +kernel) ?_
    have e1 : PyData.eqv (inL [x0]) (.list [.int 0]) = decide (([x0] : List Int) = [0]) := eqv_ints [x0] [0]
    rw [e1]
    exact k

/-! ### law_known -/
abbrev N_law_known : List Str := ["pool", "found", "again", "here", "some", "pair"]
def t_law_known (G : Gs) (a : Ad) : TS :=
  (tSeq (tAsg (tCall (spD G (F_law_tate a)) [] E0 (tCons (tVar 0) tNil)) (gTup G.K 2 (gCons (gName 1) (gCons (gName 2) gNil))))
    (tSeq (tIfS (tAnd (tTest (tOp (rEqU G.K) (tCall (spD G (F_law_draw a)) [] E0 (tCons (tVar 0) (tCons (tC (.int 3)) tNil))) (tC (.int 0)))) (tAnd (tTest (tOp (rNeU G.K) (tVar 1) (tOp rMulU (tLst (tCons (tC (.int 0)) tNil)) (tC (.int 6))))) (tTr G.K (tCall (spD G (F_law_is_straight a)) [] E0 (tCons (tVar 1) tNil))))) (tSeq (tAsg (tCall (spD G (F_law_plain a)) [] E0 (tCons (tVar 1) tNil)) (gName 1))
    (tIfS (tTest (tOp rLe (tCB (rMax G.K) (tCons (tLc (iList G.K (tVar 1)) (gName 3) tYes (tCB (rAbs) (tCons (tVar 3) tNil)) [3]) tNil)) (tOp rPowU (tC (.int 10)) (tC (.int 8))))) (tRet (tTup (tCons (tVar 1) (tCons (tTup (tCons (tC (.int 1)) (tCons (tC (.int 0)) tNil))) (tCons (tTup (tCons (tC (.int 0)) (tCons (tC (.int 1)) tNil))) (tCons (tVar 2) tNil)))))) tNext)) tNext)
    (tSeq (tAsg (tLst (tCons (tTup (tCons (tLst (tCons (tC (.int 1)) (tCons (tC (.int 0)) (tCons (tC (.int 0)) (tCons (tC (.int 0)) (tCons (tUn rNeg (tC (.int 1))) (tCons (tC (.int 0)) tNil))))))) (tCons (tC (.int 3)) tNil))) (tCons (tTup (tCons (tLst (tCons (tC (.int 1)) (tCons (tC (.int 0)) (tCons (tC (.int 0)) (tCons (tC (.int 1)) (tCons (tUn rNeg (tC (.int 1))) (tCons (tC (.int 1)) tNil))))))) (tCons (tC (.int 4)) tNil))) (tCons (tTup (tCons (tLst (tCons (tC (.int 1)) (tCons (tC (.int 0)) (tCons (tC (.int 0)) (tCons (tC (.int 0)) (tCons (tUn rNeg (tC (.int 1))) (tCons (tC (.int 1)) tNil))))))) (tCons (tC (.int 5)) tNil))) (tCons (tTup (tCons (tLst (tCons (tC (.int 1)) (tCons (tC (.int 0)) (tCons (tC (.int 0)) (tCons (tC (.int 0)) (tCons (tUn rNeg (tC (.int 4))) (tCons (tC (.int 8)) tNil))))))) (tCons (tC (.int 6)) tNil))) tNil))))) (gName 4))
    (tSeq (tAsg (tOp rAddU (tVar 4) (tLst (tCons (tTup (tCons (tLst (tCons (tC (.int 1)) (tCons (tC (.int 0)) (tCons (tC (.int 0)) (tCons (tUn rNeg (tC (.int 4))) (tCons (tUn rNeg (tC (.int 16))) (tCons (tC (.int 64)) tNil))))))) (tCons (tC (.int 7)) tNil))) (tCons (tTup (tCons (tLst (tCons (tC (.int 2)) (tCons (tC (.int 0)) (tCons (tC (.int 0)) (tCons (tUn rNeg (tC (.int 3))) (tCons (tUn rNeg (tC (.int 18))) (tCons (tC (.int 54)) tNil))))))) (tCons (tC (.int 8)) tNil))) (tCons (tTup (tCons (tLst (tCons (tC (.int 1)) (tCons (tC (.int 0)) (tCons (tC (.int 0)) (tCons (tUn rNeg (tC (.int 36))) (tCons (tUn rNeg (tC (.int 144))) (tCons (tC (.int 1728)) tNil))))))) (tCons (tC (.int 9)) tNil))) tNil))))) (gName 4))
    (tSeq (tAsg (tOp rAddU (tVar 4) (tLst (tCons (tTup (tCons (tLst (tCons (tC (.int 1)) (tCons (tC (.int 0)) (tCons (tC (.int 0)) (tCons (tUn rNeg (tC (.int 120))) (tCons (tUn rNeg (tC (.int 576))) (tCons (tC (.int 13824)) tNil))))))) (tCons (tC (.int 10)) tNil))) (tCons (tTup (tCons (tLst (tCons (tC (.int 1)) (tCons (tC (.int 0)) (tCons (tC (.int 0)) (tCons (tC (.int 9030)) (tCons (tUn rNeg (tC (.int 44100))) (tCons (tC (.int 9261000)) tNil))))))) (tCons (tC (.int 12)) tNil))) tNil)))) (gName 4))
    (tSeq (tAsg (tLc (iList G.K (tOp rAddU (tVar 4) (tLst (tCons (tTup (tCons (tLst (tCons (tC (.int 1)) (tCons (tC (.int 0)) (tCons (tC (.int 0)) (tCons (tC (.int 2)) (tCons (tUn rNeg (tC (.int 1))) (tCons (tC (.int 1)) tNil))))))) (tCons (tC (.int 0)) tNil))) tNil)))) (gName 5) tYes (tTup (tCons (tOp (rIx G.K) (tVar 5) (tC (.int 0))) (tCons (tTup (tCons (tC (.int 1)) (tCons (tC (.int 0)) tNil))) (tCons (tTup (tCons (tC (.int 0)) (tCons (tC (.int 1)) tNil))) (tCons (tOp (rIx G.K) (tVar 5) (tC (.int 1))) tNil))))) [5]) (gName 4))
    (tSeq (tAsg (tOp rAddU (tVar 4) (tLst (tCons (tTup (tCons (tLst (tCons (tC (.int 0)) (tCons (tC (.int 1)) (tCons (tC (.int 1)) (tCons (tUn rNeg (tC (.int 9))) (tCons (tC (.int 2)) (tCons (tC (.int 1)) tNil))))))) (tCons (tTup (tCons (tC (.int 1)) (tCons (tC (.int 1)) tNil))) (tCons (tTup (tCons (tC (.int 1)) (tCons (tC (.int 1)) tNil))) (tCons (tC (.int 5)) tNil))))) (tCons (tTup (tCons (tLst (tCons (tC (.int 0)) (tCons (tC (.int 2)) (tCons (tC (.int 0)) (tCons (tUn rNeg (tC (.int 7))) (tCons (tC (.int 0)) (tCons (tC (.int 2)) tNil))))))) (tCons (tTup (tCons (tC (.int 1)) (tCons (tC (.int 1)) tNil))) (tCons (tTup (tCons (tC (.int 2)) (tCons (tC (.int 1)) tNil))) (tCons (tC (.int 3)) tNil))))) tNil)))) (gName 4))
    (tSeq (tAsg (tOp rAddU (tVar 4) (tLst (tCons (tTup (tCons (tLst (tCons (tC (.int 0)) (tCons (tC (.int 1)) (tCons (tC (.int 1)) (tCons (tUn rNeg (tC (.int 7))) (tCons (tC (.int 1)) (tCons (tC (.int 0)) tNil))))))) (tCons (tTup (tCons (tC (.int 1)) (tCons (tC (.int 1)) tNil))) (tCons (tTup (tCons (tC (.int 2)) (tCons (tC (.int 1)) tNil))) (tCons (tC (.int 6)) tNil))))) (tCons (tTup (tCons (tLst (tCons (tC (.int 1)) (tCons (tC (.int 0)) (tCons (tC (.int 1)) (tCons (tUn rNeg (tC (.int 5))) (tCons (tC (.int 0)) (tCons (tC (.int 1)) tNil))))))) (tCons (tTup (tCons (tC (.int 1)) (tCons (tC (.int 1)) tNil))) (tCons (tTup (tCons (tC (.int 2)) (tCons (tC (.int 1)) tNil))) (tCons (tC (.int 4)) tNil))))) tNil)))) (gName 4))
    (tRet (tOp (rIx G.K) (tVar 4) (tCall (spD G (F_law_draw a)) [] E0 (tCons (tVar 0) (tCons (tC (.int 14)) tNil)))))))))))))
def F_law_known (a : Ad) : DSp := fun ds O κ _ => ∃ (p : Addr) (q : List PyData) (n : Int), ds = [.own p] ∧ O p = some q ∧ PoolL q n ∧ n ≤ 800000 ∧
  ∀ (e : Kn) q', e ∈ knownAll → PoolL q' (n + 5) → κ (.py (.tuple [e.1.py, ptD e.2.1, ptD e.2.2.1, .int e.2.2.2])) (oset O p q')
theorem len_law_known (a : Ad) : ∀ ds O κ ε, F_law_known a ds O κ ε → ds.length = (["pool"] : List Str).length := by
  rintro _ O κ ε ⟨p, q, n, rfl, _⟩
  rfl
def kn2 : D → PyData
  | .py (.tuple [x, y]) => .tuple [x, .tuple [.int 1, .int 0], .tuple [.int 0, .int 1], y]
  | _ => .none
def absI (d : D) : PyData := .int ((outI d).natAbs : Int)
theorem ls_law_known {G : Gs} {a : Ad} : ∀ (B0 : Hp) ds O κ ε, F_law_known a ds O κ ε → LS G B0 (t_law_known G a) (startR N_law_known ds) O (fun _ O' => κ (.py .none) O') κ (fun _ _ => False) (fun _ _ => False) := by
  rintro B0 _ O κ ε ⟨p, q, n, rfl, hO, hq, hn, k⟩
  walk_at "s"
  unfold t_law_known
  walk_at "n"
  walk_at "n"
  walk_at "w"
  refine ⟨p, q, n, rfl, hO, hq, by omega, fun kk u v q1 hm hq1 => ?_⟩
  walk_at "u"
  have hbd := of_decide_eq_true (List.all_eq_true.mp tate_bd_all _ hm)
  replace hbd : (tateC kk u v).Bd (10 ^ 39) := hbd
  have hsl : (kk, u, v) ∈ tateAll := hm
  generalize hc : tateC kk u v = c at *
  have hs6 : c.sB 40 := hbd.sB (by decide)
  refine ls_cut (fun ρ' O' => ∃ (f x h : Option D) (q' : List PyData), ρ' = [some (.own p), f, x, h, none, none] ∧ O' = oset O p q' ∧ PoolL q' (n + 4)) ?_ ?_
  · walk_at "n"
    walk_at "w"
    walk_at "d"
    intro r q2 r0 r1 hq2
    rw [oset_oset]
    walk_at "w"
    refine if_dec (fun h0 => ?_) (fun h0 => ?_)
    · walk_at "w"
      refine lr_rep rfl (fun _ z => nomatch z) (by decide) (by decide) ?_
      refine lr_ne rfl rfl rfl rfl ?_
      walk_at "w"
      refine if_b (fun h1 => ?_) (fun h1 => ?_)
      · walk_at "w"
        refine ⟨_, _, _, _, _, _, rfl, six_40 hs6, ?_⟩
        walk_at "w"
        refine if_b (fun h2 => ?_) (fun h2 => ?_)
        · have hb := (strB_iff c).mp h2
          have hz := Co.nz_of_bend hb
          walk_at "w"
          refine ⟨c.list, rfl, Nat.lt_of_lt_of_le (show 6 < 7 by decide) (by decide), .inl ?_, hz, ?_⟩
          · obtain ⟨g1, g2, g3, g4, g5, g6⟩ := hs6
            intro x hx
            have e40 : (10 : Nat) ^ 40 ≤ 10 ^ 1700 := ten_mono (by decide)
            simp only [Co.list, List.mem_cons, List.not_mem_nil, or_false] at hx
            rcases hx with rfl | rfl | rfl | rfl | rfl | rfl <;> omega
          · rw [show plainL c.list = c.plain.list from rfl]
            walk_at "w"
            refine le_map absI (fun _ => true) (gin_name List.mem_cons_self) (li_list ?_)
            walk_at "w"
            refine ⟨by rw [List.length_map, List.length_map]; exact Nat.lt_of_lt_of_le (show 6 < 7 by decide) (by decide), ?_, ?_⟩
            · intro d hd r2 acc hr2
              obtain ⟨d1, h1, rfl⟩ := List.mem_map.mp hd
              obtain ⟨x, h2, rfl⟩ := List.mem_map.mp h1
              refine lg_name ⟨rfl, ?_⟩
              walk_at "w"
              refine ⟨rfl, rfl, fun _ => ?_⟩
              refine le_cb (la_cons (le_var (d := .py (.int x)) rfl (la_nil (lc_abs ⟨rfl, rfl⟩))))
            · walk_at "w"
              refine lc_max (ns := [(c.plain.a.natAbs : Int), c.plain.b.natAbs, c.plain.c.natAbs, c.plain.d.natAbs, c.plain.e.natAbs, c.plain.f.natAbs]) rfl (Nat.succ_pos _) fun m hm1 hm2 => ?_
              walk_at "w"
              refine if_dec (fun h3 => ?_) (fun h3 => ?_)
              · have e8 : ((10 : Int) ^ 8) = 100000000 := by decide
                have hB : c.plain.Bd (10 ^ 8) := by
                  have := hm2 _ (by simp : (c.plain.a.natAbs : Int) ∈ _)
                  have := hm2 _ (by simp : (c.plain.b.natAbs : Int) ∈ _)
                  have := hm2 _ (by simp : (c.plain.c.natAbs : Int) ∈ _)
                  have := hm2 _ (by simp : (c.plain.d.natAbs : Int) ∈ _)
                  have := hm2 _ (by simp : (c.plain.e.natAbs : Int) ∈ _)
                  have := hm2 _ (by simp : (c.plain.f.natAbs : Int) ∈ _)
                  exact ⟨by omega, by omega, by omega, by omega, by omega, by omega⟩
                walk_at "w"
                refine k (c.plain, (1, 0), (0, 1), kk) _ (List.mem_append_right _ (List.mem_map.mpr ⟨(kk, u, v), List.mem_filter.mpr ⟨hsl, ?_⟩, ?_⟩)) (hq2.mono (by omega))
                · show (decide ((tateC kk u v).bend ≠ 0) && decide ((tateC kk u v).plain.Bd (10 ^ 8))) = true
                  rw [hc, decide_eq_true hb, decide_eq_true hB]
                  rfl
                · show ((tateC kk u v).plain, ((1, 0) : Pt), ((0, 1) : Pt), kk) = _
                  rw [hc]
              · walk_at "w"
                exact ⟨_, _, _, _, rfl, rfl, hq2.mono (by omega)⟩
        · walk_at "w"
          exact ⟨_, _, _, _, rfl, rfl, hq2.mono (by omega)⟩
      · walk_at "w"
        exact ⟨_, _, _, _, rfl, rfl, hq2.mono (by omega)⟩
    · walk_at "w"
      exact ⟨_, _, _, _, rfl, rfl, hq2.mono (by omega)⟩
  · rintro ρ' O' ⟨f, x, h, q', rfl, rfl, hq'⟩
    walk_at "w"
    refine le_map kn2 (fun _ => true) (gin_name List.mem_cons_self) (li_list ?_)
    walk_at "w"
    refine ⟨by decide, ?_, ?_⟩
    · intro d hd r2 acc hr2
      obtain ⟨x, y, rfl⟩ : ∃ x y, d = .py (.tuple [x, y]) := by
        simp only [List.map_cons, List.map_nil, List.cons_append, List.nil_append, List.mem_cons, List.not_mem_nil, or_false] at hd
        rcases hd with rfl | rfl | rfl | rfl | rfl | rfl | rfl | rfl | rfl | rfl <;> exact ⟨_, _, rfl⟩
      refine lg_name ⟨rfl, ?_⟩
      walk_at "w"
      refine ⟨rfl, rfl, fun _ => ?_⟩
      refine le_tup (la_cons (le_op (le_var (d := .py (.tuple [x, y])) rfl (le_int (lr_ixT (d := x) rfl ?_)))))
      walk_at "w"
      exact ⟨rfl, rfl⟩
    · walk_at "w"
      walk_at "d"
      intro r q2 r0 r1 hq2
      rw [oset_oset]
      have hq5 : PoolL q2 (n + 5) := hq2.mono (by omega)
      have fin := fun (i : Nat) (hi : i < knownFix.length) => k (knownFix[i]) q2 (List.mem_append_left _ (List.getElem_mem hi)) hq5
      have : r = 0 ∨ r = 1 ∨ r = 2 ∨ r = 3 ∨ r = 4 ∨ r = 5 ∨ r = 6 ∨ r = 7 ∨ r = 8 ∨ r = 9 ∨ r = 10 ∨ r = 11 ∨ r = 12 ∨ r = 13 := by omega
      rcases this with rfl | rfl | rfl | rfl | rfl | rfl | rfl | rfl | rfl | rfl | rfl | rfl | rfl | rfl
      · exact lr_ix rfl rfl (fin 0 (by decide))
      · exact lr_ix rfl rfl (fin 1 (by decide))
      · exact lr_ix rfl rfl (fin 2 (by decide))
      · exact lr_ix rfl rfl (fin 3 (by decide))
      · exact lr_ix rfl rfl (fin 4 (by decide))
      · exact lr_ix rfl rfl (fin 5 (by decide))
      · exact lr_ix rfl rfl (fin 6 (by decide))
      · exact lr_ix rfl rfl (fin 7 (by decide))
      · exact lr_ix rfl rfl (fin 8 (by decide))
      · exact lr_ix rfl rfl (fin 9 (by decide))
      · exact lr_ix rfl rfl (fin 10 (by decide))
      · exact lr_ix rfl rfl (fin 11 (by decide))
      · exact lr_ix rfl rfl (fin 12 (by decide))
      · exact lr_ix rfl rfl (fin 13 (by decide))

/-! ### law_low -/
abbrev N_law_low : List Str := ["over", "under", "left", "right"]
def t_law_low (G : Gs) (a : Ad) : TS :=
  (tSeq (tIfS (tTest (tOp (rEqU G.K) (tVar 1) (tC (.int 0)))) (tRet (tTup (tCons (tC (.int 1)) (tCons (tC (.int 0)) tNil)))) tNext)
    (tSeq (tPar 2 3 (tCons (tCB (rAbs) (tCons (tVar 0) tNil)) (tCons (tCB (rAbs) (tCons (tVar 1) tNil)) tNil)))
    (tSeq (tWhile (tTest (tOp (rNeU G.K) (tVar 3) (tC (.int 0)))) (tPar 2 3 (tCons (tVar 3) (tCons (tOp rModU (tCB (rInt1) (tCons (tVar 2) tNil)) (tVar 3)) tNil))))
    (tSeq (tAsg (tIf (tTest (tOp rGt (tVar 1) (tC (.int 0)))) (tVar 2) (tOp rSubU (tC (.int 0)) (tVar 2))) (gName 2))
    (tRet (tTup (tCons (tOp rFdivU (tVar 0) (tVar 2)) (tCons (tOp rFdivU (tVar 1) (tVar 2)) tNil))))))))
def F_law_low (a : Ad) : DSp := fun ds O κ _ => ∃ x y : Int, ds = [.py (.int x), .py (.int y)] ∧ DivOK x y ∧ κ (.py (lowD x y)) O
theorem len_law_low (a : Ad) : ∀ ds O κ ε, F_law_low a ds O κ ε → ds.length = (["over", "under"] : List Str).length := by
  rintro _ O κ ε ⟨x, y, rfl, _⟩
  rfl
theorem ls_law_low {G : Gs} {a : Ad} : ∀ (B0 : Hp) ds O κ ε, F_law_low a ds O κ ε → LS G B0 (t_law_low G a) (startR N_law_low ds) O (fun _ O' => κ (.py .none) O') κ (fun _ _ => False) (fun _ _ => False) := by
  rintro B0 _ O κ ε ⟨x, y, rfl, hd, k⟩
  unfold t_law_low
  walk_at "l"
  refine if_dec (fun h => ?_) (fun h => ?_)
  · walk_at "l"
    unfold lowD lowA lowB at k
    rw [if_pos h, if_pos h] at k
    exact k
  · walk_at "l"
    refine ls_while (fun m ρ' O' => ∃ l r : Int, ρ' = [some (.py (.int x)), some (.py (.int y)), some (.py (.int l)), some (.py (.int r))] ∧ O' = O ∧ m = r.toNat ∧ 0 ≤ l ∧ 0 ≤ r ∧ Int.gcd l r = Int.gcd x y) y.natAbs ⟨_, _, rfl, rfl, by omega, by omega, by omega, by rw [Int.gcd_eq_natAbs_gcd_natAbs, Int.gcd_eq_natAbs_gcd_natAbs]; rfl⟩ ?_
    rintro m ρ' O' ⟨l, r, rfl, rfl, rfl, hl, hr, hg⟩
    walk_at "l"
    refine if_ndec (fun h => ?_) (fun h => ?_)
    · obtain ⟨g1, g2, g3⟩ := gcd_turn hl hr h
      walk_at "l"
      refine lr_mod h ?_
      walk_at "l"
      exact ⟨_, by omega, r, l.fmod r, rfl, rfl, rfl, hr, g2, g1.trans hg⟩
    · subst h
      have e : l = (Int.gcd x y : Int) := by
        rw [Int.gcd_zero_right] at hg
        omega
      subst e
      have gp := gcd_pos_r (x := x) h
      have hdv := hd.div h
      unfold lowG at hdv
      walk_at "l"
      refine if_dec (fun h' => ?_) (fun h' => ?_)
      · rw [if_pos h'] at hdv
        walk_at "l"
        refine lr_fdiv hdv.1 ?_
        walk_at "l"
        refine lr_fdiv hdv.2 ?_
        walk_at "l"
        unfold lowD lowA lowB lowG at k
        rw [if_neg h, if_neg h, if_pos h'] at k
        exact k
      · rw [if_neg h', ← Int.zero_sub] at hdv
        walk_at "l"
        refine lr_fdiv hdv.1 ?_
        walk_at "l"
        refine lr_fdiv hdv.2 ?_
        walk_at "l"
        unfold lowD lowA lowB lowG at k
        rw [if_neg h, if_neg h, if_neg h'] at k
        rw [Int.zero_sub]
        exact k

/-! ### law_next -/
abbrev N_law_next : List Str := ["numbers_here", "left", "right", "high", "middle", "low", "over", "under"]
def t_law_next (G : Gs) (a : Ad) : TS :=
  (tSeq (tAsg (tCall (spD G (F_law_form a)) [] E0 (tCons (tVar 0) (tCons (tVar 2) tNil))) (gUnl G.K 3 (gCons (gName 3) (gCons (gName 4) (gCons (gName 5) gNil)))))
    (tSeq (tAsg (tVar 1) (gTup G.K 2 (gCons (gName 6) (gCons (gName 7) gNil))))
    (tSeq (tIfS (tAnd (tTest (tOp (rNeU G.K) (tVar 6) (tC (.int 0)))) (tTest (tOp (rNeU G.K) (tVar 7) (tC (.int 0))))) (tRet (tCall (spD G (F_law_low a)) [] E0 (tCons (tOp rMulU (tVar 5) (tVar 7)) (tCons (tOp rMulU (tVar 3) (tVar 6)) tNil)))) tNext)
    (tRet (tIf (tTest (tOp (rEqU G.K) (tVar 6) (tC (.int 0)))) (tCall (spD G (F_law_low a)) [] E0 (tCons (tOp rSubU (tC (.int 0)) (tVar 4)) (tCons (tVar 3) tNil))) (tCall (spD G (F_law_low a)) [] E0 (tCons (tOp rSubU (tC (.int 0)) (tVar 5)) (tCons (tVar 4) tNil))))))))
def F_law_next (a : Ad) : DSp := fun ds O κ _ => ∃ (c0 c1 c2 c3 c4 c5 u v p q : Int), ds = [.py (six c0 c1 c2 c3 c4 c5), .py (.tuple [.int u, .int v]), .py (.tuple [.int p, .int q])] ∧ sixB 100 c0 c1 c2 c3 c4 c5 ∧
  (u.natAbs < 10 ^ 3000 ∧ v.natAbs < 10 ^ 3000 ∧ p.natAbs < 10 ^ 3000 ∧ q.natAbs < 10 ^ 3000) ∧ DivOK (nextD c0 c1 c2 c3 c4 c5 u v p q).1 (nextD c0 c1 c2 c3 c4 c5 u v p q).2 ∧ κ (.py (lowD (nextD c0 c1 c2 c3 c4 c5 u v p q).1 (nextD c0 c1 c2 c3 c4 c5 u v p q).2)) O
theorem len_law_next (a : Ad) : ∀ ds O κ ε, F_law_next a ds O κ ε → ds.length = (["numbers_here", "left", "right"] : List Str).length := by
  rintro _ O κ ε ⟨c0, c1, c2, c3, c4, c5, u, v, p, q, rfl, _⟩
  rfl
theorem ls_law_next {G : Gs} {a : Ad} : ∀ (B0 : Hp) ds O κ ε, F_law_next a ds O κ ε → LS G B0 (t_law_next G a) (startR N_law_next ds) O (fun _ O' => κ (.py .none) O') κ (fun _ _ => False) (fun _ _ => False) := by
  rintro B0 _ O κ ε ⟨c0, c1, c2, c3, c4, c5, u, v, p, q, rfl, h6, ⟨hu, hv, hp, hq⟩, nb, k⟩
  have hi := fV_bd ⟨h6.1⟩ ⟨h6.2.1⟩ ⟨h6.2.2.1⟩ ⟨hp⟩ ⟨hq⟩ trivial
  have lo := fV_bd ⟨h6.2.2.1⟩ ⟨h6.2.2.2.2.1⟩ ⟨h6.2.2.2.2.2⟩ ⟨hp⟩ ⟨hq⟩ trivial
  have big : ∀ {x : Int} {b : Nat}, x.natAbs < 10 ^ b → b ≤ 100000 → x.natAbs < Big := fun h e => big_to (bd_le h e)
  unfold nextD at k nb
  unfold t_law_next
  walk_at "l"
  refine ⟨_, _, _, _, _, _, p, q, rfl, six_up h6, ⟨hp, hq⟩, ?_⟩
  walk_at "l"
  refine if_ndec (fun h1 => ?_) (fun h1 => ?_)
  · walk_at "l"
    refine if_ndec (fun h2 => ?_) (fun h2 => ?_)
    · rw [if_pos ⟨h1, h2⟩] at k nb
      walk_at "l"
      refine lr_mul (mulW (big lo (by omega)) (big hv (by omega))) ?_
      walk_at "l"
      refine lr_mul (mulW (big hi (by omega)) (big hu (by omega))) ?_
      walk_at "l"
      exact ⟨nb, k⟩
    · rw [if_neg (fun z => z.2 h2), if_neg h1] at k nb
      walk_at "l"
      refine if_n h1 ?_
      walk_at "l"
      exact ⟨nb, k⟩
  · rw [if_neg (fun z => z.1 h1), if_pos h1] at k nb
    walk_at "l"
    refine if_y h1 ?_
    walk_at "l"
    exact ⟨nb, k⟩

/-! ### law_chain -/
abbrev N_law_chain : List Str := ["numbers_here", "left", "right", "count_here", "found"]
def t_law_chain (G : Gs) (a : Ad) : TS :=
  (tSeq (tAsg (tLst (tCons (tVar 1) (tCons (tVar 2) tNil))) (gName 4))
    (tSeq (tWhile (tTest (tOp rLt (tCB (rLen G.K) (tCons (tVar 4) tNil)) (tVar 3))) (tDrop (tBM G.K "list" rAppend (tVar 4) (tCons (tCall (spD G (F_law_next a)) [] E0 (tCons (tVar 0) (tCons (tOp (rIx G.K) (tVar 4) (tUn rNeg (tC (.int 2)))) (tCons (tOp (rIx G.K) (tVar 4) (tUn rNeg (tC (.int 1)))) tNil)))) tNil))))
    (tRet (tSl (rSlL G.K) (tVar 4) tNoPart (tPart (tVar 3))))))
def F_law_chain (a : Ad) : DSp := fun ds O κ _ => ∃ (c : Co) (x y : Pt) (cnt : Nat), ds = [.py (six c.a c.b c.c c.d c.e c.f), .py (ptD x), .py (ptD y), .py (.int (cnt : Int))] ∧ Lim c x y cnt ∧
  cnt ≤ 100 ∧ κ (.py (.list (memL c x y cnt))) O
theorem len_law_chain (a : Ad) : ∀ ds O κ ε, F_law_chain a ds O κ ε → ds.length = (["numbers_here", "left", "right", "count_here"] : List Str).length := by
  rintro _ O κ ε ⟨c, x, y, _, rfl, _⟩
  rfl
theorem ls_law_chain {G : Gs} {a : Ad} : ∀ (B0 : Hp) ds O κ ε, F_law_chain a ds O κ ε → LS G B0 (t_law_chain G a) (startR N_law_chain ds) O (fun _ O' => κ (.py .none) O') κ (fun _ _ => False) (fun _ _ => False) := by
  rintro B0 _ O κ ε ⟨c, x, y, cnt, rfl, s, g100, kk⟩
  have h6 := s.six
  unfold t_law_chain
  walk_at "le"
  walk_at "le"
  refine le_lstO ?_
  walk_at "l"
  intro p hp
  walk_at "le"
  refine ls_while (fun m ρ' O' => ∃ j : Nat, m + (j + 2) = max cnt 2 ∧ ρ' = [some (.py (six c.a c.b c.c c.d c.e c.f)), some (.py (ptD x)), some (.py (ptD y)), some (.py (.int (cnt : Int))), some (.own p)] ∧ O' = oset O p (memL c x y (j + 2))) (cnt - 2) ⟨0, by omega, rfl, rfl⟩ ?_
  rintro m ρ' O' ⟨j, hm, rfl, rfl⟩
  walk_at "l"
  rw [memL_len]
  refine if_dec (fun hj => ?_) (fun hj => ?_)
  · have e1 : atI (memL c x y (j + 2)) (-2) = some (ptD (c.mem x y j)) := by
      rw [atI_neg (j := j) (by decide) (by rw [memL_len]; omega)]
      exact memL_get (by omega)
    have e2 : atI (memL c x y (j + 2)) (-1) = some (ptD (c.mem x y (j + 1))) := by
      rw [atI_neg (j := j + 1) (by decide) (by rw [memL_len]; omega)]
      exact memL_get (by omega)
    refine ls_drop (le_append ?_)
    walk_at "l"
    refine ⟨⟨_, oset_same⟩, ?_⟩
    walk_at "l"
    refine lr_ix (asOwn oset_same) e1 ?_
    walk_at "l"
    refine lr_ix (asOwn oset_same) e2 ?_
    walk_at "l"
    have hj : j + 2 < cnt := by omega
    have a1 := s.top j (by omega)
    have b1 := s.top (j + 1) (by omega)
    have c1 := s.top (j + 2) (by omega)
    obtain ⟨d1, d2⟩ := ht_lt (m := 3000) a1 (by omega)
    obtain ⟨d3, d4⟩ := ht_lt (m := 3000) b1 (by omega)
    refine ⟨_, _, _, _, _, _, _, _, _, _, rfl, h6, ⟨d1, d2, d3, d4⟩, DivOK.of_ht (n := 1344) c1 (by decide), ?_⟩
    walk_at "l"
    refine ⟨_, oset_same, by rw [memL_len]; omega, ?_⟩
    refine ⟨m - 1, by omega, j + 1, by omega, rfl, ?_⟩
    rw [oset_oset]
    exact congrArg (oset O p) (memL_succ c x y (j + 2)).symm
  · refine ls_freeze (i := 4) rfl oset_same ?_
    rw [odel_oset hp]
    walk_at "l"
    have e : cutD (memL c x y (j + 2)) none (some (cnt : Int)) = memL c x y cnt := by
      show ((memL c x y (j + 2)).drop (HT.sIx (memL c x y (j + 2)).length 0 none)).take (HT.sIx (memL c x y (j + 2)).length (memL c x y (j + 2)).length (some (cnt : Int)) - HT.sIx (memL c x y (j + 2)).length 0 none) = _
      rw [HT.sIx_none, HT.sIx_nat, memL_len, List.drop_zero, Nat.sub_zero, Nat.min_eq_left (by omega), memL_take _ _ _ _ _ (by omega)]
    rw [e]
    exact kk

/-! ### law_start -/
abbrev N_law_start : List Str := ["pool", "one_here", "two_here", "numbers_here", "turn", "scale", "last", "some", "found", "chain_here", "spot", "here"]
def t_law_start (G : Gs) (a : Ad) : TS :=
  (tSeq (tAsg (tTup (tCons (tOp rSubU (tCall (spD G (F_law_draw a)) [] E0 (tCons (tVar 0) (tCons (tC (.int 9)) tNil))) (tC (.int 4))) (tCons (tOp rAddU (tC (.int 1)) (tCall (spD G (F_law_draw a)) [] E0 (tCons (tVar 0) (tCons (tC (.int 2)) tNil)))) tNil))) (gName 1))
    (tSeq (tAsg (tTup (tCons (tOp rSubU (tCall (spD G (F_law_draw a)) [] E0 (tCons (tVar 0) (tCons (tC (.int 9)) tNil))) (tC (.int 4))) (tCons (tOp rAddU (tC (.int 1)) (tCall (spD G (F_law_draw a)) [] E0 (tCons (tVar 0) (tCons (tC (.int 3)) tNil)))) tNil))) (gName 2))
    (tSeq (tPar 1 2 (tCons (tCall (spD G (F_law_low a)) [] E0 (tCons (tOp (rIx G.K) (tVar 1) (tC (.int 0))) (tCons (tOp (rIx G.K) (tVar 1) (tC (.int 1))) tNil))) (tCons (tCall (spD G (F_law_low a)) [] E0 (tCons (tOp (rIx G.K) (tVar 2) (tC (.int 0))) (tCons (tOp (rIx G.K) (tVar 2) (tC (.int 1))) tNil))) tNil)))
    (tSeq (tAsg (tLc (iRng1 (tCons (tC (.int 5)) tNil)) (gName 4) tYes (tOp rSubU (tCall (spD G (F_law_draw a)) [] E0 (tCons (tVar 0) (tCons (tC (.int 7)) tNil))) (tC (.int 3))) [4]) (gName 3))
    (tSeq (tAsg (tOp rPowU (tOp rMulU (tOp (rIx G.K) (tVar 1) (tC (.int 1))) (tOp (rIx G.K) (tVar 2) (tC (.int 1)))) (tC (.int 2))) (gName 5))
    (tSeq (tAsg (tOp rSubU (tC (.int 0)) (tCall (spD G (F_law_at a)) [] E0 (tCons (tOp rAddU (tVar 3) (tLst (tCons (tC (.int 0)) tNil))) (tCons (tVar 1) (tCons (tVar 2) tNil))))) (gName 6))
    (tSeq (tAsg (tOp rAddU (tLc (iList G.K (tVar 3)) (gName 7) tYes (tOp rMulU (tVar 5) (tVar 7)) [7]) (tLst (tCons (tVar 6) tNil))) (gName 3))
    (tSeq (tIfS (tAnd (tTest (tOp rGt (tCall (spD G (F_law_draw a)) [] E0 (tCons (tVar 0) (tCons (tC (.int 4)) tNil))) (tC (.int 0)))) (tAnd (tTest (tOp (rNeU G.K) (tVar 3) (tOp rMulU (tLst (tCons (tC (.int 0)) tNil)) (tC (.int 6))))) (tTr G.K (tCall (spD G (F_law_is_straight a)) [] E0 (tCons (tVar 3) tNil))))) (tRet (tTup (tCons (tCall (spD G (F_law_plain a)) [] E0 (tCons (tVar 3) tNil)) (tCons (tVar 1) (tCons (tVar 2) tNil))))) tNext)
    (tSeq (tAsg (tCall (spD G (F_law_known a)) [] E0 (tCons (tVar 0) tNil)) (gName 8))
    (tSeq (tAsg (tCall (spD G (F_law_chain a)) [] E0 (tCons (tOp (rIx G.K) (tVar 8) (tC (.int 0))) (tCons (tOp (rIx G.K) (tVar 8) (tC (.int 1))) (tCons (tOp (rIx G.K) (tVar 8) (tC (.int 2))) (tCons (tC (.int 8)) tNil))))) (gName 9))
    (tSeq (tAsg (tCall (spD G (F_law_draw a)) [] E0 (tCons (tVar 0) (tCons (tC (.int 6)) tNil))) (gName 10))
    (tSeq (tIfS (tTest (tOp rGt (tCB (rMax G.K) (tCons (tLc (iList G.K (tSl (rSlL G.K) (tVar 9) (tPart (tVar 10)) (tPart (tOp rAddU (tVar 10) (tC (.int 2)))))) (gName 11) tYes (tCB rMx (tCons (tCB (rAbs) (tCons (tOp (rIx G.K) (tVar 11) (tC (.int 0))) tNil)) (tCons (tOp (rIx G.K) (tVar 11) (tC (.int 1))) tNil))) [11]) tNil)) (tOp rPowU (tC (.int 10)) (tC (.int 6))))) (tAsg (tC (.int 0)) (gName 10)) tNext)
    (tRet (tTup (tCons (tOp (rIx G.K) (tVar 8) (tC (.int 0))) (tCons (tOp (rIx G.K) (tVar 9) (tVar 10)) (tCons (tOp (rIx G.K) (tVar 9) (tOp rAddU (tVar 10) (tC (.int 1)))) tNil)))))))))))))))))
def F_law_start (a : Ad) : DSp := fun ds O κ _ => ∃ (p : Addr) (q : List PyData) (n : Int), ds = [.own p] ∧ O p = some q ∧ PoolL q n ∧ n ≤ 400000 ∧
  ∀ (c : Co) (x y : Pt) q', StGood c x y → PoolL q' (n + 20) → κ (.py (.tuple [c.py, ptD x, ptD y])) (oset O p q')
theorem len_law_start (a : Ad) : ∀ ds O κ ε, F_law_start a ds O κ ε → ds.length = (["pool"] : List Str).length := by
  rintro _ O κ ε ⟨p, q, n, rfl, _⟩
  rfl
def mxA : D → PyData
  | .py (.tuple [.int x, .int y]) => .int (max (x.natAbs : Int) y)
  | _ => .none
def mulI (s : Int) (d : D) : PyData := .int (s * outI d)
theorem ls_law_start {G : Gs} {a : Ad} : ∀ (B0 : Hp) ds O κ ε, F_law_start a ds O κ ε → LS G B0 (t_law_start G a) (startR N_law_start ds) O (fun _ O' => κ (.py .none) O') κ (fun _ _ => False) (fun _ _ => False) := by
  rintro B0 _ O κ ε ⟨p, q, n, rfl, hO, hq, hn, k⟩
  walk_at "s"
  unfold t_law_start
  walk_at "w"
  walk_at "d"
  intro r1 q1 a1 b1 c1
  walk_at "w"
  walk_at "d"
  intro r2 q2 a2 b2 c2
  rw [oset_oset]
  walk_at "w"
  walk_at "d"
  intro r3 q3 a3 b3 c3
  rw [oset_oset]
  walk_at "w"
  walk_at "d"
  intro r4 q4 a4 b4 c4
  rw [oset_oset]
  walk_at "w"
  refine ⟨DivOK.any (by omega), ?_⟩
  rw [low_py]
  walk_at "w"
  refine ⟨DivOK.any (by omega), ?_⟩
  rw [low_py]
  have hx : ht (lowP (r1 - 4) (1 + r2)) ≤ 4 := low_ht (by omega) (by omega) (by decide)
  have hy : ht (lowP (r3 - 4) (1 + r4)) ≤ 4 := low_ht (by omega) (by omega) (by decide)
  have px := lowP_pt (r1 - 4) (1 + r2)
  have py := lowP_pt (r3 - 4) (1 + r4)
  generalize lowP (r1 - 4) (1 + r2) = x at *
  generalize lowP (r3 - 4) (1 + r4) = y at *
  have hx1 := ht1 hx
  have hx2 := ht2 hx
  have hy1 := ht1 hy
  have hy2 := ht2 hy
  have i1 : BdI x.2 1 := ⟨by omega⟩
  have i2 : BdI y.2 1 := ⟨by omega⟩
  walk_at "w"
  refine le_draws (p := p) (c := 1) (P := fun e => ∃ r : Int, e = .int r ∧ r.natAbs ≤ 3) (by decide) (by decide) ?_
  walk_at "w"
  refine ⟨_, q4, n + 4, rfl, by decide, by decide, oset_same, c4.mono (by omega), by omega, ?_, ?_⟩
  · intro t _ _ O2 q5 m ho hq5 hm
    refine le_op (le_call (la_cons (le_var rfl (la_cons (le_int (la_nil ?_))))))
    refine ⟨p, 7, m, q5, rfl, ho, hq5, by omega, by decide, by decide, fun r q' h0 h1 hq' => ?_⟩
    exact le_int (lr_sub ⟨_, q', rfl, ⟨_, rfl, by omega⟩, hq', rfl⟩)
  · intro ds q5 hl hP hq5
    rw [oset_oset]
    obtain ⟨ns, rfl, hl2, hN⟩ := ints_of hP
    have hl3 : ns.length = 5 := by omega
    obtain ⟨n0, n1, n2, n3, n4, rfl⟩ := five_of hl3
    have e0 := hN n0 (by simp)
    have e1 := hN n1 (by simp)
    have e2 := hN n2 (by simp)
    have e3 := hN n3 (by simp)
    have e4 := hN n4 (by simp)
    clear hN hP hl hl2 hl3
    simp only [List.map_cons, List.map_nil]
    walk_at "w"
    refine lr_powL (powU bd_big (by decide) (by decide)) ?_
    walk_at "w"
    refine ⟨n0, n1, n2, n3, n4, 0, x.1, x.2, y.1, y.2, rfl, ?_, ?_, ?_⟩
    · have : (4 : Nat) ≤ 10 ^ 90000 := by decide +kernel
      exact ⟨by omega, by omega, by omega, by omega, by omega, by decide +kernel⟩
    · have : (5 : Nat) ≤ 10 ^ 3000 := by decide +kernel
      exact ⟨by omega, by omega, by omega, by omega⟩
    have hat : (atV n0 n1 n2 n3 n4 0 x.1 x.2 y.1 y.2).natAbs ≤ 9 * (3 * (4 * 4 * (4 * 4))) := at_le (a := n0) (b := n1) (c := n2) (d := n3) (e := n4) (f := 0) (x := x) (y := y) e0 e1 e2 e3 e4 (by decide) hx hy
    have hsc : ((x.2 * y.2) ^ 2).natAbs ≤ 256 := by
      have h := abs_mul_le hx2 hy2
      rw [Int.pow_succ, Int.pow_succ, Int.pow_zero, Int.one_mul]
      exact Nat.le_trans (abs_mul_le h h) (by decide)
    have hfit := fit_hold (a := n0) (b := n1) (c := n2) (d := n3) (e := n4) (x := x) (y := y) ((x.2 * y.2) ^ 2) (by rw [Int.pow_succ, Int.pow_succ, Int.pow_zero, Int.one_mul]; grind)
    replace hfit : (⟨(x.2 * y.2) ^ 2 * n0, (x.2 * y.2) ^ 2 * n1, (x.2 * y.2) ^ 2 * n2, (x.2 * y.2) ^ 2 * n3, (x.2 * y.2) ^ 2 * n4, 0 - atV n0 n1 n2 n3 n4 0 x.1 x.2 y.1 y.2⟩ : Co).at_ x y = 0 := hfit
    generalize (x.2 * y.2) ^ 2 = s at *
    generalize atV n0 n1 n2 n3 n4 0 x.1 x.2 y.1 y.2 = v at *
    have is : BdI s 3 := ⟨by omega⟩
    walk_at "w"
    refine le_map (mulI s) (fun _ => true) (gin_name List.mem_cons_self) (li_list ?_)
    walk_at "w"
    refine ⟨Nat.lt_of_lt_of_le (show 5 < 6 by decide) (by decide), ?_, ?_⟩
    · intro d hd r2 acc hr2
      obtain ⟨z, rfl, hz⟩ : ∃ z : Int, d = .py (.int z) ∧ z.natAbs ≤ 3 := by
        simp only [List.map_cons, List.map_nil, List.mem_cons, List.not_mem_nil, or_false] at hd
        rcases hd with rfl | rfl | rfl | rfl | rfl <;> exact ⟨_, rfl, by assumption⟩
      have iz : BdI z 1 := ⟨by omega⟩
      refine lg_name ⟨rfl, ?_⟩
      walk_at "w"
      refine ⟨rfl, rfl, fun _ => ?_⟩
      exact le_op (le_var (d := .py (.int s)) rfl (le_var (d := .py (.int z)) rfl (lr_mul (mulW bd_big bd_big) ⟨rfl, rfl⟩)))
    · have em : ((((([PyData.int n0, .int n1, .int n2, .int n3, .int n4] : List PyData).map D.py).filter fun _ => true).map (mulI s))) = [.int (s * n0), .int (s * n1), .int (s * n2), .int (s * n3), .int (s * n4)] := rfl
      rw [em]
      walk_at "u"
      have bd0 : (⟨s * n0, s * n1, s * n2, s * n3, s * n4, 0 - v⟩ : Co).Bd (10 ^ 8) := by
        have b0 := abs_mul_le hsc e0
        have b1 := abs_mul_le hsc e1
        have b2 := abs_mul_le hsc e2
        have b3 := abs_mul_le hsc e3
        have b4 := abs_mul_le hsc e4
        have e8 : (10 : Nat) ^ 8 = 100000000 := by decide
        refine ⟨?_, ?_, ?_, ?_, ?_, ?_⟩ <;> simp only <;> omega
      generalize hc : (⟨s * n0, s * n1, s * n2, s * n3, s * n4, 0 - v⟩ : Co) = c at *
      have hcL : PyData.list ([PyData.int (s * n0), .int (s * n1), .int (s * n2), .int (s * n3), .int (s * n4)] ++ [.int (0 - v)]) = c.py := by rw [← hc]; rfl
      rw [hcL]
      have hs6 : c.sB 40 := bd0.sB (by decide +kernel)
      have hq9 : PoolL q5 (n + 9) := hq5.mono (by omega)
      refine ls_cut (fun ρ' O' => ∃ (s1 s2 s3 s4 s5 s6 s7 : Option D) (q' : List PyData), ρ' = [some (.own p), s1, s2, s3, s4, s5, s6, s7, none, none, none, none] ∧ O' = oset O p q' ∧ PoolL q' (n + 10)) ?_ ?_
      · walk_at "w"
        walk_at "d"
        intro r q6 r0 r1 hq6
        rw [oset_oset]
        replace hq6 : PoolL q6 (n + 10) := hq6.mono (by omega)
        walk_at "w"
        refine if_dec (fun h0 => ?_) (fun h0 => ?_)
        · walk_at "w"
          refine lr_rep rfl (fun _ z => nomatch z) (by decide) (by decide) ?_
          refine lr_ne rfl rfl rfl rfl ?_
          walk_at "w"
          refine if_b (fun h1 => ?_) (fun h1 => ?_)
          · walk_at "w"
            refine ⟨_, _, _, _, _, _, rfl, six_40 hs6, ?_⟩
            walk_at "w"
            refine if_b (fun h2 => ?_) (fun h2 => ?_)
            · have hb := (strB_iff c).mp h2
              have hz := Co.nz_of_bend hb
              walk_at "w"
              refine ⟨c.list, rfl, Nat.lt_of_lt_of_le (show 6 < 7 by decide) (by decide), .inl ?_, hz, ?_⟩
              · obtain ⟨g1, g2, g3, g4, g5, g6⟩ := hs6
                intro x hx
                have e40 : (10 : Nat) ^ 40 ≤ 10 ^ 1700 := ten_mono (by decide)
                simp only [Co.list, List.mem_cons, List.not_mem_nil, or_false] at hx
                rcases hx with rfl | rfl | rfl | rfl | rfl | rfl <;> omega
              · rw [show plainL c.list = c.plain.list from rfl]
                walk_at "w"
                exact k c.plain x y _ ⟨⟨Co.plain_bend hz hb, px, py, Co.plain_at hz hfit⟩, Co.plain_is hz, Co.plain_bd hz bd0, Nat.le_trans hx (by decide), Nat.le_trans hy (by decide)⟩ (hq6.mono (by omega))
            · walk_at "w"
              exact ⟨_, _, _, _, _, _, _, _, rfl, rfl, hq6⟩
          · walk_at "w"
            exact ⟨_, _, _, _, _, _, _, _, rfl, rfl, hq6⟩
        · walk_at "w"
          exact ⟨_, _, _, _, _, _, _, _, rfl, rfl, hq6⟩
      · rintro ρ' O' ⟨s1, s2, s3, s4, s5, s6, s7, q6, rfl, rfl, hq6⟩
        walk_at "w"
        refine ⟨p, q6, n + 10, rfl, oset_same, hq6, by omega, fun e q7 he hq7 => ?_⟩
        rw [oset_oset]
        have kg := kn_good he
        obtain ⟨c, x, y, kk⟩ := e
        simp only at kg ⊢
        have st := kg.starts.le (m := 8) (by decide)
        walk_at "w"
        refine ⟨c, x, y, 8, rfl, st.lim, by decide, ?_⟩
        walk_at "w"
        walk_at "d"
        intro r q8 r0 r1 hq8
        rw [oset_oset]
        replace hq8 : PoolL q8 (n + 20) := hq8.mono (by omega)
        obtain ⟨s, rfl⟩ := Int.eq_ofNat_of_zero_le r0
        have hs : s < 6 := by omega
        have b1 := (st.mem (n := s) (by omega)).1
        have b2 := (st.mem (n := s + 1) (by omega)).1
        have hs_hold := kg.hold.mem s
        walk_at "u"
        have big : ∀ {x : Pt}, ht x ≤ 10 ^ DL.dig 1 9 8 → BdI x.1 300 ∧ BdI x.2 300 := fun h => by
          have z := ht_lt (m := 300) h (by decide)
          exact ⟨⟨z.1⟩, ⟨z.2⟩⟩
        refine ls_cut (fun ρ' O' => ∃ (s1 s2 s3 s4 s5 s6 s7 s11 : Option D) (j : Nat), ρ' = [some (.own p), s1, s2, s3, s4, s5, s6, s7, some (.py (.tuple [c.py, ptD x, ptD y, .int kk])), some (.py (.list (memL c x y 8))), some (.py (.int (j : Int))), s11] ∧ O' = oset O p q8 ∧ j < 6 ∧ ht (c.mem x y j) ≤ 10 ^ 6 ∧ ht (c.mem x y (j + 1)) ≤ 10 ^ 6) ?_ ?_
        · walk_at "w"
          refine le_map mxA (fun _ => true) (gin_name List.mem_cons_self) (li_list ?_)
          walk_at "w"
          rw [cut_8 c x y s hs]
          refine ⟨Nat.lt_of_lt_of_le (show 2 < 3 by decide) (by decide), ?_, ?_⟩
          · intro d hd r2 acc hr2
            obtain ⟨z, rfl⟩ : ∃ z : Pt, d = .py (ptD z) := by
              simp only [List.map_cons, List.map_nil, List.mem_cons, List.not_mem_nil, or_false] at hd
              rcases hd with rfl | rfl <;> exact ⟨_, rfl⟩
            refine lg_name ⟨rfl, ?_⟩
            walk_at "w"
            refine ⟨rfl, rfl, fun _ => ?_⟩
            refine le_cb (la_cons (le_cb (la_cons (le_op (le_var (d := .py (ptD z)) rfl (le_int (lr_ixT (d := .int z.1) rfl (la_nil (lc_abs ?_)))))))))
            exact la_cons (le_op (le_var (d := .py (ptD z)) rfl (le_int (lr_ixT (d := .int z.2) rfl (la_nil (lc_mx ⟨rfl, rfl⟩))))))
          · walk_at "w"
            refine lc_max (ns := [max ((c.mem x y s).1.natAbs : Int) (c.mem x y s).2, max ((c.mem x y (s + 1)).1.natAbs : Int) (c.mem x y (s + 1)).2]) rfl (Nat.succ_pos _) fun m hm1 hm2 => ?_
            walk_at "w"
            refine if_dec (fun h3 => ?_) (fun h3 => ?_)
            · walk_at "w"
              exact ⟨_, _, _, _, _, _, _, _, 0, rfl, rfl, by decide, Nat.le_trans kg.hx (by decide), Nat.le_trans kg.hy (by decide)⟩
            · walk_at "w"
              have m1 := hm2 _ List.mem_cons_self
              have m2 := hm2 _ (List.mem_cons_of_mem _ List.mem_cons_self)
              have p1 := hs_hold.px.p
              have p2 := hs_hold.py.p
              have e6 : (10 : Int) ^ 6 = 1000000 := by decide
              have e6' : (10 : Nat) ^ 6 = 1000000 := by decide
              refine ⟨_, _, _, _, _, _, _, _, s, rfl, rfl, hs, ?_, ?_⟩
              · unfold ht
                omega
              · unfold ht
                omega
        · rintro ρ' O' ⟨s1, s2, s3, s4, s5, s6, s7, s11, j, rfl, rfl, hj, hb1, hb2⟩
          walk_at "w"
          refine lr_ix rfl (mem_ix (by omega)) ?_
          walk_at "w"
          refine lr_ix rfl (mem_ix (s := j + 1) (by omega)) ?_
          walk_at "w"
          exact k c _ _ _ ⟨kg.hold.mem j, kg.plain, kg.bd, hb1, hb2⟩ hq8

/-! ### invariants -/
abbrev N_invariants : List Str := ["quartic_numbers", "d4", "d3", "d2", "d1", "d0", "i", "j"]
def t_invariants (G : Gs) (a : Ad) : TS :=
  (tSeq (tAsg (tVar 0) (gUnl G.K 5 (gCons (gName 1) (gCons (gName 2) (gCons (gName 3) (gCons (gName 4) (gCons (gName 5) gNil)))))))
    (tSeq (tAsg (tOp rAddU (tOp rSubU (tOp rMulU (tOp rMulU (tC (.int 12)) (tVar 1)) (tVar 5)) (tOp rMulU (tOp rMulU (tC (.int 3)) (tVar 2)) (tVar 4))) (tOp rMulU (tVar 3) (tVar 3))) (gName 6))
    (tSeq (tAsg (tOp rSubU (tOp rSubU (tOp rSubU (tOp rAddU (tOp rMulU (tOp rMulU (tOp rMulU (tC (.int 72)) (tVar 1)) (tVar 3)) (tVar 5)) (tOp rMulU (tOp rMulU (tOp rMulU (tC (.int 9)) (tVar 2)) (tVar 3)) (tVar 4))) (tOp rMulU (tOp rMulU (tOp rMulU (tC (.int 27)) (tVar 1)) (tVar 4)) (tVar 4))) (tOp rMulU (tOp rMulU (tOp rMulU (tC (.int 27)) (tVar 2)) (tVar 2)) (tVar 5))) (tOp rMulU (tOp rMulU (tOp rMulU (tC (.int 2)) (tVar 3)) (tVar 3)) (tVar 3))) (gName 7))
    (tRet (tTup (tCons (tVar 6) (tCons (tVar 7) tNil)))))))
def F_invariants (_ : Ad) : DSp := fun ds O κ _ => ∃ d4 d3 d2 d1 d0 : Int, ds = [.py (.list [.int d4, .int d3, .int d2, .int d1, .int d0])] ∧ (d4.natAbs < 10 ^ 3800 ∧ d3.natAbs < 10 ^ 3800 ∧ d2.natAbs < 10 ^ 3800 ∧ d1.natAbs < 10 ^ 3800 ∧ d0.natAbs < 10 ^ 3800) ∧
  κ (.py (.tuple [.int (bendI d4 d3 d2 d1 d0), .int (bendJ d4 d3 d2 d1 d0)])) O
theorem len_invariants (a : Ad) : ∀ ds O κ ε, F_invariants a ds O κ ε → ds.length = (["quartic_numbers"] : List Str).length := by
  rintro _ O κ ε ⟨d4, d3, d2, d1, d0, rfl, _⟩
  rfl
theorem ls_invariants {G : Gs} {a : Ad} : ∀ (B0 : Hp) ds O κ ε, F_invariants a ds O κ ε → LS G B0 (t_invariants G a) (startR N_invariants ds) O (fun _ O' => κ (.py .none) O') κ (fun _ _ => False) (fun _ _ => False) := by
  rintro B0 _ O κ ε ⟨d4, d3, d2, d1, d0, rfl, ⟨h4, h3, h2, h1, h0⟩, k⟩
  have i0 : BdI d0 3800 := ⟨h0⟩
  have i1 : BdI d1 3800 := ⟨h1⟩
  have i2 : BdI d2 3800 := ⟨h2⟩
  have i3 : BdI d3 3800 := ⟨h3⟩
  have i4 : BdI d4 3800 := ⟨h4⟩
  walk_at "s"
  unfold t_invariants
  walk_at "w"
  exact k

/-! ### bend -/
abbrev N_bend : List Str := ["quartic_numbers", "i", "j"]
def t_bend (G : Gs) (a : Ad) : TS :=
  (tSeq (tAsg (tCall (spD G (F_invariants a)) [] E0 (tCons (tVar 0) tNil)) (gTup G.K 2 (gCons (gName 1) (gCons (gName 2) gNil))))
    (tRet (tOp rSubU (tOp rMulU (tOp rMulU (tOp rMulU (tC (.int 4)) (tVar 1)) (tVar 1)) (tVar 1)) (tOp rMulU (tVar 2) (tVar 2)))))
def F_bend (_ : Ad) : DSp := fun ds O κ _ => ∃ d4 d3 d2 d1 d0 : Int, ds = [.py (.list [.int d4, .int d3, .int d2, .int d1, .int d0])] ∧ (d4.natAbs < 10 ^ 3800 ∧ d3.natAbs < 10 ^ 3800 ∧ d2.natAbs < 10 ^ 3800 ∧ d1.natAbs < 10 ^ 3800 ∧ d0.natAbs < 10 ^ 3800) ∧
  κ (.py (.int (bendV d4 d3 d2 d1 d0))) O
theorem len_bend (a : Ad) : ∀ ds O κ ε, F_bend a ds O κ ε → ds.length = (["quartic_numbers"] : List Str).length := by
  rintro _ O κ ε ⟨d4, d3, d2, d1, d0, rfl, _⟩
  rfl
theorem ls_bend {G : Gs} {a : Ad} : ∀ (B0 : Hp) ds O κ ε, F_bend a ds O κ ε → LS G B0 (t_bend G a) (startR N_bend ds) O (fun _ O' => κ (.py .none) O') κ (fun _ _ => False) (fun _ _ => False) := by
  rintro B0 _ O κ ε ⟨d4, d3, d2, d1, d0, rfl, hb, k⟩
  obtain ⟨h4, h3, h2, h1, h0⟩ := hb
  have i0 : BdI d0 3800 := ⟨h0⟩
  have i1 : BdI d1 3800 := ⟨h1⟩
  have i2 : BdI d2 3800 := ⟨h2⟩
  have i3 : BdI d3 3800 := ⟨h3⟩
  have i4 : BdI d4 3800 := ⟨h4⟩
  have jI : BdI (bendI d4 d3 d2 d1 d0) 7700 := ⟨by unfold bendI; exact bd_to 7700⟩
  have jJ : BdI (bendJ d4 d3 d2 d1 d0) 11500 := ⟨by unfold bendJ; exact bd_to 11500⟩
  walk_at "s"
  unfold t_bend
  walk_at "w"
  refine ⟨d4, d3, d2, d1, d0, rfl, ⟨h4, h3, h2, h1, h0⟩, ?_⟩
  walk_at "w"
  exact k

/-! ### without_divisor -/
abbrev N_without_divisor : List Str := ["numbers", "counting", "number", "divisor"]
def t_without_divisor (G : Gs) (a : Ad) : TS :=
  (tSeq (tAsg (tLc (iList G.K (tVar 0)) (gName 2) (tTest (tOp (rNeU G.K) (tVar 2) (tC (.int 0)))) (tVar 2) [2]) (gName 1))
    (tSeq (tIfS (tNot (tTr G.K (tVar 1))) (tRet (tCB (rListO G.K) (tCons (tVar 0) tNil))) tNext)
    (tSeq (tAsg (tC (.int 0)) (gName 3))
    (tSeq (tFor (iList G.K (tVar 1)) (gName 2) (tAsg (tCB rGcd (tCons (tVar 3) (tCons (tVar 2) tNil))) (gName 3)))
    (tSeq (tIfS (tTest (tOp rLt (tOp (rIx G.K) (tVar 1) (tC (.int 0))) (tC (.int 0)))) (tAsg (tUn rNeg (tVar 3)) (gName 3)) tNext)
    (tRet (tLc (iList G.K (tVar 0)) (gName 2) tYes (tOp rFdivP (tVar 2) (tVar 3)) [2])))))))
def F_without_divisor (_ : Ad) : DSp := fun ds O κ _ => ∃ ns : List Int, ds = [.py (.list (ns.map PyData.int))] ∧ ns.length < 1000 ∧ (∀ x ∈ ns, x.natAbs < 10 ^ 90000) ∧ (κ (.py (.list ((plainL ns).map PyData.int))) O ∨ ∀ p, O p = none → κ (.own p) (oset O p ((plainL ns).map PyData.int)))
theorem len_without_divisor (a : Ad) : ∀ ds O κ ε, F_without_divisor a ds O κ ε → ds.length = (["numbers"] : List Str).length := by
  rintro _ O κ ε ⟨ns, rfl, _⟩
  rfl
def wdP : D → PyData
  | .py d => d
  | _ => .none
def wdI : D → Int
  | .py (.int i) => i
  | _ => 0
theorem wd_sel (ns : List Int) : ((((ns.map PyData.int).map D.py).filter fun d => !decide (wdI d = 0)).map wdP) = (nz ns).map PyData.int := by
  unfold nz
  induction ns with
  | nil => rfl
  | cons x xs ih =>
    simp only [List.map_cons, List.filter_cons]
    by_cases h : x = 0
    · rw [if_neg (show ¬ ((!decide (wdI (D.py (.int x)) = 0)) = true) from by simp [wdI, h]), if_neg (by simpa using h)]
      exact ih
    · rw [if_pos (show (!decide (wdI (D.py (.int x)) = 0)) = true from by simp [wdI, h]), if_pos (by simpa using h), List.map_cons, List.map_cons, ih]
      rfl
theorem gcdF_nz : ∀ (ns : List Int) (g : Nat), gcdF g (nz ns) = gcdF g ns
  | [], _ => rfl
  | x :: xs, g => by
    have e : gcdF g (x :: xs) = gcdF (Int.gcd x (g : Int)) xs := rfl
    by_cases h : x = 0
    · have e2 : nz (x :: xs) = nz xs := by
        unfold nz
        rw [List.filter_cons, if_neg (by simpa using h)]
      rw [e, e2, gcdF_nz xs g, h]
      congr 1
      simp
    · have e2 : nz (x :: xs) = x :: nz xs := by
        unfold nz
        rw [List.filter_cons, if_pos (by simpa using h)]
      rw [e, e2]
      exact gcdF_nz xs _
theorem plain_noughts {ns : List Int} (h : nz ns = []) : plainL ns = ns := by
  have all : ∀ x ∈ ns, x = 0 := fun x hx => by
    apply Decidable.byContradiction
    intro h0
    have : x ∈ nz ns := List.mem_filter.mpr ⟨hx, by simpa using h0⟩
    rw [h] at this
    exact absurd this List.not_mem_nil
  unfold plainL
  generalize plainD ns = d
  clear h
  induction ns with
  | nil => rfl
  | cons x xs ih =>
    rw [List.map_cons, ih fun y hy => all y (List.mem_cons_of_mem _ hy), all x List.mem_cons_self, Int.zero_fdiv]
theorem ls_without_divisor {G : Gs} {a : Ad} : ∀ (B0 : Hp) ds O κ ε, F_without_divisor a ds O κ ε → LS G B0 (t_without_divisor G a) (startR N_without_divisor ds) O (fun _ O' => κ (.py .none) O') κ (fun _ _ => False) (fun _ _ => False) := by
  rintro B0 _ O κ ε ⟨ns, rfl, hl, hb, k⟩
  walk_at "s"
  unfold t_without_divisor
  walk_at "w"
  refine le_map wdP (fun d => !decide (wdI d = 0)) (gin_name List.mem_cons_self) (li_list ?_)
  walk_at "w"
  refine ⟨by rw [List.length_map, List.length_map]; omega, ?_, ?_⟩
  · intro d hd r2 acc hr2
    obtain ⟨d1, h1, rfl⟩ := List.mem_map.mp hd
    obtain ⟨x, h2, rfl⟩ := List.mem_map.mp h1
    refine lg_name ⟨rfl, lt_test (le_op (le_var (d := .py (.int x)) rfl (le_int (lr_neI ⟨_, rfl, rfl, rfl, fun _ => ?_⟩))))⟩
    exact le_var (d := .py (.int x)) rfl ⟨rfl, rfl⟩
  · rw [wd_sel]
    walk_at "w"
    by_cases hn : nz ns = []
    · have ep := plain_noughts hn
      rw [hn]
      refine ifT ?_
      walk_at "w"
      rw [ep] at k
      rcases k with k | k
      · exact lc_listO rfl k
      · exact lc_listW rfl k
    · have he : (!((nz ns).map PyData.int).isEmpty) = true := by
        cases e : nz ns with
        | nil => exact absurd e hn
        | cons x xs => rfl
      rw [he]
      · refine ifF ?_
        walk_at "n"
        walk_at "n"
        walk_at "n"
        walk_at "n"
        walk_at "n"
        walk_at "n"
        refine ls_for (li_list (le_varN ((GetAt.s GetAt.z)) ⟨_, rfl, ?_⟩))
        refine ⟨fun i ρ' O' => ∃ s : Option D, ρ' = [some (.py (.list (ns.map PyData.int))), some (.py (.list ((nz ns).map PyData.int))), s, some (.py (.int (gcdF 0 ((nz ns).take i) : Int)))] ∧ O' = O, ⟨_, rfl, rfl⟩, ?_, ?_⟩
        · rintro i d ρ' O' hd ⟨s, rfl, rfl⟩
          obtain ⟨x, rfl, hx⟩ : ∃ x, d = .py (.int x) ∧ (nz ns)[i]? = some x := by
            rw [List.getElem?_map, List.getElem?_map] at hd
            cases he : (nz ns)[i]? with
            | none => rw [he] at hd; cases hd
            | some x => rw [he] at hd; cases hd; exact ⟨x, rfl, rfl⟩
          walk_at "w"
          refine ⟨some (.py (.int x)), ?_, rfl⟩
          have e : (gcdF 0 ((nz ns).take (i + 1)) : Int) = (Int.gcd (gcdF 0 ((nz ns).take i) : Int) x : Int) := by
            rw [List.take_add_one, hx]
            show (gcdL ((nz ns).take i ++ [x]) : Int) = _
            rw [gcdL_snoc, Int.gcd_comm]
            rfl
          rw [e]
        · rintro ρ' O' ⟨s, rfl, rfl⟩
          rw [List.length_map, List.length_map, List.take_length, gcdF_nz]
          obtain ⟨x0, hx0, hx1, hx2⟩ := nz_mem hn
          have gb : gcdL ns < 10 ^ 90000 := gcdF_lt ns 0 hb (Nat.pow_pos (by decide))
          have gp := gcdL_pos hn
          have dn := plainD_ne hn
          have hi : atI ((nz ns).map PyData.int) 0 = some (.int x0) := by
            rw [← hx2]
            exact at0 hn
          have fin : ∀ (s : Option D), LS G B0 (tRet (tLc (iList G.K (tVar 0)) (gName 2) tYes (tOp rFdivP (tVar 2) (tVar 3)) [2])) [some (.py (.list (ns.map PyData.int))), some (.py (.list ((nz ns).map PyData.int))), s, some (.py (.int (plainD ns)))] O' (fun _ O' => κ (.py .none) O') κ (fun _ _ => False) (fun _ _ => False) := by
            intro s
            rcases k with k | k
            · refine ls_ret (le_map (fun d => .int ((wdI d).fdiv (plainD ns))) (fun _ => true) (gin_name List.mem_cons_self) (li_list ?_))
              walk_at "w"
              refine ⟨by rw [List.length_map, List.length_map]; omega, ?_, ?_⟩
              · intro d hd r2 acc hr2
                obtain ⟨d1, h1, rfl⟩ := List.mem_map.mp hd
                obtain ⟨x, h2, rfl⟩ := List.mem_map.mp h1
                refine lg_name ⟨rfl, lt_yes ⟨rfl, rfl, fun _ => ?_⟩⟩
                exact le_op (le_var (d := .py (.int x)) rfl (le_var (d := .py (.int (plainD ns))) rfl (lr_fdivP dn ⟨rfl, rfl⟩)))
              · have e : ((((ns.map PyData.int).map D.py).filter fun _ => true).map fun d => PyData.int ((wdI d).fdiv (plainD ns))) = (plainL ns).map PyData.int := by
                  rw [List.filter_eq_self.mpr (fun _ _ => rfl), List.map_map, List.map_map]
                  unfold plainL
                  rw [List.map_map]
                  rfl
                rw [e]
                exact k
            · refine ls_ret (le_mapW (fun d => .int ((wdI d).fdiv (plainD ns))) (fun _ => true) (gin_name List.mem_cons_self) (li_list ?_))
              walk_at "w"
              refine ⟨by rw [List.length_map, List.length_map]; omega, ?_, ?_⟩
              · intro d hd r2 acc hr2
                obtain ⟨d1, h1, rfl⟩ := List.mem_map.mp hd
                obtain ⟨x, h2, rfl⟩ := List.mem_map.mp h1
                refine lg_name ⟨rfl, lt_yes ⟨rfl, rfl, fun _ => ?_⟩⟩
                exact le_op (le_var (d := .py (.int x)) rfl (le_var (d := .py (.int (plainD ns))) rfl (lr_fdivP dn ⟨rfl, rfl⟩)))
              · have e : ((((ns.map PyData.int).map D.py).filter fun _ => true).map fun d => PyData.int ((wdI d).fdiv (plainD ns))) = (plainL ns).map PyData.int := by
                  rw [List.filter_eq_self.mpr (fun _ _ => rfl), List.map_map, List.map_map]
                  unfold plainL
                  rw [List.map_map]
                  rfl
                rw [e]
                exact k
          walk_at "n"
          walk_at "n"
          walk_at "n"
          walk_at "n"
          walk_at "n"
          walk_at "n"
          walk_at "n"
          refine lr_ix rfl hi ?_
          walk_at "v"
          refine if_dec (fun h => ?_) (fun h => ?_)
          · have e : plainD ns = -(gcdF 0 ns : Int) := by
              unfold plainD
              rw [hx2, if_pos h, Int.zero_sub]
              rfl
            walk_at "n"
            walk_at "n"
            walk_at "n"
            walk_at "n"
            walk_at "n"
            rw [← e]
            exact fin _
          · have e : plainD ns = (gcdF 0 ns : Int) := by
              unfold plainD
              rw [hx2, if_neg h]
              rfl
            rw [← e]
            exact ls_next (fin _)

/-! ### quartic_of -/
abbrev N_quartic_of : List Str := ["numbers", "a", "b", "c", "d", "e", "f"]
def t_quartic_of (G : Gs) (a : Ad) : TS :=
  (tSeq (tAsg (tVar 0) (gUnl G.K 6 (gCons (gName 1) (gCons (gName 2) (gCons (gName 3) (gCons (gName 4) (gCons (gName 5) (gCons (gName 6) gNil))))))))
    (tRet (tLst (tCons (tOp rSubU (tOp rMulU (tVar 2) (tVar 2)) (tOp rMulU (tOp rMulU (tC (.int 4)) (tVar 1)) (tVar 3))) (tCons (tOp rSubU (tOp rSubU (tOp rMulU (tOp rMulU (tC (.int 2)) (tVar 2)) (tVar 4)) (tOp rMulU (tOp rMulU (tC (.int 4)) (tVar 1)) (tVar 5))) (tOp rMulU (tOp rMulU (tC (.int 4)) (tVar 2)) (tVar 3))) (tCons (tOp rSubU (tOp rSubU (tOp rSubU (tOp rMulU (tVar 4) (tVar 4)) (tOp rMulU (tOp rMulU (tC (.int 2)) (tVar 2)) (tVar 5))) (tOp rMulU (tOp rMulU (tC (.int 4)) (tVar 1)) (tVar 6))) (tOp rMulU (tOp rMulU (tC (.int 4)) (tVar 3)) (tVar 3))) (tCons (tOp rSubU (tOp rSubU (tOp rMulU (tOp rMulU (tC (.int 2)) (tVar 4)) (tVar 5)) (tOp rMulU (tOp rMulU (tC (.int 4)) (tVar 2)) (tVar 6))) (tOp rMulU (tOp rMulU (tC (.int 4)) (tVar 3)) (tVar 5))) (tCons (tOp rSubU (tOp rMulU (tVar 5) (tVar 5)) (tOp rMulU (tOp rMulU (tC (.int 4)) (tVar 3)) (tVar 6))) tNil))))))))
def F_quartic_of (_ : Ad) : DSp := fun ds O κ _ => ∃ a b c d e f : Int, ds = [.py (six a b c d e f)] ∧ sixB 1850 a b c d e f ∧ κ (.py (quD a b c d e f)) O
theorem len_quartic_of (a : Ad) : ∀ ds O κ ε, F_quartic_of a ds O κ ε → ds.length = (["numbers"] : List Str).length := by
  rintro _ O κ ε ⟨a, b, c, d, e, f, rfl, _⟩
  rfl
theorem ls_quartic_of {G : Gs} {a : Ad} : ∀ (B0 : Hp) ds O κ ε, F_quartic_of a ds O κ ε → LS G B0 (t_quartic_of G a) (startR N_quartic_of ds) O (fun _ O' => κ (.py .none) O') κ (fun _ _ => False) (fun _ _ => False) := by
  rintro B0 _ O κ ε ⟨a, b, c, d, e, f, rfl, ⟨h0, h1, h2, h3, h4, h5⟩, k⟩
  have i0 : BdI a 1850 := ⟨h0⟩
  have i1 : BdI b 1850 := ⟨h1⟩
  have i2 : BdI c 1850 := ⟨h2⟩
  have i3 : BdI d 1850 := ⟨h3⟩
  have i4 : BdI e 1850 := ⟨h4⟩
  have i5 : BdI f 1850 := ⟨h5⟩
  unfold t_quartic_of
  walk_at "l"
  exact k

/-! ### Relation_init -/
abbrev N_Relation_init : List Str := ["self", "numbers"]
def t_Relation_init (G : Gs) (a : Ad) (E : XK) : TS :=
  (tSeq (tIfS (tTest (tOp (rNeU G.K) (tCB (rLen G.K) (tCons (tVar 1) tNil)) (tC (.int 6)))) (tRaise1 G.K a.c_InvalidNumber (fun cls d _ H => E cls d H) (tCons (tCB (rLen G.K) (tCons (tVar 1) tNil)) tNil)) tNext)
    (tSeq (tIfS (tTest (tOp (rEqU G.K) (tCall (spD G (F_bend a)) [] E0 (tCons (tCall (spD G (F_quartic_of a)) [] E0 (tCons (tVar 1) tNil)) tNil)) (tC (.int 0)))) (tRaise1 G.K a.c_Bent (fun cls d _ H => E cls d H) (tCons (tC (.int 0)) tNil)) tNext)
    (sFld G.K (tVar 0) (tCB (rTupO G.K) (tCons (tCall (spD G (F_without_divisor a)) [] E0 (tCons (tVar 1) tNil)) tNil)) "_numbers")))
def p_Relation_init (G : Gs) (a : Ad) (E : XK) : TS :=
  (tSeq (tIfS (tTest (tOp (rNeU G.K) (tCB (rLen G.K) (tCons (tVar 1) tNil)) (tC (.int 6)))) (tRaise1 G.K a.c_InvalidNumber (fun cls d _ H => E cls d H) (tCons (tCB (rLen G.K) (tCons (tVar 1) tNil)) tNil)) tNext)
    (tIfS (tTest (tOp (rEqU G.K) (tCall (spD G (F_bend a)) [] E0 (tCons (tCall (spD G (F_quartic_of a)) [] E0 (tCons (tVar 1) tNil)) tNil)) (tC (.int 0)))) (tRaise1 G.K a.c_Bent (fun cls d _ H => E cls d H) (tCons (tC (.int 0)) tNil)) tNext))
def e_Relation_init (G : Gs) (a : Ad) : TE :=
  (tCB (rTupO G.K) (tCons (tCall (spD G (F_without_divisor a)) [] E0 (tCons (tVar 1) tNil)) tNil))
def F_Relation_init (a : Ad) : DSp := fun ds O κ ε => ∃ ns : List Int, ds = [.py (.list (ns.map PyData.int))] ∧ ns.length < 1000 ∧ (∀ x ∈ ns, x.natAbs < 10 ^ 1850) ∧ (ns.length ≠ 6 → ε a.c_InvalidNumber (.int (ns.length : Int)) O) ∧
  ∀ c : Co, ns = c.list → (c.bend = 0 → ε a.c_Bent (.int 0) O) ∧ (c.bend ≠ 0 → κ (.rel c.plain.list) O)
theorem len_Relation_init (a : Ad) : ∀ ds O κ ε, F_Relation_init a ds O κ ε → ds.length = 1 := by
  rintro _ O κ ε ⟨ns, rfl, _⟩
  rfl
theorem co_of {ns : List Int} (h : ns.length = 6) : ∃ c : Co, ns = c.list := by
  obtain ⟨x, y, z, w, u, v, rfl⟩ := six_of h
  exact ⟨⟨x, y, z, w, u, v⟩, rfl⟩
theorem ls_Relation_init {G : Gs} {a : Ad} (hN : ErrC G.K a.c_InvalidNumber) (hB : ErrC G.K a.c_Bent) : ∀ (B0 : Hp) (E : XK) (v : V) ds O κ ε, F_Relation_init a ds O κ ε → WOk G B0 (fun cls d _ H => E cls d H) (fun C x _ O => ε C x O) →
    LS G B0 (p_Relation_init G a E) (startR N_Relation_init (.raw v :: ds)) O (fun ρ' O' => ρ'[0]? = some (some (.raw v)) ∧ LE G B0 (e_Relation_init G a) ρ' O' fun d O2 => ∃ ns : List Int, d = .py (.tuple (ns.map PyData.int)) ∧ κ (.rel ns) O2) (fun _ _ => False) (fun _ _ => False) (fun _ _ => False) := by
  rintro B0 E v _ O κ ε ⟨ns, rfl, hl, hb, k6, k⟩ hW
  walk_at "s"
  unfold p_Relation_init
  walk_at "w"
  rw [List.length_map]
  refine if_ndec (fun h => ?_) (fun h => ?_)
  · refine ls_raise hW hN.oex hN.no ?_
    walk_at "w"
    rw [List.length_map]
    exact k6 (by omega)
  · obtain ⟨c, rfl⟩ := co_of (ns := ns) (by omega)
    obtain ⟨k0, k1⟩ := k c rfl
    have hs := Co.sB_of hb
    have hs' := hs.le (m := 1850) (by decide)
    obtain ⟨g1, g2, g3, g4, g5, g6⟩ := hs
    have i1 : BdI c.a 1850 := ⟨g1⟩
    have i2 : BdI c.b 1850 := ⟨g2⟩
    have i3 : BdI c.c 1850 := ⟨g3⟩
    have i4 : BdI c.d 1850 := ⟨g4⟩
    have i5 : BdI c.e 1850 := ⟨g5⟩
    have i6 : BdI c.f 1850 := ⟨g6⟩
    walk_at "w"
    refine ⟨c.a, c.b, c.c, c.d, c.e, c.f, rfl, hs', ?_⟩
    walk_at "w"
    refine ⟨_, _, _, _, _, rfl, ⟨?_, ?_, ?_, ?_, ?_⟩, ?_⟩
    · unfold q4
      exact bd_to 3800
    · unfold q3
      exact bd_to 3800
    · unfold q2
      exact bd_to 3800
    · unfold q1
      exact bd_to 3800
    · unfold q0
      exact bd_to 3800
    walk_at "w"
    refine if_dec (fun h2 => ?_) (fun h2 => ?_)
    · refine ls_raise hW hB.oex hB.no ?_
      walk_at "w"
      exact k0 h2
    · refine ls_next ⟨rfl, ?_⟩
      unfold e_Relation_init
      walk_at "w"
      refine ⟨Nat.lt_of_lt_of_le (show 6 < 7 by decide) (by decide), fun x hx => Nat.lt_of_lt_of_le (hb x hx) (ten_mono (by decide)), .inl ?_⟩
      walk_at "w"
      refine lc_tupO rfl ?_
      exact ⟨c.plain.list, rfl, k1 h2⟩

/-! ### law_made -/
abbrev N_law_made : List Str := ["numbers_here"]
def t_law_made (G : Gs) (a : Ad) : TS :=
  (tRet (tMakeS G.C (spMk G (F_Relation_init a)) (fun _ => E0) (tCons (tCB (rListO G.K) (tCons (tVar 0) tNil)) tNil)))
def F_law_made (_ : Ad) : DSp := fun ds O κ _ => ∃ c : Co, ds = [.py c.py] ∧ c.sB 1850 ∧ c.bend ≠ 0 ∧ κ (.rel c.plain.list) O
theorem len_law_made (a : Ad) : ∀ ds O κ ε, F_law_made a ds O κ ε → ds.length = (["numbers_here"] : List Str).length := by
  rintro _ O κ ε ⟨ns, rfl, _⟩
  rfl
theorem ls_law_made {G : Gs} {a : Ad} : ∀ (B0 : Hp) ds O κ ε, F_law_made a ds O κ ε → LS G B0 (t_law_made G a) (startR N_law_made ds) O (fun _ O' => κ (.py .none) O') κ (fun _ _ => False) (fun _ _ => False) := by
  rintro B0 _ O κ ε ⟨c, rfl, hs, hb, k⟩
  walk_at "s"
  unfold t_law_made
  walk_at "n"
  refine le_makeG ?_
  walk_at "w"
  refine lc_listO rfl ?_
  walk_at "w"
  refine ⟨c.list, rfl, Nat.lt_of_lt_of_le (show 6 < 7 by decide) (by decide), hs.mem, fun h => absurd rfl h, fun c' e => ?_⟩
  have e' := Co.list_inj e
  subst e'
  exact ⟨fun z => absurd z hb, fun _ => k⟩

/-! ### law_terms -/
abbrev N_law_terms : List Str := ["one_here", "two_here", "spot", "at"]
def t_law_terms (G : Gs) (a : Ad) : TS :=
  (tRet (tLc (iRng1 (tCons (tC (.int 6)) tNil)) (gName 2) tYes (tCall (spD G (F_law_at a)) [] E0 (tCons (tLc (iRng1 (tCons (tC (.int 6)) tNil)) (gName 3) tYes (tCB (rInt1) (tCons (tOp (rEqU G.K) (tVar 2) (tVar 3)) tNil)) [3]) (tCons (tVar 0) (tCons (tVar 1) tNil)))) [2]))
def F_law_terms (_ : Ad) : DSp := fun ds O κ _ => ∃ x y : Pt, ds = [.py (ptD x), .py (ptD y)] ∧ ht x ≤ 10 ^ 690 ∧ ht y ≤ 10 ^ 690 ∧ κ (.py (inL (termsL x y))) O
theorem len_law_terms (a : Ad) : ∀ ds O κ ε, F_law_terms a ds O κ ε → ds.length = (["one_here", "two_here"] : List Str).length := by
  rintro _ O κ ε ⟨x, y, rfl, _⟩
  rfl
def intD : D → Int
  | .py (.int i) => i
  | _ => 0
def oneD (r : Int) (d : D) : PyData := .int (if r = intD d then 1 else 0)
theorem one_six : ∀ i : Nat, i < 6 → ∃ c0 c1 c2 c3 c4 c5 : Int, (PyData.list (((rngD 0 (Int.toNat 6)).filter fun _ => true).map (oneD (0 + (i : Int))))) = six c0 c1 c2 c3 c4 c5 ∧ sixB 90000 c0 c1 c2 c3 c4 c5 ∧
    ∀ x y : Pt, atV c0 c1 c2 c3 c4 c5 x.1 x.2 y.1 y.2 = (termsL x y).getD i 0 := by
  intro i hi
  have hi' : i = 0 ∨ i = 1 ∨ i = 2 ∨ i = 3 ∨ i = 4 ∨ i = 5 := by omega
  rcases hi' with rfl | rfl | rfl | rfl | rfl | rfl
  all_goals
    refine ⟨_, _, _, _, _, _, rfl, by refine ⟨?_, ?_, ?_, ?_, ?_, ?_⟩ <;> decide +kernel, fun x y => ?_⟩
    simp only [atV, termsL, List.getD_cons_zero, List.getD_cons_succ, Int.reduceAdd, Int.reduceEq, if_true, if_false, Int.cast_ofNat_Int, intD]
    simp
theorem ls_law_terms {G : Gs} {a : Ad} : ∀ (B0 : Hp) ds O κ ε, F_law_terms a ds O κ ε → LS G B0 (t_law_terms G a) (startR N_law_terms ds) O (fun _ O' => κ (.py .none) O') κ (fun _ _ => False) (fun _ _ => False) := by
  rintro B0 _ O κ ε ⟨x, y, rfl, hx, hy, k⟩
  obtain ⟨h1, h2⟩ := ht_lt hx (show 690 < 3000 by decide)
  obtain ⟨h3, h4⟩ := ht_lt hy (show 690 < 3000 by decide)
  walk_at "s"
  unfold t_law_terms
  refine ls_ret (le_map (fun d => .int ((termsL x y).getD (intD d).toNat 0)) (fun _ => true) (gin_name List.mem_cons_self) (li_rng1 ?_))
  walk_at "w"
  refine ⟨by decide, by decide, by rw [rngD_len]; decide, ?_, ?_⟩
  · intro d hd r2 acc hr2
    unfold rngD at hd
    obtain ⟨i, hi, rfl⟩ := List.mem_map.mp hd
    have hi : i < 6 := List.mem_range.mp hi
    refine lg_name ⟨rfl, lt_yes ⟨rfl, rfl, fun _ => ?_⟩⟩
    refine le_call (la_cons (le_map (oneD (0 + (i : Int))) (fun _ => true) (gin_name List.mem_cons_self) (li_rng1 ?_)))
    walk_at "w"
    refine ⟨by decide, by decide, by rw [rngD_len]; decide, ?_, ?_⟩
    · intro d hd r3 acc3 hr3
      unfold rngD at hd
      obtain ⟨j, hj, rfl⟩ := List.mem_map.mp hd
      refine lg_name ⟨rfl, lt_yes ⟨rfl, rfl, fun _ => ?_⟩⟩
      walk_at "w"
      refine ⟨rfl, ?_⟩
      show D.py (.int (if decide (0 + (i : Int) = 0 + (j : Int)) = true then 1 else 0)) = D.py (.int (if 0 + (i : Int) = 0 + (j : Int) then 1 else 0))
      by_cases h : 0 + (i : Int) = 0 + (j : Int)
      · rw [decide_eq_true h, if_pos rfl, if_pos h]
      · rw [decide_eq_false h, if_neg Bool.false_ne_true, if_neg h]
    · obtain ⟨c0, c1, c2, c3, c4, c5, e1, e2, e3⟩ := one_six i hi
      rw [e1]
      walk_at "a"
      refine ⟨_, _, _, _, _, _, x.1, x.2, y.1, y.2, rfl, e2, ⟨h1, h2, h3, h4⟩, rfl, ?_⟩
      show D.py (.int (atV c0 c1 c2 c3 c4 c5 x.1 x.2 y.1 y.2)) = D.py (.int ((termsL x y).getD (0 + (i : Int)).toNat 0))
      rw [e3, show (0 + (i : Int)).toNat = i by omega]
  · have e : ((rngD 0 (Int.toNat 6)).filter fun _ => true).map (fun d => PyData.int ((termsL x y).getD (intD d).toNat 0)) = (termsL x y).map PyData.int := rfl
    rw [e]
    exact k

/-! ### law_only -/
abbrev N_law_only : List Str := ["rows_here", "spots", "some", "spot", "good", "lead", "at", "done", "mixed", "here", "there", "free", "whole", "found"]
def t_law_only (G : Gs) (a : Ad) : TS :=
  (tSeq (tAsg (tTup (tCons (tLc (iList G.K (tVar 0)) (gName 2) tYes (tCB (rListO G.K) (tCons (tVar 2) tNil)) [2]) (tCons (tLst tNil) tNil))) (gTup G.K 2 (gCons (gName 0) (gCons (gName 1) gNil))))
    (tSeq (tFor (iRng1 (tCons (tC (.int 6)) tNil)) (gName 3) (tSeq (tAsg (tLc (iList G.K (tSl (rSlL G.K) (tVar 0) (tPart (tCB (rLen G.K) (tCons (tVar 1) tNil))) tNoPart)) (gName 2) (tTest (tOp (rNeU G.K) (tOp (rIx G.K) (tVar 2) (tVar 3)) (tC (.int 0)))) (tVar 2) [2]) (gName 4))
    (tIfS (tTest (tOp (rNeU G.K) (tVar 4) (tLst tNil))) (tSeq (tAsg (tTup (tCons (tCall (spD G (F_law_plain a)) [] E0 (tCons (tOp (rIx G.K) (tVar 4) (tC (.int 0))) tNil)) (tCons (tBM G.K "list" (rPlace G.K) (tVar 0) (tCons (tOp (rIx G.K) (tVar 4) (tC (.int 0))) (tCons (tCB (rLen G.K) (tCons (tVar 1) tNil)) tNil))) tNil))) (gTup G.K 2 (gCons (gName 5) (gCons (gName 6) gNil))))
    (tSeq (tAsg (tLst tNil) (gName 7))
    (tSeq (tFor (iList G.K (tOp rAddU (tSl (rSlL G.K) (tVar 0) tNoPart (tPart (tVar 6))) (tSl (rSlL G.K) (tVar 0) (tPart (tOp rAddU (tVar 6) (tC (.int 1)))) tNoPart))) (gName 2) (tSeq (tAsg (tLc (iZip G.K (tCons (tVar 2) (tCons (tVar 5) tNil))) (gTup G.K 2 (gCons (gName 9) (gCons (gName 10) gNil))) tYes (tOp rSubU (tOp rMulU (tOp (rIx G.K) (tVar 5) (tVar 3)) (tVar 9)) (tOp rMulU (tOp (rIx G.K) (tVar 2) (tVar 3)) (tVar 10))) [9, 10]) (gName 8))
    (tDrop (tBM G.K "list" rAppend (tVar 7) (tCons (tIf (tTest (tOp (rNeU G.K) (tVar 8) (tOp rMulU (tLst (tCons (tC (.int 0)) tNil)) (tC (.int 6))))) (tCall (spD G (F_law_plain a)) [] E0 (tCons (tVar 8) tNil)) (tVar 8)) tNil)))))
    (tSeq (tAsg (tOp rAddU (tOp rAddU (tSl (rSlL G.K) (tVar 7) tNoPart (tPart (tCB (rLen G.K) (tCons (tVar 1) tNil)))) (tLst (tCons (tVar 5) tNil))) (tSl (rSlL G.K) (tVar 7) (tPart (tCB (rLen G.K) (tCons (tVar 1) tNil))) tNoPart)) (gName 0))
    (tDrop (tBM G.K "list" rAppend (tVar 1) (tCons (tVar 3) tNil))))))) tNext)))
    (tSeq (tIfS (tTest (tOp (rNeU G.K) (tCB (rLen G.K) (tCons (tVar 1) tNil)) (tC (.int 5)))) (tRet (tLst tNil)) tNext)
    (tSeq (tPar 11 12 (tCons (tOp (rIx G.K) (tLc (iRng1 (tCons (tC (.int 6)) tNil)) (gName 3) (tTest (tOp (rNiU G.K) (tVar 3) (tVar 1))) (tVar 3) [3]) (tC (.int 0))) (tCons (tC (.int 1)) tNil)))
    (tSeq (tFor (iEnum G.K (tCons (tVar 1) tNil)) (gTup G.K 2 (gCons (gName 6) (gCons (gName 3) gNil))) (tAsg (tOp rMulU (tVar 12) (tOp (rIx G.K) (tOp (rIx G.K) (tVar 0) (tVar 6)) (tVar 3))) (gName 12)))
    (tSeq (tAsg (tOp rMulU (tLst (tCons (tC (.int 0)) tNil)) (tC (.int 6))) (gName 13))
    (tSeq (tAsg (tVar 12) (gSub (tVar 13) (tVar 11) rSetL))
    (tSeq (tFor (iEnum G.K (tCons (tVar 1) tNil)) (gTup G.K 2 (gCons (gName 6) (gCons (gName 3) gNil))) (tSeq (tAsg (tOp (rIx G.K) (tVar 0) (tVar 6)) (gName 2))
    (tAsg (tOp rSubU (tC (.int 0)) (tOp rFdivP (tOp rMulU (tOp (rIx G.K) (tVar 2) (tVar 11)) (tVar 12)) (tOp (rIx G.K) (tVar 2) (tVar 3)))) (gSub (tVar 13) (tVar 3) rSetL))))
    (tRet (tCall (spD G (F_law_plain a)) [] E0 (tCons (tVar 13) tNil)))))))))))
def rowOf : PyData → List Int
  | .list ds => ds.map fun d => match d with | .int i => i | _ => 0
  | _ => []
theorem rowOf_in (l : List Int) : rowOf (inL l) = l := by
  show (l.map PyData.int).map _ = l
  rw [List.map_map]
  exact List.map_id' l
def rowO : D → List Int
  | .py d => rowOf d
  | _ => []
theorem sel_rows (p : List Int → Bool) (L : List (List Int)) : ((((L.map inL).map D.py).filter fun d => p (rowO d)).map outP) = (L.filter p).map inL := by
  rw [List.map_map, List.filter_map, List.map_map]
  have e : (fun d => p (rowO d)) ∘ (D.py ∘ inL) = p := funext fun l => by
    show p (rowOf (inL l)) = p l
    rw [rowOf_in]
  rw [e]
  rfl
theorem atI_row {r : List Int} {j : Int} {i : Nat} (e : j = (i : Int)) (h : i < r.length) : atI (r.map PyData.int) j = some (.int (r.getD i 0)) := by
  rw [e, atI_nn (by omega) (by rw [List.length_map]; omega), Int.toNat_natCast, List.getElem?_map, List.getElem?_eq_getElem h, List.getD_eq_getElem?_getD, List.getElem?_eq_getElem h]
  rfl
def elD (s : Nat) (h r : List Int) : D → PyData
  | .py (.tuple [.int x, .int y]) => .int (h.getD s 0 * x - r.getD s 0 * y)
  | _ => .none
def sptD (S : List Nat) : List PyData := S.map fun (i : Nat) => PyData.int (i : Int)
theorem sptD_len (S : List Nat) : (sptD S).length = S.length := by
  unfold sptD
  rw [List.length_map]
theorem zero6 : ∀ {ns : List Int}, ns.length = 6 → nz ns = [] → ns = [0, 0, 0, 0, 0, 0]
  | [a, b, c, d, e, f], _, h => by
    have all : ∀ x ∈ [a, b, c, d, e, f], x = 0 := fun x hx => Classical.byContradiction fun n => by
      have : x ∈ nz [a, b, c, d, e, f] := List.mem_filter.mpr ⟨hx, by simpa using n⟩
      rw [h] at this
      cases this
    rw [all a (by simp), all b (by simp), all c (by simp), all d (by simp), all e (by simp), all f (by simp)]
theorem ex_free {S : List Nat} (h5 : S.length = 5) (hp : S.Pairwise (· < ·)) (hl : ∀ i ∈ S, i < 6) : ∃ f, f < 6 ∧ f ∉ S := by
  match S, h5 with
  | [a, b, c, d, e], _ =>
    simp only [List.pairwise_cons, List.mem_cons, List.not_mem_nil, or_false, forall_eq_or_imp, forall_eq, List.Pairwise.nil, and_true] at hp hl ⊢
    by_cases ha : a = 0
    · by_cases hb : b = 1
      · by_cases hc : c = 2
        · by_cases hd : d = 3
          · by_cases he : e = 4
            · exact ⟨5, by omega, by omega⟩
            · exact ⟨4, by omega, by omega⟩
          · exact ⟨3, by omega, by omega⟩
        · exact ⟨2, by omega, by omega⟩
      · exact ⟨1, by omega, by omega⟩
    · exact ⟨0, by omega, by omega⟩
theorem any_spt (S : List Nat) (k : Nat) : ((sptD S).any fun z => PyData.eqv z (.int (k : Int))) = decide (k ∈ S) := by
  unfold sptD
  rw [List.any_map]
  by_cases h : k ∈ S
  · rw [decide_eq_true h, List.any_eq_true]
    exact ⟨k, h, by show PyData.eqv (.int (k : Int)) (.int (k : Int)) = true; rw [PyData.eqv]; simp⟩
  · rw [decide_eq_false h, List.any_eq_false]
    intro m hm
    show ¬ PyData.eqv (.int (m : Int)) (.int (k : Int)) = true
    rw [PyData.eqv]
    intro z
    have : (m : Int) = (k : Int) := by simpa using z
    exact h (by rw [show k = m by omega]; exact hm)
theorem shSpt (S : List Nat) : ShN 1 (.list (sptD S)) := .lst fun d hd => by
  obtain ⟨i, _, rfl⟩ := List.mem_map.mp hd
  exact .int
theorem free_list {S : List Nat} (h5 : S.length = 5) (hp : S.Pairwise (· < ·)) (hl : ∀ i ∈ S, i < 6) :
    ∃ (f : Nat) (rest : List PyData), (((rngD 0 (Int.toNat 6)).filter fun d => !decide ((outI d).toNat ∈ S)).map outP) = .int (f : Int) :: rest ∧ f < 6 ∧ f ∉ S := by
  have el : ∀ d ∈ (((rngD 0 (Int.toNat 6)).filter fun d => !decide ((outI d).toNat ∈ S)).map outP), ∃ f : Nat, d = .int (f : Int) ∧ f < 6 ∧ f ∉ S := fun d hd => by
    obtain ⟨e, he, rfl⟩ := List.mem_map.mp hd
    obtain ⟨h1, h2⟩ := List.mem_filter.mp he
    obtain ⟨k, hk, rfl⟩ := List.mem_map.mp h1
    have hk := List.mem_range.mp hk
    refine ⟨k, by show PyData.int (0 + (k : Int)) = _; rw [Int.zero_add], hk, ?_⟩
    have : (outI (D.py (.int (0 + (k : Int))))).toNat = k := by
      show (0 + (k : Int)).toNat = k
      omega
    rw [this] at h2
    simpa using h2
  have ne : (((rngD 0 (Int.toNat 6)).filter fun d => !decide ((outI d).toNat ∈ S)).map outP) ≠ [] := fun z => by
    obtain ⟨f, f6, hf⟩ := ex_free h5 hp hl
    have m : outP (D.py (.int (0 + (f : Int)))) ∈ (((rngD 0 (Int.toNat 6)).filter fun d => !decide ((outI d).toNat ∈ S)).map outP) := by
      refine List.mem_map.mpr ⟨_, List.mem_filter.mpr ⟨List.mem_map.mpr ⟨f, List.mem_range.mpr f6, rfl⟩, ?_⟩, rfl⟩
      have : (outI (D.py (.int (0 + (f : Int))))).toNat = f := by
        show (0 + (f : Int)).toNat = f
        omega
      rw [this]
      simpa using hf
    rw [z] at m
    cases m
  cases hL : (((rngD 0 (Int.toNat 6)).filter fun d => !decide ((outI d).toNat ∈ S)).map outP) with
  | nil => exact absurd hL ne
  | cons d rest =>
    obtain ⟨f, rfl, f6, hf⟩ := el d (by rw [hL]; exact .head _)
    exact ⟨f, rest, rfl, f6, hf⟩
theorem spt_at {S : List Nat} {i : Nat} {d : D} (hd : ((List.range (sptD S).length).map fun (i : Nat) => D.py (PyData.tuple [PyData.int (i : Int), (sptD S).getD i PyData.none]))[i]? = some d) : i < S.length ∧ d = .py (.tuple [.int (i : Int), .int ((S.getD i 0 : Nat) : Int)]) := by
  rw [List.getElem?_map, sptD_len] at hd
  by_cases hi : i < S.length
  · rw [List.getElem?_range hi] at hd
    have e : (sptD S).getD i .none = .int ((S.getD i 0 : Nat) : Int) := by
      unfold sptD
      rw [List.getD_eq_getElem?_getD, List.getElem?_map, List.getElem?_eq_getElem hi, List.getD_eq_getElem?_getD, List.getElem?_eq_getElem hi]
      rfl
    refine ⟨hi, ?_⟩
    rw [← e]
    exact (Option.some.inj hd).symm
  · rw [List.getElem?_eq_none (by rw [List.length_range]; omega)] at hd
    cases hd
theorem row_ix {R : List (List Int)} {i : Nat} {k : Int} (e : k = (i : Int)) (h : i < R.length) : atI (R.map inL) k = some (inL (R.getD i [])) := by
  rw [e, atI_nn (by omega) (by rw [List.length_map]; omega), Int.toNat_natCast, List.getElem?_map, List.getElem?_eq_getElem h, List.getD_eq_getElem?_getD, List.getElem?_eq_getElem h]
  rfl
theorem ix6 {n : Nat} {f : Nat} (hn : n = 6) (h : f < 6) : ixN n (f : Int) = some f := by
  subst hn
  have : f = 0 ∨ f = 1 ∨ f = 2 ∨ f = 3 ∨ f = 4 ∨ f = 5 := by omega
  rcases this with rfl | rfl | rfl | rfl | rfl | rfl <;> rfl
theorem vc_set {F : List Int} {m k : Nat} {x : Int} (hm : m < F.length) : vc (F.set m x) k = if k = m then x else vc F k := by
  unfold vc
  rw [List.getD_eq_getElem?_getD, List.getElem?_set]
  by_cases e : m = k
  · rw [if_pos e, if_pos e.symm, if_pos (by omega)]
    rfl
  · rw [if_neg e, if_neg (fun z => e z.symm), List.getD_eq_getElem?_getD]
theorem inc_ne {S : List Nat} (hp : S.Pairwise (· < ·)) {l i : Nat} (h1 : l < i) (h2 : i < S.length) : S.getD l 0 ≠ S.getD i 0 := by
  have := List.pairwise_iff_getElem.mp hp l i (by omega) h2 h1
  rw [List.getD_eq_getElem?_getD, List.getD_eq_getElem?_getD, List.getElem?_eq_getElem (by omega), List.getElem?_eq_getElem h2]
  show S[l] ≠ S[i]
  omega
theorem least : ∀ (n m : Nat) (P : Nat → Prop), (∀ k, P k ∨ ¬ P k) → n ≤ m → P m → ∃ j, n ≤ j ∧ j ≤ m ∧ P j ∧ ∀ k, n ≤ k → k < j → ¬ P k := fun n m P dec hm pm => by
  obtain ⟨d, rfl⟩ : ∃ d, m = n + d := ⟨m - n, by omega⟩
  clear hm
  induction d generalizing n with
  | zero => exact ⟨n, Nat.le_refl _, Nat.le_refl _, pm, fun k h1 h2 => absurd h2 (by omega)⟩
  | succ d ih =>
    rcases dec n with h | h
    · exact ⟨n, Nat.le_refl _, by omega, h, fun k h1 h2 => absurd h2 (by omega)⟩
    · obtain ⟨j, a, b, c, e⟩ := ih (n + 1) (by rw [show n + 1 + d = n + (d + 1) by omega]; exact pm)
      refine ⟨j, by omega, by omega, c, fun k h1 h2 => ?_⟩
      by_cases z : k = n
      · rw [z]
        exact h
      · exact e k (by omega) h2
theorem first_row {R : List (List Int)} {n : Nat} {g : List Int} (hR : R.length = 7) (h : g ∈ R.drop n) : ∃ j, n ≤ j ∧ j < 7 ∧ R.getD j [] = g ∧ ∀ k, n ≤ k → k < j → R.getD k [] ≠ g := by
  obtain ⟨i, hi, e⟩ := List.mem_iff_getElem.mp h
  rw [List.length_drop, hR] at hi
  rw [List.getElem_drop] at e
  obtain ⟨j, a, b, c, d⟩ := least n (n + i) (fun k => R.getD k [] = g) (fun k => Classical.em _) (Nat.le_add_right _ _) (by
    show R.getD (n + i) [] = g
    rw [List.getD_eq_getElem?_getD, List.getElem?_eq_getElem (by omega)]
    exact e)
  exact ⟨j, a, by omega, c, d⟩
theorem shRows (M : List (List Int)) : ShN 2 (.list (M.map inL)) := .lst fun d hd => by
  obtain ⟨r, _, rfl⟩ := List.mem_map.mp hd
  exact .ints
theorem place_row {R : List (List Int)} {n j : Nat} {g : List Int} (hR : R.length = 7) (nj : n ≤ j) (j7 : j < 7) (e : R.getD j [] = g) (l : ∀ k, n ≤ k → k < j → R.getD k [] ≠ g) : PlaceOf (R.map inL) (inL g) n j := by
  have at_ : ∀ k, k < 7 → (R.map inL)[k]? = some (inL (R.getD k [])) := fun k hk => by
    rw [List.getElem?_map, List.getD_eq_getElem?_getD, List.getElem?_eq_getElem (by omega)]
    rfl
  refine ⟨nj, ⟨_, at_ j j7, ?_⟩, fun m u h1 h2 hu => ?_⟩
  · rw [e]
    exact (ShN.ints (ns := g)).self
  · rw [at_ m (by omega)] at hu
    cases hu
    rw [show PyData.eqv (inL (R.getD m [])) (inL g) = decide (R.getD m [] = g) from eqv_ints _ _]
    exact decide_eq_false (l m h1 h2)
def F_law_only (_ : Ad) : DSp := fun ds O κ _ => ∃ (R : List (List Int)) (v : List Int), ds = [.py (.list (R.map inL))] ∧ GJ v 0 R [] ∧ v.length = 6 ∧ nz v ≠ [] ∧ κ (.py (.list [])) O ∧ κ (.py (inL (plainL v))) O
theorem len_law_only (a : Ad) : ∀ ds O κ ε, F_law_only a ds O κ ε → ds.length = (["rows_here"] : List Str).length := by
  rintro _ O κ ε ⟨R, v, rfl, _⟩
  rfl
theorem ls_law_only {G : Gs} {a : Ad} : ∀ (B0 : Hp) ds O κ ε, F_law_only a ds O κ ε → LS G B0 (t_law_only G a) (startR N_law_only ds) O (fun _ O' => κ (.py .none) O') κ (fun _ _ => False) (fun _ _ => False) := by
  rintro B0 _ O κ ε ⟨R, v, rfl, hG, v6, hz, k0, k1⟩
  walk_at "s"
  unfold t_law_only
  refine ls_seq (ls_tup2 ?_)
  refine la_cons (le_map outP (fun _ => true) (gin_name List.mem_cons_self) (li_list ?_))
  walk_at "w"
  refine ⟨by rw [List.length_map, List.length_map, hG.len]; decide, ?_, ?_⟩
  · intro d hd r2 acc hr2
    obtain ⟨d1, h1, rfl⟩ := List.mem_map.mp hd
    obtain ⟨r, h2, rfl⟩ := List.mem_map.mp h1
    refine lg_name ⟨rfl, lt_yes ⟨rfl, rfl, fun _ => ?_⟩⟩
    walk_at "a"
    exact lc_listO rfl ⟨rfl, rfl⟩
  have e0 : (((R.map inL).map D.py).filter fun _ => true).map outP = R.map inL := by
    rw [List.filter_eq_self.mpr (fun _ _ => rfl), List.map_map]
    exact List.map_id' _
  rw [e0]
  clear e0
  refine la_cons (le_lstO ?_)
  walk_at "w"
  intro sp hsp
  walk_at "w"
  refine ls_for (li_rng1 ?_)
  walk_at "w"
  refine ⟨by decide, by decide, fun i ρ' O' => ∃ (R' : List (List Int)) (S : List Nat) (s2 s3 s4 s5 s6 s7 s8 s9 s10 : Option D), ρ' = [some (.py (.list (R'.map inL))), some (.own sp), s2, s3, s4, s5, s6, s7, s8, s9, s10, none, none, none] ∧ O' = oset O sp (sptD S) ∧ GJ v i R' S, ?_, ?_, ?_⟩
  · exact ⟨R, [], _, _, _, _, _, _, _, _, _, rfl, rfl, hG⟩
  · rintro i d ρ' O' hd ⟨R', S, s2, s3, s4, s5, s6, s7, s8, s9, s10, rfl, rfl, h⟩
    obtain ⟨rfl, hi⟩ := rngD_get hd
    have hi6 : i < 6 := hi
    clear hd hi hG
    walk_at "c"
    refine ls_seq (ls_asg (le_map outP (fun d => !decide ((rowO d).getD i 0 = 0)) (gin_name List.mem_cons_self) (li_list (le_sl ?_))))
    walk_at "w"
    rw [sptD_len, cut_from, List.map_drop.symm]
    refine ⟨by rw [List.length_map, List.length_map, List.length_drop, h.len]; omega, ?_, ?_⟩
    · intro d hd r2 acc hr2
      obtain ⟨d1, h1, rfl⟩ := List.mem_map.mp hd
      obtain ⟨r, h2, rfl⟩ := List.mem_map.mp h1
      refine lg_name ⟨rfl, lt_test (le_op ?_)⟩
      walk_at "a"
      refine lr_ix rfl (atI_row (i := i) (by omega) (by rw [h.six r (List.mem_of_mem_drop h2)]; exact hi6)) ?_
      walk_at "a"
      refine ⟨_, rfl, rfl, ?_, fun _ => ?_⟩
      · show (!decide (r.getD i 0 = 0)) = !decide ((rowOf (inL r)).getD i 0 = 0)
        rw [rowOf_in]
      · walk_at "a"
        exact ⟨rfl, rfl⟩
    rw [sel_rows (fun r => !decide (r.getD i 0 = 0)) (R'.drop S.length)]
    have few := h.few
    have hgd : ∀ g, g ∈ (R'.drop S.length).filter (fun r => !decide (r.getD i 0 = 0)) → g ∈ R'.drop S.length ∧ g.getD i 0 ≠ 0 := fun g hg => by
      have := List.mem_filter.mp hg
      exact ⟨this.1, by simpa using this.2⟩
    generalize (R'.drop S.length).filter (fun r => !decide (r.getD i 0 = 0)) = good at *
    refine lg_name ?_
    simp only [List.set_cons_succ, List.set_cons_zero]
    cases good with
    | nil =>
      walk_at "w"
      refine lr_ne rfl rfl rfl rfl ?_
      walk_at "w"
      refine ifF ?_
      walk_at "w"
      exact ⟨R', S, _, _, _, _, _, _, _, _, _, rfl, rfl, h.skip⟩
    | cons g rest =>
      obtain ⟨gin, gnz⟩ := hgd g (.head _)
      obtain ⟨j, nj, j7, gj, jl⟩ := first_row h.len gin
      walk_at "w"
      refine lr_ne rfl rfl (shRows _).ok rfl ?_
      walk_at "w"
      refine ifT ?_
      walk_at "c"
      have gR : g ∈ R' := List.mem_of_mem_drop gin
      have g6 := h.six g gR
      have gn : nz g ≠ [] := fun z => gnz (by
        by_cases e : g.getD i 0 = 0
        · exact e
        · have m : g.getD i 0 ∈ nz g := List.mem_filter.mpr ⟨getD_mem (by rw [g6]; exact hi6), by simpa using e⟩
          rw [z] at m
          cases m)
      refine ls_seq (ls_tup2 ?_)
      have ix0 : atI ((g :: rest).map inL) 0 = some (inL g) := by
        rw [atI_nn (by decide) (by rw [List.map_cons, List.length_cons]; omega)]
        rfl
      walk_at "w"
      refine lr_ix rfl ix0 ?_
      walk_at "w"
      refine ⟨by rw [g6]; decide, .inr (.inr trivial), gn, ?_⟩
      refine la_cons (le_place ?_)
      walk_at "w"
      refine lr_ix rfl ix0 ?_
      walk_at "w"
      rw [sptD_len]
      refine ⟨inL g, S.length, j, rfl, ⟨(shRows R').ok, ShN.ints.ok⟩, place_row h.len nj j7 gj jl, ?_⟩
      walk_at "c"
      refine ls_seq (ls_asg (le_lstO ?_))
      walk_at "w"
      intro dn hdn
      have pdn : sp ≠ dn := fun z => by
        rw [← z, oset_same] at hdn
        cases hdn
      have hdn' : ∀ q, oset O sp q dn = none := fun q => by
        rw [oset_ne pdn.symm] at hdn ⊢
        exact hdn
      have lg6 : (plainL g).length = 6 := by rw [plainL_l, g6]
      have gb := h.bd g gR
      have pb := plain_bd gb
      have up : ∀ {x : Int}, x.natAbs < 10 ^ rkG S.length → x.natAbs < Big := fun hx => big_to (Nat.lt_of_lt_of_le hx (ten_mono (Nat.le_trans (rkG_mono (show S.length ≤ 5 by omega)) (by decide))))
      have lQ : (R'.take j ++ R'.drop (j + 1)).length = 6 := by
        rw [List.length_append, List.length_take, List.length_drop, h.len]
        omega
      have mQ : ∀ r ∈ R'.take j ++ R'.drop (j + 1), r ∈ R' := fun r hr => by
        rcases List.mem_append.mp hr with hr | hr
        · exact List.mem_of_mem_take hr
        · exact List.mem_of_mem_drop hr
      walk_at "c"
      refine ls_seq (ls_for (li_list ?_))
      walk_at "w"
      rw [cut_to, show (j : Int) + 1 = ((j + 1 : Nat) : Int) by omega, cut_from, List.map_take.symm, List.map_drop.symm]
      refine lr_cat rfl rfl (fun _ => nofun) (fun _ => nofun) (by rw [List.length_map, List.length_map, ← List.length_append, lQ]; decide) ?_
      rw [← List.map_append]
      walk_at "w"
      generalize hQ : R'.take j ++ R'.drop (j + 1) = Q at *
      refine ⟨fun k ρ' O' => (∃ s2 s8 s9 s10 : Option D, ρ' = [some (.py (.list (R'.map inL))), some (.own sp), s2, some (.py (.int (0 + (i : Int)))), some (.py (.list ((g :: rest).map inL))), some (.py (.list ((plainL g).map PyData.int))), some (.py (.int (j : Int))), some (.own dn), s8, s9, s10, none, none, none]) ∧ O' = oset (oset O sp (sptD S)) dn (((Q.take k).map (gjRow i (plainL g))).map inL), ⟨⟨_, _, _, _, rfl⟩, rfl⟩, ?_, ?_⟩
      · rintro k d ρ' O' hd ⟨⟨s2, s8, s9, s10, rfl⟩, rfl⟩
        rw [List.getElem?_map, List.getElem?_map] at hd
        cases hq : Q[k]? with
        | none =>
          rw [hq] at hd
          cases hd
        | some r =>
          rw [hq] at hd
          cases hd
          have rR := mQ r (List.mem_of_getElem? hq)
          have r6 := h.six r rR
          have rb := h.bd r rR
          have k6 : k < 6 := by
            have := (List.getElem?_eq_some_iff.mp hq).1
            omega
          refine lg_name ?_
          simp only [List.set_cons_succ, List.set_cons_zero]
          refine ls_seq (ls_asg (le_map (elD i (plainL g) r) (fun _ => true) (gin_pair List.mem_cons_self (List.mem_cons_of_mem _ List.mem_cons_self)) (li_zip ?_)))
          walk_at "w"
          rw [zip_ints]
          refine ⟨by rw [List.length_map, List.length_zip, r6, lg6]; decide, ?_, ?_⟩
          · intro d hd r3 acc hr3
            obtain ⟨q, hq', rfl⟩ := List.mem_map.mp hd
            obtain ⟨h1, h2⟩ := List.of_mem_zip hq'
            refine lg_tup rfl (lgs_cons (lg_name (lgs_cons (lg_name (lgs_nil ⟨rfl, lt_yes ⟨rfl, rfl, fun _ => ?_⟩⟩)))))
            walk_at "a"
            refine lr_ix rfl (atI_row (i := i) (by omega) (by rw [lg6]; exact hi6)) ?_
            walk_at "a"
            refine lr_mul (mulW (up (pb _ (getD_mem (by rw [lg6]; exact hi6)))) (up (rb _ h1))) ?_
            walk_at "a"
            refine lr_ix rfl (atI_row (i := i) (by omega) (by rw [r6]; exact hi6)) ?_
            walk_at "a"
            refine lr_mul (mulW (up (rb _ (getD_mem (by rw [r6]; exact hi6)))) (up (pb _ h2))) ?_
            walk_at "w"
            exact ⟨rfl, rfl⟩
          have em : (((r.zip (plainL g)).map fun p => D.py (.tuple [.int p.1, .int p.2])).filter fun _ => true).map (elD i (plainL g) r) = (elimR i (plainL g) r).map PyData.int := by
            rw [List.filter_eq_self.mpr (fun _ _ => rfl), List.map_map]
            unfold elimR
            rw [List.map_map]
            rfl
          rw [em]
          have el6 := elim_len (s := i) lg6 r6
          walk_at "w"
          refine le_append ?_
          walk_at "w"
          refine ⟨⟨_, oset_same⟩, ?_⟩
          walk_at "w"
          refine lr_rep rfl (fun _ => nofun) ⟨by decide, by decide⟩ (show 1 * 6 ≤ 100000 by decide) ?_
          rw [show (List.replicate (6 : Int).toNat [PyData.int 0]).flatten = ([0, 0, 0, 0, 0, 0] : List Int).map PyData.int from rfl]
          refine lr_ne rfl rfl ShN.ints.ok (ShN.ints (ns := [0, 0, 0, 0, 0, 0])).ok ?_
          rw [show PyData.eqv (.list ((elimR i (plainL g) r).map PyData.int)) (.list (([0, 0, 0, 0, 0, 0] : List Int).map PyData.int)) = decide (elimR i (plainL g) r = [0, 0, 0, 0, 0, 0]) from eqv_ints _ _]
          have fin : ∀ d8 : Option D, ((fun (k : Nat) (ρ' : Ro) (O' : Ow) => (∃ s2 s8 s9 s10 : Option D, ρ' = [some (.py (.list (R'.map inL))), some (.own sp), s2, some (.py (.int (0 + (i : Int)))), some (.py (.list ((g :: rest).map inL))), some (.py (.list ((plainL g).map PyData.int))), some (.py (.int (j : Int))), some (.own dn), s8, s9, s10, none, none, none]) ∧ O' = oset (oset O sp (sptD S)) dn (((Q.take k).map (gjRow i (plainL g))).map inL)) (k + 1)
              [some (.py (.list (R'.map inL))), some (.own sp), some (.py (inL r)), some (.py (.int (0 + (i : Int)))), some (.py (.list ((g :: rest).map inL))), some (.py (.list ((plainL g).map PyData.int))), some (.py (.int (j : Int))), some (.own dn), d8, s9, s10, none, none, none]
              (oset (oset (oset O sp (sptD S)) dn (((Q.take k).map (gjRow i (plainL g))).map inL)) dn ((((Q.take k).map (gjRow i (plainL g))).map inL) ++ [inL (gjRow i (plainL g) r)]))) := fun d8 => by
            refine ⟨⟨_, _, _, _, rfl⟩, ?_⟩
            rw [oset_oset, List.take_add_one, hq, List.map_append, List.map_append]
            rfl
          have few2 : (((Q.take k).map (gjRow i (plainL g))).map inL).length < 100000 := by
            rw [List.length_map, List.length_map, List.length_take]
            omega
          by_cases ez : elimR i (plainL g) r = [0, 0, 0, 0, 0, 0]
          · rw [decide_eq_true ez]
            refine ⟨false, rfl, ifF ?_⟩
            walk_at "w"
            refine ⟨_, oset_same, few2, ?_⟩
            have e2 : PyData.list ((elimR i (plainL g) r).map PyData.int) = inL (gjRow i (plainL g) r) := by
              unfold gjRow
              rw [ez]
              rfl
            rw [e2]
            exact fin _
          · rw [decide_eq_false ez]
            refine ⟨true, rfl, ifT ?_⟩
            walk_at "w"
            refine ⟨by rw [el6]; decide, .inr (.inr trivial), fun z => ez (zero6 el6 z), ?_⟩
            refine la_nil ⟨_, rfl, _, oset_same, few2, ?_⟩
            exact fin _
      · rintro ρ' O' ⟨⟨s2, s8, s9, s10, rfl⟩, rfl⟩
        rw [show (((Q.map inL).map D.py).length) = 6 by rw [List.length_map, List.length_map, lQ], show Q.take 6 = Q by rw [← lQ]; exact List.take_length]
        refine ls_freeze (i := 7) rfl oset_same ?_
        rw [odel_oset (hdn' _)]
        simp only [List.set_cons_succ, List.set_cons_zero]
        walk_at "w"
        have lD : (Q.map (gjRow i (plainL g))).length = 6 := by rw [List.length_map, lQ]
        rw [sptD_len, cut_to, List.map_take.symm]
        refine lr_cat rfl rfl (fun _ => nofun) (fun _ => nofun) (by simp only [List.length_map, List.length_take, List.length_cons, List.length_nil, lQ]; omega) ?_
        walk_at "w"
        rw [sptD_len, cut_from, List.map_drop.symm]
        refine lr_cat rfl rfl (fun _ => nofun) (fun _ => nofun) (by simp only [List.length_append, List.length_map, List.length_take, List.length_drop, List.length_cons, List.length_nil, lQ]; omega) ?_
        rw [show (((Q.map (gjRow i (plainL g))).take S.length).map inL ++ [PyData.list ((plainL g).map PyData.int)]) ++ ((Q.map (gjRow i (plainL g))).drop S.length).map inL = (gjR S.length i j g R').map inL by
          unfold gjR
          rw [hQ, List.map_append, List.map_append]
          rfl]
        walk_at "w"
        refine le_append ?_
        walk_at "w"
        refine ⟨⟨_, oset_same⟩, ?_⟩
        walk_at "w"
        refine ⟨_, oset_same, by rw [sptD_len]; omega, ?_⟩
        refine ⟨gjR S.length i j g R', S ++ [i], _, _, _, _, _, _, _, _, _, rfl, ?_, ?_⟩
        · rw [oset_oset, show sptD (S ++ [i]) = sptD S ++ [.int (0 + (i : Int))] by
            unfold sptD
            rw [List.map_append, show (0 : Int) + (i : Int) = (i : Int) by omega]
            rfl]
        · have := h.next hi6 nj j7 (by rw [gj]; exact gnz)
          rw [gj] at this
          exact this
  rintro ρ' O' ⟨R', S, s2, s3, s4, s5, s6, s7, s8, s9, s10, rfl, rfl, h⟩
  rw [rngD_len] at h
  replace h : GJ v 6 R' S := h
  refine ls_freeze (i := 1) rfl oset_same ?_
  rw [odel_oset hsp]
  simp only [List.set_cons_succ, List.set_cons_zero]
  walk_at "w"
  rw [sptD_len]
  refine if_ndec (fun _ => ?_) (fun h5 => ?_)
  · walk_at "w"
    exact k0
  have h5 : S.length = 5 := by omega
  walk_at "w"
  refine le_map outP (fun d => !decide ((outI d).toNat ∈ S)) (gin_name List.mem_cons_self) (li_rng1 ?_)
  walk_at "w"
  refine ⟨by decide, by decide, by rw [rngD_len]; decide, ?_, ?_⟩
  · intro d hd r2 acc hr2
    obtain ⟨k, hk, rfl⟩ := List.mem_map.mp hd
    have hk : k < 6 := List.mem_range.mp hk
    refine lg_name ⟨rfl, lt_test (le_op ?_)⟩
    walk_at "a"
    refine lr_ni rfl rfl rfl (shSpt S).ok ?_
    rw [show (0 : Int) + (k : Int) = (k : Int) by omega, any_spt]
    refine ⟨_, rfl, rfl, rfl, fun _ => ?_⟩
    walk_at "a"
    exact ⟨rfl, rfl⟩
  obtain ⟨f, rest, eL, f6, hf⟩ := free_list h5 h.inc h.low
  rw [eL]
  walk_at "w"
  refine lr_ix rfl (show atI (PyData.int (f : Int) :: rest) 0 = some (.int (f : Int)) by
    rw [atI_nn (by decide) (by rw [List.length_cons]; omega)]
    rfl) ?_
  walk_at "c"
  have rk5 : rkG S.length = 29791 := by
    rw [h5]
    decide
  have pivb : ∀ i, i < 5 → ∀ c, c < 6 → (vc (R'.getD i []) c).natAbs < 10 ^ 29791 := fun i hi c hc => by
    have m := getR_in (R := R') (i := i) (by rw [h.len]; omega)
    rw [← rk5]
    exact h.bd _ m _ (getD_mem (by rw [h.six _ m]; exact hc))
  have prb := prP_bd h h.low
  rw [rk5] at prb
  have sp6 : ∀ i, i < 5 → S.getD i 0 < 6 := fun i hi => h.low _ (getD_in (by omega))
  have r6 : ∀ i, i < 5 → (R'.getD i []).length = 6 := fun i hi => h.six _ (getR_in (by rw [h.len]; omega))
  refine ls_seq (ls_for (li_enum ?_))
  walk_at "w"
  refine ⟨fun i ρ' O' => (∃ s2 s3 s6 : Option D, ρ' = [some (.py (.list (R'.map inL))), some (.py (.list (sptD S))), s2, s3, s4, s5, s6, s7, s8, s9, s10, some (.py (.int (f : Int))), some (.py (.int (prP R' S i))), none]) ∧ O' = O, ⟨⟨_, _, _, rfl⟩, rfl⟩, ?_, ?_⟩
  · rintro i d ρ' O' hd ⟨⟨s2, s3, s6, rfl⟩, rfl⟩
    obtain ⟨hi, rfl⟩ := spt_at hd
    have i5 : i < 5 := by omega
    refine lg_tup rfl (lgs_cons (lg_name (lgs_cons (lg_name (lgs_nil ?_)))))
    simp only [List.set_cons_succ, List.set_cons_zero]
    walk_at "w"
    refine lr_ix rfl (row_ix (i := i) rfl (by rw [h.len]; omega)) ?_
    walk_at "w"
    refine lr_ix rfl (atI_row (i := S.getD i 0) rfl (by rw [r6 i i5]; exact sp6 i i5)) ?_
    walk_at "w"
    refine lr_mul (by
      have a := log_ten (prb i (by omega))
      have b := log_ten (pivb i i5 _ (sp6 i i5))
      unfold vc at b
      unfold CMulW
      omega) ?_
    walk_at "w"
    exact ⟨⟨_, _, _, rfl⟩, rfl⟩
  rintro ρ' O' ⟨⟨s2, s3, s6, rfl⟩, rfl⟩
  rw [show ((List.range (sptD S).length).map fun (i : Nat) => D.py (PyData.tuple [PyData.int (i : Int), (sptD S).getD i PyData.none])).length = 5 by rw [List.length_map, List.length_range, sptD_len, h5]]
  walk_at "c"
  refine ls_seq (ls_asg (le_op ?_))
  walk_at "w"
  refine lr_repW rfl (fun _ => nofun) (by decide) (by decide) (show 1 * 6 ≤ 100000 by decide) ?_
  intro fd hfd
  rw [show (List.replicate (6 : Int).toNat [PyData.int 0]).flatten = ([0, 0, 0, 0, 0, 0] : List Int).map PyData.int from rfl]
  walk_at "w"
  refine ⟨fd, _, (f : Int), f, .int (prP R' S 5), rfl, rfl, rfl, oset_same, ix6 rfl f6, ?_⟩
  rw [oset_oset, ← List.map_set]
  walk_at "c"
  refine ls_seq (ls_for (li_enum ?_))
  walk_at "w"
  refine ⟨fun i ρ' O2 => (∃ s2 s3 s6 : Option D, ρ' = [some (.py (.list (R'.map inL))), some (.py (.list (sptD S))), s2, s3, s4, s5, s6, s7, s8, s9, s10, some (.py (.int (f : Int))), some (.py (.int (prP R' S 5))), some (.own fd)]) ∧ ∃ F : List Int, O2 = oset O' fd (F.map PyData.int) ∧ F.length = 6 ∧ vc F f = prP R' S 5 ∧ ∀ l, l < i → vc F (S.getD l 0) = 0 - (vc (R'.getD l []) f * prP R' S 5).fdiv (vc (R'.getD l []) (S.getD l 0)), ?_, ?_, ?_⟩
  · exact ⟨⟨_, _, _, rfl⟩, _, rfl, by rw [List.length_set]; rfl, by rw [vc_set (by exact f6), if_pos rfl], fun l hl => absurd hl (Nat.not_lt_zero _)⟩
  · rintro i d ρ' O2 hd ⟨⟨s2, s3, s6, rfl⟩, F, rfl, F6, e1, e2⟩
    obtain ⟨hi, rfl⟩ := spt_at hd
    have i5 : i < 5 := by omega
    refine lg_tup rfl (lgs_cons (lg_name (lgs_cons (lg_name (lgs_nil ?_)))))
    simp only [List.set_cons_succ, List.set_cons_zero]
    walk_at "w"
    refine lr_ix rfl (row_ix (i := i) rfl (by rw [h.len]; omega)) ?_
    walk_at "w"
    refine lr_ix rfl (atI_row (i := f) rfl (by rw [r6 i i5]; exact f6)) ?_
    walk_at "w"
    refine lr_mul (by
      have a := log_ten (prb 5 (by omega))
      have b := log_ten (pivb i i5 _ f6)
      unfold vc at b
      unfold CMulW
      omega) ?_
    walk_at "w"
    refine lr_ix rfl (atI_row (i := S.getD i 0) rfl (by rw [r6 i i5]; exact sp6 i i5)) ?_
    walk_at "w"
    refine lr_fdivP (h.piv i hi) ?_
    walk_at "w"
    refine ⟨fd, _, _, S.getD i 0, .int (0 - (vc (R'.getD i []) f * prP R' S 5).fdiv (vc (R'.getD i []) (S.getD i 0))), rfl, rfl, rfl, oset_same, ix6 (by rw [List.length_map, F6]) (sp6 i i5), ?_⟩
    rw [oset_oset, ← List.map_set]
    walk_at "w"
    have sF : S.getD i 0 < F.length := by
      rw [F6]
      exact sp6 i i5
    refine ⟨⟨_, _, _, rfl⟩, _, rfl, by rw [List.length_set, F6], ?_, fun l hl => ?_⟩
    · rw [vc_set sF, if_neg (fun z => hf (by rw [z]; exact getD_in hi))]
      exact e1
    · rw [vc_set sF]
      by_cases e : l = i
      · rw [e, if_pos rfl]
      · rw [if_neg (inc_ne h.inc (show l < i by omega) hi)]
        exact e2 l (by omega)
  rintro ρ' O2 ⟨⟨s2, s3, s6, rfl⟩, F, rfl, F6, e1, e2⟩
  rw [show ((List.range (sptD S).length).map fun (i : Nat) => D.py (PyData.tuple [PyData.int (i : Int), (sptD S).getD i PyData.none])).length = 5 by rw [List.length_map, List.length_range, sptD_len, h5]] at e2
  refine ls_freeze (i := 13) rfl oset_same ?_
  rw [odel_oset hfd]
  walk_at "w"
  have nF : nz F ≠ [] := fun z => prP_ne h 5 (by omega) (by
    rw [← e1]
    rw [zero6 F6 z]
    have : f = 0 ∨ f = 1 ∨ f = 2 ∨ f = 3 ∨ f = 4 ∨ f = 5 := by omega
    rcases this with rfl | rfl | rfl | rfl | rfl | rfl <;> rfl)
  refine ⟨by rw [F6]; decide, .inr (.inr trivial), nF, ?_⟩
  rw [h.fin h5 v6 hz hf f6 F6 e1 e2]
  exact k1

/-! ### hessian -/
abbrev N_hessian : List Str := ["quartic_numbers", "d4", "d3", "d2", "d1", "d0"]
def t_hessian (G : Gs) (a : Ad) : TS :=
  (tSeq (tAsg (tVar 0) (gUnl G.K 5 (gCons (gName 1) (gCons (gName 2) (gCons (gName 3) (gCons (gName 4) (gCons (gName 5) gNil)))))))
    (tRet (tLst (tCons (tOp rSubU (tOp rMulU (tOp rMulU (tC (.int 3)) (tVar 2)) (tVar 2)) (tOp rMulU (tOp rMulU (tC (.int 8)) (tVar 1)) (tVar 3))) (tCons (tOp rMulU (tC (.int 4)) (tOp rSubU (tOp rMulU (tVar 2) (tVar 3)) (tOp rMulU (tOp rMulU (tC (.int 6)) (tVar 1)) (tVar 4)))) (tCons (tOp rMulU (tC (.int 2)) (tOp rSubU (tOp rSubU (tOp rMulU (tOp rMulU (tC (.int 2)) (tVar 3)) (tVar 3)) (tOp rMulU (tOp rMulU (tC (.int 24)) (tVar 1)) (tVar 5))) (tOp rMulU (tOp rMulU (tC (.int 3)) (tVar 2)) (tVar 4)))) (tCons (tOp rMulU (tC (.int 4)) (tOp rSubU (tOp rMulU (tVar 3) (tVar 4)) (tOp rMulU (tOp rMulU (tC (.int 6)) (tVar 2)) (tVar 5)))) (tCons (tOp rSubU (tOp rMulU (tOp rMulU (tC (.int 3)) (tVar 4)) (tVar 4)) (tOp rMulU (tOp rMulU (tC (.int 8)) (tVar 3)) (tVar 5))) tNil))))))))
def hesL (d4 d3 d2 d1 d0 : Int) : List Int := [3 * d3 * d3 - 8 * d4 * d2, 4 * (d3 * d2 - 6 * d4 * d1), 2 * (2 * d2 * d2 - 24 * d4 * d0 - 3 * d3 * d1), 4 * (d2 * d1 - 6 * d3 * d0), 3 * d1 * d1 - 8 * d2 * d0]
def F_hessian (_ : Ad) : DSp := fun ds O κ _ => ∃ d4 d3 d2 d1 d0 : Int, ds = [.py (.list [.int d4, .int d3, .int d2, .int d1, .int d0])] ∧ (d4.natAbs < 10 ^ 3800 ∧ d3.natAbs < 10 ^ 3800 ∧ d2.natAbs < 10 ^ 3800 ∧ d1.natAbs < 10 ^ 3800 ∧ d0.natAbs < 10 ^ 3800) ∧
  κ (.py (inL (hesL d4 d3 d2 d1 d0))) O
theorem len_hessian (a : Ad) : ∀ ds O κ ε, F_hessian a ds O κ ε → ds.length = (["quartic_numbers"] : List Str).length := by
  rintro _ O κ ε ⟨d4, d3, d2, d1, d0, rfl, _⟩
  rfl
theorem ls_hessian {G : Gs} {a : Ad} : ∀ (B0 : Hp) ds O κ ε, F_hessian a ds O κ ε → LS G B0 (t_hessian G a) (startR N_hessian ds) O (fun _ O' => κ (.py .none) O') κ (fun _ _ => False) (fun _ _ => False) := by
  rintro B0 _ O κ ε ⟨d4, d3, d2, d1, d0, rfl, ⟨h4, h3, h2, h1, h0⟩, k⟩
  have i0 : BdI d0 3800 := ⟨h0⟩
  have i1 : BdI d1 3800 := ⟨h1⟩
  have i2 : BdI d2 3800 := ⟨h2⟩
  have i3 : BdI d3 3800 := ⟨h3⟩
  have i4 : BdI d4 3800 := ⟨h4⟩
  walk_at "s"
  unfold t_hessian
  walk_at "w"
  exact k

/-! ### numbers_at -/
abbrev N_numbers_at : List Str := ["quartic_numbers", "x", "top", "bottom", "mixed", "low", "covariant", "q4", "q3", "q2", "q1", "q0", "one", "other", "i", "_", "rest"]
def t_numbers_at (G : Gs) (a : Ad) : TS :=
  (tSeq (tAsg (tVar 1) (gTup G.K 2 (gCons (gName 2) (gCons (gName 3) gNil))))
    (tSeq (tAsg (tTup (tCons (tOp rMulU (tOp rMulU (tC (.int 4)) (tVar 2)) (tVar 3)) (tCons (tOp rMulU (tVar 3) (tVar 3)) tNil))) (gTup G.K 2 (gCons (gName 4) (gCons (gName 5) gNil))))
    (tSeq (tAsg (tCall (spD G (F_hessian a)) [] E0 (tCons (tVar 0) tNil)) (gName 6))
    (tSeq (tAsg (tLc (iZip G.K (tCons (tVar 0) (tCons (tVar 6) tNil))) (gTup G.K 2 (gCons (gName 12) (gCons (gName 13) gNil))) tYes (tOp rSubU (tOp rMulU (tVar 4) (tVar 12)) (tOp rMulU (tVar 5) (tVar 13))) [12, 13]) (gUnl G.K 5 (gCons (gName 7) (gCons (gName 8) (gCons (gName 9) (gCons (gName 10) (gCons (gName 11) gNil)))))))
    (tSeq (tAsg (tCall (spD G (F_invariants a)) [] E0 (tCons (tVar 0) tNil)) (gTup G.K 2 (gCons (gName 14) (gCons (gName 15) gNil))))
    (tSeq (tAsg (tOp rMulU (tC (.int 2)) (tOp rSubU (tOp rMulU (tVar 2) (tVar 2)) (tOp rMulU (tVar 14) (tVar 5)))) (gName 16))
    (tRet (tLst (tCons (tOp rMulU (tC (.int 6)) (tVar 7)) (tCons (tOp rMulU (tC (.int 3)) (tVar 8)) (tCons (tOp rSubU (tVar 9) (tVar 16)) (tCons (tOp rAddU (tOp rMulU (tC (.int 4)) (tVar 9)) (tOp rMulU (tC (.int 2)) (tVar 16))) (tCons (tOp rMulU (tC (.int 3)) (tVar 10)) (tCons (tOp rMulU (tC (.int 6)) (tVar 11)) tNil))))))))))))))
/-- the six numbers that a multiple tells -/
def stL (d4 d3 d2 d1 d0 : Int) (x : Pt) : List Int :=
  [6 * (4 * x.1 * x.2 * d4 - x.2 * x.2 * (3 * d3 * d3 - 8 * d4 * d2)), 3 * (4 * x.1 * x.2 * d3 - x.2 * x.2 * (4 * (d3 * d2 - 6 * d4 * d1))),
   4 * x.1 * x.2 * d2 - x.2 * x.2 * (2 * (2 * d2 * d2 - 24 * d4 * d0 - 3 * d3 * d1)) - 2 * (x.1 * x.1 - bendI d4 d3 d2 d1 d0 * (x.2 * x.2)),
   4 * (4 * x.1 * x.2 * d2 - x.2 * x.2 * (2 * (2 * d2 * d2 - 24 * d4 * d0 - 3 * d3 * d1))) + 2 * (2 * (x.1 * x.1 - bendI d4 d3 d2 d1 d0 * (x.2 * x.2))),
   3 * (4 * x.1 * x.2 * d1 - x.2 * x.2 * (4 * (d2 * d1 - 6 * d3 * d0))), 6 * (4 * x.1 * x.2 * d0 - x.2 * x.2 * (3 * d1 * d1 - 8 * d2 * d0))]
def F_numbers_at (_ : Ad) : DSp := fun ds O κ _ => ∃ (d4 d3 d2 d1 d0 : Int) (x : Pt), ds = [.py (.list [.int d4, .int d3, .int d2, .int d1, .int d0]), .py (ptD x)] ∧ (d4.natAbs < 10 ^ 3800 ∧ d3.natAbs < 10 ^ 3800 ∧ d2.natAbs < 10 ^ 3800 ∧ d1.natAbs < 10 ^ 3800 ∧ d0.natAbs < 10 ^ 3800) ∧ szQ x ∧
  κ (.py (inL (stL d4 d3 d2 d1 d0 x))) O
theorem len_numbers_at (a : Ad) : ∀ ds O κ ε, F_numbers_at a ds O κ ε → ds.length = (["quartic_numbers", "x"] : List Str).length := by
  rintro _ O κ ε ⟨d4, d3, d2, d1, d0, x, rfl, _⟩
  rfl
def cvD (m l : Int) : D → PyData
  | .py (.tuple [.int x, .int y]) => .int (m * x - l * y)
  | _ => .none
theorem ls_numbers_at {G : Gs} {a : Ad} : ∀ (B0 : Hp) ds O κ ε, F_numbers_at a ds O κ ε → LS G B0 (t_numbers_at G a) (startR N_numbers_at ds) O (fun _ O' => κ (.py .none) O') κ (fun _ _ => False) (fun _ _ => False) := by
  rintro B0 _ O κ ε ⟨d4, d3, d2, d1, d0, ⟨t, l⟩, rfl, ⟨h4, h3, h2, h1, h0⟩, ⟨ht, hl⟩, k⟩
  have i0 : BdI d0 3800 := ⟨h0⟩
  have i1 : BdI d1 3800 := ⟨h1⟩
  have i2 : BdI d2 3800 := ⟨h2⟩
  have i3 : BdI d3 3800 := ⟨h3⟩
  have i4 : BdI d4 3800 := ⟨h4⟩
  have jt : BdI t 20000 := ⟨ht⟩
  have jl : BdI l 20000 := ⟨hl⟩
  have jI : BdI (bendI d4 d3 d2 d1 d0) 7700 := ⟨by unfold bendI; exact bd_to 7700⟩
  simp only [ptD]
  walk_at "s"
  unfold t_numbers_at
  walk_at "a"
  refine ⟨d4, d3, d2, d1, d0, rfl, ⟨h4, h3, h2, h1, h0⟩, ?_⟩
  walk_at "c"
  refine ls_seq (ls_asg (le_map (cvD (4 * t * l) (l * l)) (fun _ => true) (gin_pair List.mem_cons_self (List.mem_cons_of_mem _ List.mem_cons_self)) (li_zip ?_)))
  walk_at "w"
  have hm : (4 * t * l).natAbs < Big := big_to (bd_le (show (4 * t * l).natAbs < 10 ^ 41000 from bd_to 41000) (by decide))
  have hll : (l * l).natAbs < Big := big_to (bd_le (show (l * l).natAbs < 10 ^ 41000 from bd_to 41000) (by decide))
  have hd : ∀ z ∈ [d4, d3, d2, d1, d0], z.natAbs < Big := fun z hz => by
    simp only [List.mem_cons, List.not_mem_nil, or_false] at hz
    rcases hz with rfl | rfl | rfl | rfl | rfl <;> exact bd_big
  have hh : ∀ z ∈ hesL d4 d3 d2 d1 d0, z.natAbs < Big := fun z hz => by
    simp only [hesL, List.mem_cons, List.not_mem_nil, or_false] at hz
    rcases hz with rfl | rfl | rfl | rfl | rfl <;> exact bd_big
  rw [show ([PyData.int d4, .int d3, .int d2, .int d1, .int d0] : List PyData) = [d4, d3, d2, d1, d0].map PyData.int from rfl, zip_ints]
  refine ⟨by rw [List.length_map, List.length_zip]; exact Nat.lt_of_le_of_lt (Nat.min_le_left _ _) (by show 5 < 100000; decide), ?_, ?_⟩
  · intro d hd2 r acc hr
    obtain ⟨q, hq, rfl⟩ := List.mem_map.mp hd2
    obtain ⟨q1, q2⟩ := List.of_mem_zip hq
    refine lg_tup rfl (lgs_cons (lg_name (lgs_cons (lg_name (lgs_nil ⟨rfl, lt_yes ⟨rfl, rfl, fun _ => ?_⟩⟩)))))
    walk_at "a"
    refine lr_mul (mulW hm (hd _ q1)) ?_
    walk_at "a"
    refine lr_mul (mulW hll (hh _ q2)) ?_
    walk_at "w"
    exact ⟨rfl, rfl⟩
  have c4 : BdI (4 * t * l * d4 - l * l * (3 * d3 * d3 - 8 * d4 * d2)) 50000 := ⟨bd_to 50000⟩
  have c3 : BdI (4 * t * l * d3 - l * l * (4 * (d3 * d2 - 6 * d4 * d1))) 50000 := ⟨bd_to 50000⟩
  have c2 : BdI (4 * t * l * d2 - l * l * (2 * (2 * d2 * d2 - 24 * d4 * d0 - 3 * d3 * d1))) 50000 := ⟨bd_to 50000⟩
  have c1 : BdI (4 * t * l * d1 - l * l * (4 * (d2 * d1 - 6 * d3 * d0))) 50000 := ⟨bd_to 50000⟩
  have c0 : BdI (4 * t * l * d0 - l * l * (3 * d1 * d1 - 8 * d2 * d0)) 50000 := ⟨bd_to 50000⟩
  have e : List.map (cvD (4 * t * l) (l * l)) (List.filter (fun _ => true) (List.map (fun p => D.py (PyData.tuple [PyData.int p.1, PyData.int p.2])) ([d4, d3, d2, d1, d0].zip (hesL d4 d3 d2 d1 d0)))) =
      [.int (4 * t * l * d4 - l * l * (3 * d3 * d3 - 8 * d4 * d2)), .int (4 * t * l * d3 - l * l * (4 * (d3 * d2 - 6 * d4 * d1))), .int (4 * t * l * d2 - l * l * (2 * (2 * d2 * d2 - 24 * d4 * d0 - 3 * d3 * d1))), .int (4 * t * l * d1 - l * l * (4 * (d2 * d1 - 6 * d3 * d0))), .int (4 * t * l * d0 - l * l * (3 * d1 * d1 - 8 * d2 * d0))] := rfl
  rw [e]
  clear e hh hm hll hd
  unfold stL at k
  simp only at k
  generalize 4 * t * l * d4 - l * l * (3 * d3 * d3 - 8 * d4 * d2) = k4 at *
  generalize 4 * t * l * d3 - l * l * (4 * (d3 * d2 - 6 * d4 * d1)) = k3 at *
  generalize 4 * t * l * d2 - l * l * (2 * (2 * d2 * d2 - 24 * d4 * d0 - 3 * d3 * d1)) = k2 at *
  generalize 4 * t * l * d1 - l * l * (4 * (d2 * d1 - 6 * d3 * d0)) = k1 at *
  generalize 4 * t * l * d0 - l * l * (3 * d1 * d1 - 8 * d2 * d0) = k0 at *
  refine lg_unl rfl ?_
  walk_at "c"
  refine ls_seq (ls_asg (le_call ?_))
  walk_at "a"
  refine ⟨d4, d3, d2, d1, d0, rfl, ⟨h4, h3, h2, h1, h0⟩, ?_⟩
  generalize bendI d4 d3 d2 d1 d0 = I at *
  generalize bendJ d4 d3 d2 d1 d0 = J at *
  walk_at "w"
  exact k

/-! ### Relation_numbers -/
abbrev N_Relation_numbers : List Str := ["self"]
def t_Relation_numbers (G : Gs) (a : Ad) : TS :=
  (tRet (tCB (rListO G.K) (tCons (tFld G.K (tVar 0) "_numbers") tNil)))
def F_Relation_numbers (_ : Ad) : DSp := fun ds O κ _ => ∃ ns : List Int, ds = [.rel ns] ∧ κ (.py (.list (ns.map PyData.int))) O
theorem len_Relation_numbers (a : Ad) : ∀ ds O κ ε, F_Relation_numbers a ds O κ ε → ds.length = (["self"] : List Str).length := by
  rintro _ O κ ε ⟨ns, rfl, _⟩
  rfl
theorem ls_Relation_numbers {G : Gs} {a : Ad} (c : Cls G.K G.C) (n : NoAttr G.K G.C "_numbers") : ∀ (B0 : Hp) ds O κ ε, F_Relation_numbers a ds O κ ε → LS G B0 (t_Relation_numbers G a) (startR N_Relation_numbers ds) O (fun _ O' => κ (.py .none) O') κ (fun _ _ => False) (fun _ _ => False) := by
  rintro B0 _ O κ ε ⟨ns, rfl, k⟩
  walk_at "s"
  unfold t_Relation_numbers
  walk_at "w"
  refine le_fld c n ?_
  walk_at "w"
  exact lc_listT k

/-! ### quartic -/
abbrev N_quartic : List Str := ["relation"]
def t_quartic (G : Gs) (a : Ad) : TS :=
  (tRet (tCall (spD G (F_quartic_of a)) [] E0 (tCons (tProp G.C (spD G (F_Relation_numbers a)) [] E0 (tVar 0)) tNil)))
def F_quartic (_ : Ad) : DSp := fun ds O κ _ => ∃ (c : Co), ds = [.rel c.list] ∧ c.sB 1850 ∧ κ (.py (quD c.a c.b c.c c.d c.e c.f)) O
theorem len_quartic (a : Ad) : ∀ ds O κ ε, F_quartic a ds O κ ε → ds.length = (["relation"] : List Str).length := by
  rintro _ O κ ε ⟨c, rfl, _⟩
  rfl
theorem ls_quartic {G : Gs} {a : Ad} : ∀ (B0 : Hp) ds O κ ε, F_quartic a ds O κ ε → LS G B0 (t_quartic G a) (startR N_quartic ds) O (fun _ O' => κ (.py .none) O') κ (fun _ _ => False) (fun _ _ => False) := by
  rintro B0 _ O κ ε ⟨c, rfl, hs, k⟩
  walk_at "s"
  unfold t_quartic
  walk_at "n"
  walk_at "n"
  walk_at "n"
  refine le_prop ?_
  walk_at "w"
  exact ⟨c.a, c.b, c.c, c.d, c.e, c.f, rfl, hs.le (by decide), k⟩

/-! ### step -/
abbrev N_step : List Str := ["numbers", "a", "b", "c", "d", "e", "f"]
def t_step (G : Gs) (a : Ad) : TS :=
  (tSeq (tAsg (tVar 0) (gUnl G.K 6 (gCons (gName 1) (gCons (gName 2) (gCons (gName 3) (gCons (gName 4) (gCons (gName 5) (gCons (gName 6) gNil))))))))
    (tRet (tOp rAddU (tOp rMulU (tOp rSubU (tVar 4) (tOp rMulU (tC (.int 2)) (tVar 3))) (tOp rSubU (tVar 4) (tOp rMulU (tC (.int 10)) (tVar 3)))) (tOp rMulU (tC (.int 4)) (tOp rSubU (tOp rMulU (tVar 2) (tVar 5)) (tOp rMulU (tVar 1) (tVar 6)))))))
def F_step (_ : Ad) : DSp := fun ds O κ _ => ∃ (c : Co), ds = [.py c.py] ∧ c.sB 300 ∧ κ (.py (.int c.X)) O
theorem len_step (a : Ad) : ∀ ds O κ ε, F_step a ds O κ ε → ds.length = (["numbers"] : List Str).length := by
  rintro _ O κ ε ⟨c, rfl, _⟩
  rfl
theorem ls_step {G : Gs} {a : Ad} : ∀ (B0 : Hp) ds O κ ε, F_step a ds O κ ε → LS G B0 (t_step G a) (startR N_step ds) O (fun _ O' => κ (.py .none) O') κ (fun _ _ => False) (fun _ _ => False) := by
  rintro B0 _ O κ ε ⟨⟨ca, cb, cc, cd, ce, cf⟩, rfl, ⟨g1, g2, g3, g4, g5, g6⟩, k⟩
  simp only at g1 g2 g3 g4 g5 g6
  have i1 : BdI ca 300 := ⟨g1⟩
  have i2 : BdI cb 300 := ⟨g2⟩
  have i3 : BdI cc 300 := ⟨g3⟩
  have i4 : BdI cd 300 := ⟨g4⟩
  have i5 : BdI ce 300 := ⟨g5⟩
  have i6 : BdI cf 300 := ⟨g6⟩
  simp only [Co.py]
  walk_at "s"
  unfold t_step
  walk_at "w"
  exact k

/-! ### is_whole -/
abbrev N_is_whole : List Str := ["value"]
def t_is_whole (G : Gs) (a : Ad) : TS :=
  (tRet (tAndV (tCB (rIsi G.K) (tCons (tVar 0) (tCons (tC (.ty "int")) tNil))) (tNotV (tCB (rIsi G.K) (tCons (tVar 0) (tCons (tC (.ty "bool")) tNil))))))
def F_is_whole (a : Ad) : DSp := fun ds O κ _ => ∃ d : PyData, ds = [.py d] ∧ κ (.py (.bool (pyInt d))) O
theorem len_is_whole (a : Ad) : ∀ ds O κ ε, F_is_whole a ds O κ ε → ds.length = (["value"] : List Str).length := by
  rintro _ O κ ε ⟨d, rfl, _⟩
  rfl
theorem ls_is_whole {G : Gs} {a : Ad} : ∀ (B0 : Hp) ds O κ ε, F_is_whole a ds O κ ε → LS G B0 (t_is_whole G a) (startR N_is_whole ds) O (fun _ O' => κ (.py .none) O') κ (fun _ _ => False) (fun _ _ => False) := by
  rintro B0 _ O κ ε ⟨d, rfl, k⟩
  unfold t_is_whole
  walk_at "l"
  refine lc_isi (kit_int d) ?_
  walk_at "l"
  refine if_b (fun h => ?_) (fun h => ?_)
  · walk_at "l"
    refine lc_isi (kit_bool d) ?_
    walk_at "l"
    cases d <;> first | exact k | cases h
  · cases d <;> first | exact k | cases h

/-! ### is_point -/
abbrev N_is_point : List Str := ["value", "top", "bottom"]
def t_is_point (G : Gs) (a : Ad) : TS :=
  (tSeq (tIfS (tOr (tNot (tTr G.K (tCB (rIsi G.K) (tCons (tVar 0) (tCons (tC (.ty "tuple")) tNil))))) (tTest (tOp (rNeU G.K) (tCB (rLen G.K) (tCons (tVar 0) tNil)) (tC (.int 2))))) (tRet (tC (.bl false))) tNext)
    (tSeq (tAsg (tVar 0) (gTup G.K 2 (gCons (gName 1) (gCons (gName 2) gNil))))
    (tSeq (tIfS (tOr (tNot (tTr G.K (tCall (spD G (F_is_whole a)) [] E0 (tCons (tVar 1) tNil)))) (tNot (tTr G.K (tCall (spD G (F_is_whole a)) [] E0 (tCons (tVar 2) tNil))))) (tRet (tC (.bl false))) tNext)
    (tSeq (tIfS (tTest (tOp (rEqU G.K) (tVar 2) (tC (.int 0)))) (tRet (tOp (rEqU G.K) (tVar 1) (tC (.int 1)))) tNext)
    (tRet (tAndV (tOp rGt (tVar 2) (tC (.int 0))) (tOp (rEqU G.K) (tCB rGcd (tCons (tVar 1) (tCons (tVar 2) tNil))) (tC (.int 1)))))))))
def F_is_point (a : Ad) : DSp := fun ds O κ _ => ∃ d : PyData, ds = [.py d] ∧ κ (.py (.bool (isPt d))) O
theorem len_is_point (a : Ad) : ∀ ds O κ ε, F_is_point a ds O κ ε → ds.length = (["value"] : List Str).length := by
  rintro _ O κ ε ⟨d, rfl, _⟩
  rfl
theorem ls_is_point {G : Gs} {a : Ad} : ∀ (B0 : Hp) ds O κ ε, F_is_point a ds O κ ε → LS G B0 (t_is_point G a) (startR N_is_point ds) O (fun _ O' => κ (.py .none) O') κ (fun _ _ => False) (fun _ _ => False) := by
  rintro B0 _ O κ ε ⟨d, rfl, k⟩
  unfold t_is_point
  walk_at "l"
  refine lc_isi (kit_tuple d) ?_
  cases d with
  | none => walk_at "l"; refine ifNT ?_; walk_at "l"; exact k
  | bool b => walk_at "l"; refine ifNT ?_; walk_at "l"; exact k
  | int b => walk_at "l"; refine ifNT ?_; walk_at "l"; exact k
  | str b => walk_at "l"; refine ifNT ?_; walk_at "l"; exact k
  | list b => walk_at "l"; refine ifNT ?_; walk_at "l"; exact k
  | dict b => walk_at "l"; refine ifNT ?_; walk_at "l"; exact k
  | tuple ds =>
    walk_at "l"
    refine ifNF ?_
    walk_at "l"
    refine if_ndec (fun h => ?_) (fun h => ?_)
    · walk_at "l"
      rw [isPt_not h] at k
      exact k
    · obtain ⟨x, y, rfl⟩ := two_of h
      walk_at "l"
      refine if_b (fun hx => ?_) (fun hx => ?_)
      · walk_at "l"
        rw [isPt_x (by simpa using hx)] at k
        exact k
      · walk_at "l"
        refine if_b (fun hy => ?_) (fun hy => ?_)
        · walk_at "l"
          rw [isPt_y (by simpa using hy)] at k
          exact k
        · obtain ⟨i, rfl⟩ := int_of (d := x) (by simpa using hx)
          obtain ⟨j, rfl⟩ := int_of (d := y) (by simpa using hy)
          rw [isPt_pair] at k
          walk_at "l"
          refine if_dec (fun h0 => ?_) (fun h0 => ?_)
          · walk_at "l"
            rw [if_pos h0] at k
            exact k
          · rw [if_neg h0] at k
            walk_at "l"
            refine if_dec (fun h1 => ?_) (fun h1 => ?_)
            · walk_at "l"
              rw [decide_eq_true h1, Bool.true_and] at k
              exact k
            · rw [decide_eq_false h1, Bool.false_and] at k
              exact k

/-! ### check_point -/
abbrev N_check_point : List Str := ["point"]
def t_check_point (G : Gs) (a : Ad) (E : XK) : TS :=
  (tIfS (tNot (tTr G.K (tCall (spD G (F_is_point a)) [] E0 (tCons (tVar 0) tNil)))) (tRaise1 G.K a.c_InvalidPoint (fun cls d _ H => E cls d H) (tCons (tVar 0) tNil)) tNext)
def F_check_point (a : Ad) : DSp := fun ds O κ ε => ∃ d : PyData, ds = [.py d] ∧ (isPt d = false → ε a.c_InvalidPoint d O) ∧ (isPt d = true → κ (.py .none) O)
theorem len_check_point (a : Ad) : ∀ ds O κ ε, F_check_point a ds O κ ε → ds.length = (["point"] : List Str).length := by
  rintro _ O κ ε ⟨d, rfl, _⟩
  rfl
theorem ls_check_point {G : Gs} {a : Ad} (hE : ErrC G.K a.c_InvalidPoint) : ∀ (B0 : Hp) (E : XK) ds O κ ε, F_check_point a ds O κ ε → WOk G B0 (fun cls d _ H => E cls d H) (fun C x _ O => ε C x O) →
    LS G B0 (t_check_point G a E) (startR N_check_point ds) O (fun _ O' => κ (.py .none) O') κ (fun _ _ => False) (fun _ _ => False) := by
  rintro B0 E _ O κ ε ⟨d, rfl, k0, k1⟩ hW
  walk_at "s"
  unfold t_check_point
  walk_at "w"
  cases h : isPt d with
  | true =>
    rw [h] at k1
    walk_at "w"
    exact k1 rfl
  | false =>
    refine ifT ?_
    refine ls_raise hW hE.oex hE.no ?_
    walk_at "w"
    exact k0 h

/-! ### partner_equation -/
abbrev N_partner_equation : List Str := ["numbers", "point", "a", "b", "c", "d", "e", "f", "top", "bottom", "high", "mixed", "low"]
def t_partner_equation (G : Gs) (a : Ad) : TS :=
  (tSeq (tAsg (tVar 0) (gUnl G.K 6 (gCons (gName 2) (gCons (gName 3) (gCons (gName 4) (gCons (gName 5) (gCons (gName 6) (gCons (gName 7) gNil))))))))
    (tSeq (tAsg (tVar 1) (gTup G.K 2 (gCons (gName 8) (gCons (gName 9) gNil))))
    (tSeq (tPar3 10 11 12 (tCons (tOp rMulU (tVar 8) (tVar 8)) (tCons (tOp rMulU (tVar 8) (tVar 9)) (tCons (tOp rMulU (tVar 9) (tVar 9)) tNil))))
    (tRet (tLst (tCons (tOp rAddU (tOp rAddU (tOp rMulU (tVar 2) (tVar 10)) (tOp rMulU (tVar 3) (tVar 11))) (tOp rMulU (tVar 4) (tVar 12))) (tCons (tOp rAddU (tOp rAddU (tOp rMulU (tVar 3) (tVar 10)) (tOp rMulU (tVar 5) (tVar 11))) (tOp rMulU (tVar 6) (tVar 12))) (tCons (tOp rAddU (tOp rAddU (tOp rMulU (tVar 4) (tVar 10)) (tOp rMulU (tVar 6) (tVar 11))) (tOp rMulU (tVar 7) (tVar 12))) tNil))))))))
def F_partner_equation (_ : Ad) : DSp := fun ds O κ _ => ∃ (c : Co) (y : Pt), ds = [.py c.py, .py (ptD y)] ∧ c.sB 1850 ∧ (y.1.natAbs < 10 ^ 20000 ∧ y.2.natAbs < 10 ^ 20000) ∧ κ (.py (.list [.int (c.A y), .int (c.B y), .int (c.C y)])) O
theorem len_partner_equation (a : Ad) : ∀ ds O κ ε, F_partner_equation a ds O κ ε → ds.length = (["numbers", "point"] : List Str).length := by
  rintro _ O κ ε ⟨c, y, rfl, _⟩
  rfl
theorem ls_partner_equation {G : Gs} {a : Ad} : ∀ (B0 : Hp) ds O κ ε, F_partner_equation a ds O κ ε → LS G B0 (t_partner_equation G a) (startR N_partner_equation ds) O (fun _ O' => κ (.py .none) O') κ (fun _ _ => False) (fun _ _ => False) := by
  rintro B0 _ O κ ε ⟨c, y, rfl, hs, ⟨h1, h2⟩, k⟩
  obtain ⟨g1, g2, g3, g4, g5, g6⟩ := hs
  obtain ⟨ca, cb, cc, cd, ce, cf⟩ := c
  obtain ⟨p, q⟩ := y
  simp only at g1 g2 g3 g4 g5 g6 h1 h2
  have i1 : BdI ca 1850 := ⟨g1⟩
  have i2 : BdI cb 1850 := ⟨g2⟩
  have i3 : BdI cc 1850 := ⟨g3⟩
  have i4 : BdI cd 1850 := ⟨g4⟩
  have i5 : BdI ce 1850 := ⟨g5⟩
  have i6 : BdI cf 1850 := ⟨g6⟩
  have ip : BdI p 20000 := ⟨h1⟩
  have iq : BdI q 20000 := ⟨h2⟩
  simp only [Co.py, ptD]
  walk_at "s"
  unfold t_partner_equation
  walk_at "w"
  exact k

/-! ### holds -/
abbrev N_holds : List Str := ["relation", "first", "second", "a", "b", "c", "top", "bottom"]
def t_holds (G : Gs) (a : Ad) (E : XK) : TS :=
  (tSeq (tDrop (tCallS (spD G (F_check_point a)) (WE (fun cls d _ H => E cls d H)) (tCons (tVar 1) tNil)))
    (tSeq (tDrop (tCallS (spD G (F_check_point a)) (WE (fun cls d _ H => E cls d H)) (tCons (tVar 2) tNil)))
    (tSeq (tAsg (tCall (spD G (F_partner_equation a)) [] E0 (tCons (tProp G.C (spD G (F_Relation_numbers a)) [] E0 (tVar 0)) (tCons (tVar 1) tNil))) (gUnl G.K 3 (gCons (gName 3) (gCons (gName 4) (gCons (gName 5) gNil)))))
    (tSeq (tAsg (tVar 2) (gTup G.K 2 (gCons (gName 6) (gCons (gName 7) gNil))))
    (tRet (tOp (rEqU G.K) (tOp rAddU (tOp rAddU (tOp rMulU (tOp rMulU (tVar 3) (tVar 6)) (tVar 6)) (tOp rMulU (tOp rMulU (tVar 4) (tVar 6)) (tVar 7))) (tOp rMulU (tOp rMulU (tVar 5) (tVar 7)) (tVar 7))) (tC (.int 0))))))))
def F_holds (a : Ad) : DSp := fun ds O κ ε => ∃ (c : Co) (d1 d2 : PyData), ds = [.rel c.list, .py d1, .py d2] ∧ c.sB 1850 ∧ (isPt d1 = false → ε a.c_InvalidPoint d1 O) ∧ (isPt d1 = true → isPt d2 = false → ε a.c_InvalidPoint d2 O) ∧
  ∀ x y, d1 = ptD x → d2 = ptD y → IsPt x → IsPt y → szQ x ∧ szQ y ∧ κ (.py (.bool (decide (c.at_ x y = 0)))) O
theorem len_holds (a : Ad) : ∀ ds O κ ε, F_holds a ds O κ ε → ds.length = (["relation", "first", "second"] : List Str).length := by
  rintro _ O κ ε ⟨c, d1, d2, rfl, _⟩
  rfl
theorem ls_holds {G : Gs} {a : Ad} : ∀ (B0 : Hp) (E : XK) ds O κ ε, F_holds a ds O κ ε → WOk G B0 (fun cls d _ H => E cls d H) (fun C x _ O => ε C x O) →
    LS G B0 (t_holds G a E) (startR N_holds ds) O (fun _ O' => κ (.py .none) O') κ (fun _ _ => False) (fun _ _ => False) := by
  rintro B0 E _ O κ ε ⟨c, d1, d2, rfl, hs, k1, k2, k⟩ hW
  walk_at "s"
  unfold t_holds
  walk_at "n"
  walk_at "n"
  refine le_callS hW ?_
  walk_at "w"
  refine ⟨k1, fun p1 => ?_⟩
  walk_at "n"
  walk_at "n"
  refine le_callS hW ?_
  walk_at "w"
  refine ⟨k2 p1, fun p2 => ?_⟩
  obtain ⟨x, rfl, px⟩ := isPt_of p1
  obtain ⟨y, rfl, py⟩ := isPt_of p2
  obtain ⟨sx, sy, kk⟩ := k x y rfl rfl px py
  walk_at "n"
  walk_at "n"
  walk_at "n"
  walk_at "n"
  refine le_prop ?_
  walk_at "w"
  refine ⟨hs.le (by decide), sx, ?_⟩
  rw [show c.at_ x y = c.A x * y.1 * y.1 + c.B x * y.1 * y.2 + c.C x * y.2 * y.2 by rw [at_comm, at_form]; grind] at kk
  obtain ⟨g1, g2, g3, g4, g5, g6⟩ := hs
  have iA : BdI (c.A x) 41852 := ⟨fV_bd ⟨g1⟩ ⟨g2⟩ ⟨g3⟩ ⟨sx.1⟩ ⟨sx.2⟩ trivial⟩
  have iB : BdI (c.B x) 41852 := ⟨fV_bd ⟨g2⟩ ⟨g4⟩ ⟨g5⟩ ⟨sx.1⟩ ⟨sx.2⟩ trivial⟩
  have iC : BdI (c.C x) 41852 := ⟨fV_bd ⟨g3⟩ ⟨g5⟩ ⟨g6⟩ ⟨sx.1⟩ ⟨sx.2⟩ trivial⟩
  generalize c.A x = A at *
  generalize c.B x = B at *
  generalize c.C x = C at *
  obtain ⟨p, q⟩ := y
  have ip : BdI p 20000 := ⟨sy.1⟩
  have iq : BdI q 20000 := ⟨sy.2⟩
  simp only [ptD] at kk ⊢
  walk_at "w"
  exact kk
/-! ### check_pair -/
abbrev N_check_pair : List Str := ["relation", "first", "second"]
def t_check_pair (G : Gs) (a : Ad) (E : XK) : TS :=
  (tIfS (tNot (tTr G.K (tCallS (spD G (F_holds a)) (WE (fun cls d _ H => E cls d H)) (tCons (tVar 0) (tCons (tVar 1) (tCons (tVar 2) tNil)))))) (tRaise1 G.K a.c_NotPair (fun cls d _ H => E cls d H) (tCons (tTup (tCons (tVar 1) (tCons (tVar 2) tNil))) tNil)) tNext)
def F_check_pair (a : Ad) : DSp := fun ds O κ ε => ∃ (c : Co) (d1 d2 : PyData), ds = [.rel c.list, .py d1, .py d2] ∧ c.sB 300 ∧ (isPt d1 = false → ε a.c_InvalidPoint d1 O) ∧ (isPt d1 = true → isPt d2 = false → ε a.c_InvalidPoint d2 O) ∧
  ∀ x y, d1 = ptD x → d2 = ptD y → IsPt x → IsPt y → szQ x ∧ szQ y ∧ (c.at_ x y ≠ 0 → ε a.c_NotPair (.tuple [d1, d2]) O) ∧ (c.at_ x y = 0 → κ (.py .none) O)
theorem len_check_pair (a : Ad) : ∀ ds O κ ε, F_check_pair a ds O κ ε → ds.length = (["relation", "first", "second"] : List Str).length := by
  rintro _ O κ ε ⟨c, d1, d2, rfl, _⟩
  rfl
theorem ls_check_pair {G : Gs} {a : Ad} (hE : ErrC G.K a.c_NotPair) : ∀ (B0 : Hp) (E : XK) ds O κ ε, F_check_pair a ds O κ ε → WOk G B0 (fun cls d _ H => E cls d H) (fun C x _ O => ε C x O) →
    LS G B0 (t_check_pair G a E) (startR N_check_pair ds) O (fun _ O' => κ (.py .none) O') κ (fun _ _ => False) (fun _ _ => False) := by
  rintro B0 E _ O κ ε ⟨c, d1, d2, rfl, hs, k1, k2, k⟩ hW
  walk_at "s"
  unfold t_check_pair
  walk_at "n"
  walk_at "n"
  walk_at "n"
  refine le_callS hW ?_
  walk_at "w"
  refine ⟨hs.le (by decide), k1, k2, fun x y e1 e2 px py => ?_⟩
  obtain ⟨sx, sy, kn, kk⟩ := k x y e1 e2 px py
  refine ⟨sx, sy, ?_⟩
  walk_at "w"
  refine if_ndec (fun h => ?_) (fun h => ?_)
  · refine ls_raise hW hE.oex hE.no ?_
    walk_at "w"
    exact kn h
  · walk_at "w"
    exact kk h

/-! ### other_root -/
abbrev N_other_root : List Str := ["numbers", "point", "known", "a", "b", "c", "top", "bottom"]
def t_other_root (G : Gs) (a : Ad) : TS :=
  (tSeq (tAsg (tCall (spD G (F_partner_equation a)) [] E0 (tCons (tVar 0) (tCons (tVar 1) tNil))) (gUnl G.K 3 (gCons (gName 3) (gCons (gName 4) (gCons (gName 5) gNil)))))
    (tSeq (tAsg (tVar 2) (gTup G.K 2 (gCons (gName 6) (gCons (gName 7) gNil))))
    (tSeq (tIfS (tTest (tOp (rEqU G.K) (tVar 7) (tC (.int 0)))) (tRet (tTup (tCons (tUn rNeg (tVar 5)) (tCons (tVar 4) tNil)))) tNext)
    (tRet (tTup (tCons (tOp rSubU (tOp rMulU (tUn rNeg (tVar 4)) (tVar 7)) (tOp rMulU (tVar 3) (tVar 6))) (tCons (tOp rMulU (tVar 3) (tVar 7)) tNil)))))))
/-- top and bottom of the other root -/
def rtP (A B C : Int) (x : Pt) : Int × Int := if x.2 = 0 then (-C, B) else (-B * x.2 - A * x.1, A * x.2)
theorem othP_rt (A B C : Int) (x : Pt) : othP A B C x = lowP (rtP A B C x).1 (rtP A B C x).2 := by
  unfold othP rtP
  split <;> rfl
def F_other_root (_ : Ad) : DSp := fun ds O κ _ => ∃ (c : Co) (x y : Pt), ds = [.py c.py, .py (ptD y), .py (ptD x)] ∧ c.sB 300 ∧ szQ x ∧ szQ y ∧ κ (.py (.tuple [.int (rtP (c.A y) (c.B y) (c.C y) x).1, .int (rtP (c.A y) (c.B y) (c.C y) x).2])) O
theorem len_other_root (a : Ad) : ∀ ds O κ ε, F_other_root a ds O κ ε → ds.length = (["numbers", "point", "known"] : List Str).length := by
  rintro _ O κ ε ⟨c, x, y, rfl, _⟩
  rfl
theorem ls_other_root {G : Gs} {a : Ad} : ∀ (B0 : Hp) ds O κ ε, F_other_root a ds O κ ε → LS G B0 (t_other_root G a) (startR N_other_root ds) O (fun _ O' => κ (.py .none) O') κ (fun _ _ => False) (fun _ _ => False) := by
  rintro B0 _ O κ ε ⟨c, x, y, rfl, hs, sx, sy, k⟩
  walk_at "s"
  unfold t_other_root
  walk_at "w"
  refine ⟨hs.le (by decide), sy, ?_⟩
  obtain ⟨g1, g2, g3, g4, g5, g6⟩ := hs
  have iA : BdI (c.A y) 40302 := ⟨fV_bd ⟨g1⟩ ⟨g2⟩ ⟨g3⟩ ⟨sy.1⟩ ⟨sy.2⟩ trivial⟩
  have iB : BdI (c.B y) 40302 := ⟨fV_bd ⟨g2⟩ ⟨g4⟩ ⟨g5⟩ ⟨sy.1⟩ ⟨sy.2⟩ trivial⟩
  have iC : BdI (c.C y) 40302 := ⟨fV_bd ⟨g3⟩ ⟨g5⟩ ⟨g6⟩ ⟨sy.1⟩ ⟨sy.2⟩ trivial⟩
  generalize c.A y = A at *
  generalize c.B y = B at *
  generalize c.C y = C at *
  obtain ⟨p, q⟩ := x
  have ip : BdI p 20000 := ⟨sx.1⟩
  have iq : BdI q 20000 := ⟨sx.2⟩
  unfold rtP at k
  simp only [ptD] at k ⊢
  walk_at "w"
  refine if_dec (fun h => ?_) (fun h => ?_)
  · rw [if_pos h] at k
    walk_at "w"
    exact k
  · rw [if_neg h] at k
    walk_at "w"
    exact k

/-! ### lowest -/
abbrev N_lowest : List Str := ["top", "bottom", "divisor"]
def t_lowest (G : Gs) (a : Ad) (E : XK) : TS :=
  (tSeq (tIfS (tAnd (tTest (tOp (rEqU G.K) (tVar 0) (tC (.int 0)))) (tTest (tOp (rEqU G.K) (tVar 1) (tC (.int 0))))) (tRaise1 G.K a.c_InvalidNumber (fun cls d _ H => E cls d H) (tCons (tC (.int 0)) tNil)) tNext)
    (tSeq (tIfS (tTest (tOp (rEqU G.K) (tVar 1) (tC (.int 0)))) (tRet (tC (.ref a.c_ENDLESS))) tNext)
    (tSeq (tAsg (tCB rGcd (tCons (tVar 0) (tCons (tVar 1) tNil))) (gName 2))
    (tSeq (tIfS (tTest (tOp rLt (tVar 1) (tC (.int 0)))) (tAsg (tUn rNeg (tVar 2)) (gName 2)) tNext)
    (tRet (tTup (tCons (tOp rFdivP (tVar 0) (tVar 2)) (tCons (tOp rFdivP (tVar 1) (tVar 2)) tNil))))))))
def F_lowest (a : Ad) : DSp := fun ds O κ ε => ∃ x y : Int, ds = [.py (.int x), .py (.int y)] ∧ (x = 0 ∧ y = 0 → ε a.c_InvalidNumber (.int 0) O) ∧ (¬ (x = 0 ∧ y = 0) → κ (.py (lowD x y)) O)
theorem len_lowest (a : Ad) : ∀ ds O κ ε, F_lowest a ds O κ ε → ds.length = (["top", "bottom"] : List Str).length := by
  rintro _ O κ ε ⟨x, y, rfl, _⟩
  rfl
theorem low_tail {G : Gs} {a : Ad} {B0 : Hp} {ρ : Ro} {O : Ow} {N Bk Ct : Ro → Ow → Prop} {R : D → Ow → Prop} {x y : Int} (hV : ∀ B, Dd G.K B (.ref a.c_ENDLESS) (.tuple [.int 1, .int 0])) (hρ : ρ = startR N_lowest [.py (.int x), .py (.int y)]) (k : R (.py (lowD x y)) O) :
    LS G B0 (tSeq (tIfS (tTest (tOp (rEqU G.K) (tVar 1) (tC (.int 0)))) (tRet (tC (.ref a.c_ENDLESS))) tNext)
    (tSeq (tAsg (tCB rGcd (tCons (tVar 0) (tCons (tVar 1) tNil))) (gName 2))
    (tSeq (tIfS (tTest (tOp rLt (tVar 1) (tC (.int 0)))) (tAsg (tUn rNeg (tVar 2)) (gName 2)) tNext)
    (tRet (tTup (tCons (tOp rFdivP (tVar 0) (tVar 2)) (tCons (tOp rFdivP (tVar 1) (tVar 2)) tNil))))))) ρ O N R Bk Ct := by
  subst hρ
  walk_at "l"
  refine if_dec (fun h => ?_) (fun h => ?_)
  · refine ls_ret (le_con (d := .py (.tuple [.int 1, .int 0])) hV ?_)
    unfold lowD lowA lowB at k
    rw [if_pos h, if_pos h] at k
    exact k
  · have gp := gcd_pos_r (x := x) h
    unfold lowD lowA lowB lowG at k
    rw [if_neg h, if_neg h] at k
    walk_at "l"
    refine if_dec (fun h' => ?_) (fun h' => ?_)
    · walk_at "l"
      refine lr_fdivP (by omega) ?_
      walk_at "l"
      refine lr_fdivP (by omega) ?_
      walk_at "l"
      rw [if_neg (by omega)] at k
      exact k
    · walk_at "l"
      refine lr_fdivP (by omega) ?_
      walk_at "l"
      refine lr_fdivP (by omega) ?_
      walk_at "l"
      rw [if_pos (by omega)] at k
      exact k
theorem ls_lowest {G : Gs} {a : Ad} (hE : ErrC G.K a.c_InvalidNumber) (hV : ∀ B, Dd G.K B (.ref a.c_ENDLESS) (.tuple [.int 1, .int 0])) : ∀ (B0 : Hp) (E : XK) ds O κ ε, F_lowest a ds O κ ε → WOk G B0 (fun cls d _ H => E cls d H) (fun C x _ O => ε C x O) →
    LS G B0 (t_lowest G a E) (startR N_lowest ds) O (fun _ O' => κ (.py .none) O') κ (fun _ _ => False) (fun _ _ => False) := by
  rintro B0 E _ O κ ε ⟨x, y, rfl, k0, k⟩ hW
  unfold t_lowest
  walk_at "l"
  refine if_dec (fun h0 => ?_) (fun h0 => ?_)
  · walk_at "l"
    refine if_dec (fun h1 => ?_) (fun h1 => ?_)
    · refine ls_raise hW hE.oex hE.no ?_
      walk_at "l"
      exact k0 ⟨h0, h1⟩
    · refine ls_next ?_
      exact low_tail hV rfl (k fun z => h1 z.2)
  · walk_at "le"
    walk_at "le"
    exact low_tail hV rfl (k fun z => h0 z.1)

/-! ### other_partner -/
abbrev N_other_partner : List Str := ["numbers", "point", "known", "top", "bottom"]
def t_other_partner (G : Gs) (a : Ad) (E : XK) : TS :=
  (tSeq (tAsg (tCall (spD G (F_other_root a)) [] E0 (tCons (tVar 0) (tCons (tVar 1) (tCons (tVar 2) tNil)))) (gTup G.K 2 (gCons (gName 3) (gCons (gName 4) gNil))))
    (tRet (tCallS (spD G (F_lowest a)) (WE (fun cls d _ H => E cls d H)) (tCons (tVar 3) (tCons (tVar 4) tNil)))))
def F_other_partner (_ : Ad) : DSp := fun ds O κ _ => ∃ (c : Co) (x y : Pt), ds = [.py c.py, .py (ptD y), .py (ptD x)] ∧ Hold c x y ∧ c.sB 300 ∧ szQ x ∧ szQ y ∧ κ (.py (ptD (c.nx x y))) O
theorem len_other_partner (a : Ad) : ∀ ds O κ ε, F_other_partner a ds O κ ε → ds.length = (["numbers", "point", "known"] : List Str).length := by
  rintro _ O κ ε ⟨c, x, y, rfl, _⟩
  rfl
theorem rtP_ne {c : Co} {x y : Pt} (hh : Hold c x y) : ¬ ((rtP (c.A y) (c.B y) (c.C y) x).1 = 0 ∧ (rtP (c.A y) (c.B y) (c.C y) x).2 = 0) := by
  obtain ⟨aa, gg, oo, e1, e2, nn⟩ := hh.oth
  have ho1 := oo.hA
  have ho2 := oo.hC
  have ho3 := oo.hB
  have hpt := hh.px
  generalize c.A y = A at *
  generalize c.B y = B at *
  generalize c.C y = C at *
  obtain ⟨p, q⟩ := x
  simp only at ho1 ho2 ho3
  have d : ¬ (aa = 0 ∧ gg = 0) := fun z => nn ⟨z.2, z.1⟩
  unfold rtP
  by_cases h : q = 0
  · rw [if_pos h]
    rintro ⟨z1, z2⟩
    simp only at z1 z2
    have hp1 := hpt.s h
    simp only at hp1
    rw [h, hp1] at ho3
    rw [hp1] at ho2
    exact d ⟨by omega, by omega⟩
  · rw [if_neg h]
    rintro ⟨z1, z2⟩
    simp only at z1 z2
    have hA0 : A = 0 := (Int.mul_eq_zero.mp z2).resolve_right h
    have ha0 : aa = 0 := (Int.mul_eq_zero.mp (ho1.symm.trans hA0)).resolve_left h
    rw [hA0, Int.zero_mul, Int.sub_zero] at z1
    have hB0 : B = 0 := by
      have := (Int.mul_eq_zero.mp z1).resolve_right h
      omega
    rw [ha0, Int.mul_zero, Int.add_zero] at ho3
    have hg0 : gg = 0 := (Int.mul_eq_zero.mp (show q * gg = 0 by omega)).resolve_left h
    exact d ⟨ha0, hg0⟩
theorem ls_other_partner {G : Gs} {a : Ad} : ∀ (B0 : Hp) (E : XK) ds O κ ε, F_other_partner a ds O κ ε → WOk G B0 (fun cls d _ H => E cls d H) (fun C x _ O => ε C x O) →
    LS G B0 (t_other_partner G a E) (startR N_other_partner ds) O (fun _ O' => κ (.py .none) O') κ (fun _ _ => False) (fun _ _ => False) := by
  rintro B0 E _ O κ ε ⟨c, x, y, rfl, hh, hs, sx, sy, k⟩ hW
  walk_at "s"
  unfold t_other_partner
  walk_at "w"
  refine ⟨hs, sx, sy, ?_⟩
  have hne := rtP_ne hh
  have hsame := hh.same
  rw [← hsame, othP_rt] at k
  generalize (rtP (c.A y) (c.B y) (c.C y) x).1 = u at *
  generalize (rtP (c.A y) (c.B y) (c.C y) x).2 = v at *
  walk_at "w"
  refine ⟨fun z => absurd z hne, fun _ => k⟩

/-! ### members -/
abbrev N_members : List Str := ["numbers", "first", "second", "length", "found"]
def t_members (G : Gs) (a : Ad) (E : XK) : TS :=
  (tSeq (tAsg (tLst (tCons (tVar 1) (tCons (tVar 2) tNil))) (gName 4))
    (tSeq (tWhile (tTest (tOp rLt (tCB (rLen G.K) (tCons (tVar 4) tNil)) (tVar 3))) (tDrop (tBM G.K "list" rAppend (tVar 4) (tCons (tCallS (spD G (F_other_partner a)) (WE (fun cls d _ H => E cls d H)) (tCons (tVar 0) (tCons (tOp (rIx G.K) (tVar 4) (tUn rNeg (tC (.int 1)))) (tCons (tOp (rIx G.K) (tVar 4) (tUn rNeg (tC (.int 2)))) tNil)))) tNil))))
    (tRet (tSl (rSlL G.K) (tVar 4) tNoPart (tPart (tVar 3))))))
def F_members (_ : Ad) : DSp := fun ds O κ _ => ∃ (c : Co) (x y : Pt) (cnt : Nat), ds = [.py c.py, .py (ptD x), .py (ptD y), .py (.int (cnt : Int))] ∧ LimP c x y cnt ∧ cnt ≤ 100 ∧ (κ (.py (.list (memL c x y cnt))) O ∨ ∀ p, O p = none → κ (.own p) (oset O p (memL c x y cnt)))
theorem len_members (a : Ad) : ∀ ds O κ ε, F_members a ds O κ ε → ds.length = (["numbers", "first", "second", "length"] : List Str).length := by
  rintro _ O κ ε ⟨c, x, y, _, rfl, _⟩
  rfl
theorem ls_members {G : Gs} {a : Ad} : ∀ (B0 : Hp) (E : XK) ds O κ ε, F_members a ds O κ ε → WOk G B0 (fun cls d _ H => E cls d H) (fun C x _ O => ε C x O) →
    LS G B0 (t_members G a E) (startR N_members ds) O (fun _ O' => κ (.py .none) O') κ (fun _ _ => False) (fun _ _ => False) := by
  rintro B0 E _ O κ ε ⟨c, x, y, cnt, rfl, s, g100, kk⟩ hW
  have h6 := s.six
  walk_at "s"
  unfold t_members
  walk_at "n"
  walk_at "n"
  refine le_lstO ?_
  walk_at "w"
  intro p hp
  walk_at "n"
  walk_at "n"
  refine ls_while (fun m ρ' O' => ∃ j : Nat, m + (j + 2) = max cnt 2 ∧ ρ' = [some (.py c.py), some (.py (ptD x)), some (.py (ptD y)), some (.py (.int (cnt : Int))), some (.own p)] ∧ O' = oset O p (memL c x y (j + 2))) (cnt - 2) ⟨0, by omega, rfl, rfl⟩ ?_
  rintro m ρ' O' ⟨j, hm, rfl, rfl⟩
  walk_at "w"
  rw [memL_len]
  refine if_dec (fun hj => ?_) (fun hj => ?_)
  · have e1 : atI (memL c x y (j + 2)) (-2) = some (ptD (c.mem x y j)) := by
      rw [atI_neg (j := j) (by decide) (by rw [memL_len]; omega)]
      exact memL_get (by omega)
    have e2 : atI (memL c x y (j + 2)) (-1) = some (ptD (c.mem x y (j + 1))) := by
      rw [atI_neg (j := j + 1) (by decide) (by rw [memL_len]; omega)]
      exact memL_get (by omega)
    refine ls_drop (le_append ?_)
    walk_at "w"
    refine ⟨⟨_, oset_same⟩, ?_⟩
    walk_at "n"
    refine le_callS hW ?_
    walk_at "w"
    refine lr_ix (asOwn oset_same) e2 ?_
    walk_at "w"
    refine lr_ix (asOwn oset_same) e1 ?_
    walk_at "w"
    have hj : j + 2 < cnt := by omega
    have a1 := s.top j (by omega)
    have b1 := s.top (j + 1) (by omega)
    have c1 := s.top (j + 2) (by omega)
    refine ⟨s.hold.mem j, h6, a1, b1, ?_⟩
    walk_at "w"
    refine ⟨_, oset_same, by rw [memL_len]; omega, ?_⟩
    refine ⟨m - 1, by omega, j + 1, by omega, rfl, ?_⟩
    rw [oset_oset]
    exact congrArg (oset O p) (memL_succ c x y (j + 2)).symm
  · refine ls_freeze (i := 4) rfl oset_same ?_
    rw [odel_oset hp]
    have e : cutD (memL c x y (j + 2)) none (some (cnt : Int)) = memL c x y cnt := by
      show ((memL c x y (j + 2)).drop (HT.sIx (memL c x y (j + 2)).length 0 none)).take (HT.sIx (memL c x y (j + 2)).length (memL c x y (j + 2)).length (some (cnt : Int)) - HT.sIx (memL c x y (j + 2)).length 0 none) = _
      rw [HT.sIx_none, HT.sIx_nat, memL_len, List.drop_zero, Nat.sub_zero, Nat.min_eq_left (by omega), memL_take _ _ _ _ _ (by omega)]
    rcases kk with kk | kk
    · walk_at "w"
      rw [e]
      exact kk
    · refine ls_ret (le_slW ?_)
      walk_at "w"
      rw [e]
      exact kk

/-! ### chain -/
abbrev N_chain : List Str := ["relation", "first", "second", "length"]
def t_chain (G : Gs) (a : Ad) (E : XK) : TS :=
  (tSeq (tDrop (tCallS (spD G (F_check_pair a)) (WE (fun cls d _ H => E cls d H)) (tCons (tVar 0) (tCons (tVar 1) (tCons (tVar 2) tNil)))))
    (tSeq (tIfS (tTest (tOp rLt (tVar 3) (tC (.int 0)))) (tRaise1 G.K a.c_InvalidNumber (fun cls d _ H => E cls d H) (tCons (tVar 3) tNil)) tNext)
    (tRet (tCallS (spD G (F_members a)) (WE (fun cls d _ H => E cls d H)) (tCons (tProp G.C (spD G (F_Relation_numbers a)) [] E0 (tVar 0)) (tCons (tVar 1) (tCons (tVar 2) (tCons (tVar 3) tNil))))))))
def F_chain (a : Ad) : DSp := fun ds O κ ε => ∃ (c : Co) (d1 d2 : PyData) (n : Int), ds = [.rel c.list, .py d1, .py d2, .py (.int n)] ∧ c.sB 300 ∧ (isPt d1 = false → ε a.c_InvalidPoint d1 O) ∧ (isPt d1 = true → isPt d2 = false → ε a.c_InvalidPoint d2 O) ∧
  ∀ x y, d1 = ptD x → d2 = ptD y → IsPt x → IsPt y → szQ x ∧ szQ y ∧ (c.at_ x y ≠ 0 → ε a.c_NotPair (.tuple [d1, d2]) O) ∧ (c.at_ x y = 0 → n < 0 → ε a.c_InvalidNumber (.int n) O) ∧
    (c.at_ x y = 0 → ∀ cnt : Nat, n = (cnt : Int) → LimP c x y cnt ∧ cnt ≤ 100 ∧ (κ (.py (.list (memL c x y cnt))) O ∨ ∀ p, O p = none → κ (.own p) (oset O p (memL c x y cnt))))
theorem len_chain (a : Ad) : ∀ ds O κ ε, F_chain a ds O κ ε → ds.length = (["relation", "first", "second", "length"] : List Str).length := by
  rintro _ O κ ε ⟨c, d1, d2, n, rfl, _⟩
  rfl
theorem chain_go {c : Co} {x y : Pt} {cnt : Nat} {A B : Prop} {C : Nat → Prop} (lim : LimP c x y cnt) (zx : szQ x) (zy : szQ y) (few : cnt ≤ 100) (k : C cnt) :
    szQ x ∧ szQ y ∧ (c.at_ x y ≠ 0 → A) ∧ (c.at_ x y = 0 → (cnt : Int) < 0 → B) ∧ (c.at_ x y = 0 → ∀ m : Nat, (cnt : Int) = (m : Int) → LimP c x y m ∧ m ≤ 100 ∧ C m) := by
  refine ⟨zx, zy, fun z => absurd lim.hold.h z, fun _ z => absurd z (by omega), fun _ m e => ?_⟩
  obtain rfl : cnt = m := by omega
  exact ⟨lim, few, k⟩
theorem ls_chain {G : Gs} {a : Ad} (hE : ErrC G.K a.c_InvalidNumber) : ∀ (B0 : Hp) (E : XK) ds O κ ε, F_chain a ds O κ ε → WOk G B0 (fun cls d _ H => E cls d H) (fun C x _ O => ε C x O) →
    LS G B0 (t_chain G a E) (startR N_chain ds) O (fun _ O' => κ (.py .none) O') κ (fun _ _ => False) (fun _ _ => False) := by
  rintro B0 E _ O κ ε ⟨c, d1, d2, n, rfl, hs, k1, k2, k⟩ hW
  walk_at "s"
  unfold t_chain
  walk_at "n"
  walk_at "n"
  refine le_callS hW ?_
  walk_at "w"
  refine ⟨hs, k1, k2, fun x y e1 e2 px py => ?_⟩
  obtain ⟨sx, sy, kn, km, kk⟩ := k x y e1 e2 px py
  subst e1
  subst e2
  refine ⟨sx, sy, kn, fun h0 => ?_⟩
  walk_at "w"
  refine if_dec (fun h => ?_) (fun h => ?_)
  · refine ls_raise hW hE.oex hE.no ?_
    walk_at "w"
    exact km h0 h
  · obtain ⟨cnt, rfl⟩ := Int.eq_ofNat_of_zero_le (show 0 ≤ n by omega)
    obtain ⟨st, hc, kk⟩ := kk h0 cnt rfl
    walk_at "n"
    walk_at "n"
    refine le_callS hW ?_
    walk_at "n"
    refine le_prop ?_
    walk_at "w"
    exact ⟨c, x, y, cnt, rfl, st, hc, kk⟩

/-! ### multiples -/
abbrev N_multiples : List Str := ["relation", "i", "j", "x", "adding"]
def t_multiples (G : Gs) (a : Ad) (E : XK) : TS :=
  (tSeq (tAsg (tCall (spD G (F_invariants a)) [] E0 (tCons (tCall (spD G (F_quartic a)) [] E0 (tCons (tVar 0) tNil)) tNil)) (gTup G.K 2 (gCons (gName 1) (gCons (gName 2) gNil))))
    (tSeq (tAsg (tCall (spD G (F_step a)) [] E0 (tCons (tProp G.C (spD G (F_Relation_numbers a)) [] E0 (tVar 0)) tNil)) (gName 3))
    (tSeq (tAsg (tMakeS G.C (spMk G (F_Relation_init a)) (WE (fun cls d _ H => E cls d H)) (tCons (tLst (tCons (tC (.int 1)) (tCons (tOp rMulU (tUn rNeg (tC (.int 2))) (tVar 3)) (tCons (tOp rMulU (tVar 3) (tVar 3)) (tCons (tOp rSubU (tOp rMulU (tC (.int 6)) (tVar 1)) (tOp rMulU (tOp rMulU (tC (.int 2)) (tVar 3)) (tVar 3))) (tCons (tOp rAddU (tOp rMulU (tOp rMulU (tC (.int 6)) (tVar 1)) (tVar 3)) (tOp rMulU (tC (.int 4)) (tVar 2))) (tCons (tOp rAddU (tOp rMulU (tOp rMulU (tC (.int 9)) (tVar 1)) (tVar 1)) (tOp rMulU (tOp rMulU (tC (.int 4)) (tVar 2)) (tVar 3))) tNil))))))) tNil)) (gName 4))
    (tRet (tCallS (spD G (F_chain a)) (WE (fun cls d _ H => E cls d H)) (tCons (tVar 4) (tCons (tC (.ref a.c_ENDLESS)) (tCons (tTup (tCons (tVar 3) (tCons (tC (.int 1)) tNil))) (tCons (tOp rAddU (tC (.int 12)) (tC (.int 1))) tNil)))))))))
def F_multiples (_ : Ad) : DSp := fun ds O κ _ => ∃ (c : Co), ds = [.rel c.list] ∧ MulP c ∧ κ (.py (.list (memL c.add (1, 0) (c.X, 1) 13))) O
theorem len_multiples (a : Ad) : ∀ ds O κ ε, F_multiples a ds O κ ε → ds.length = (["relation"] : List Str).length := by
  rintro _ O κ ε ⟨c, rfl, _⟩
  rfl
theorem ls_multiples {G : Gs} {a : Ad} (hV : ∀ B, Dd G.K B (.ref a.c_ENDLESS) (.tuple [.int 1, .int 0])) : ∀ (B0 : Hp) (E : XK) ds O κ ε, F_multiples a ds O κ ε → WOk G B0 (fun cls d _ H => E cls d H) (fun C x _ O => ε C x O) →
    LS G B0 (t_multiples G a E) (startR N_multiples ds) O (fun _ O' => κ (.py .none) O') κ (fun _ _ => False) (fun _ _ => False) := by
  rintro B0 E _ O κ ε ⟨c, rfl, ok, k⟩ hW
  have s3 := ok.six.le (m := 300) (by decide)
  have hd : (q4 c.a c.b c.c c.d c.e c.f).natAbs < 10 ^ 3800 ∧ (DL.q3 c.a c.b c.c c.d c.e c.f).natAbs < 10 ^ 3800 ∧ (q2 c.a c.b c.c c.d c.e c.f).natAbs < 10 ^ 3800 ∧ (q1 c.a c.b c.c c.d c.e c.f).natAbs < 10 ^ 3800 ∧ (q0 c.a c.b c.c c.d c.e c.f).natAbs < 10 ^ 3800 := by
    obtain ⟨ca, cb, cc, cd, ce, cf⟩ := c
    obtain ⟨g1, g2, g3, g4, g5, g6⟩ := ok.six
    simp only at g1 g2 g3 g4 g5 g6
    have i1 : BdI ca 10 := ⟨g1⟩
    have i2 : BdI cb 10 := ⟨g2⟩
    have i3 : BdI cc 10 := ⟨g3⟩
    have i4 : BdI cd 10 := ⟨g4⟩
    have i5 : BdI ce 10 := ⟨g5⟩
    have i6 : BdI cf 10 := ⟨g6⟩
    refine ⟨by unfold q4; exact bd_to 3800, by unfold DL.q3; exact bd_to 3800, by unfold q2; exact bd_to 3800, by unfold q1; exact bd_to 3800, by unfold q0; exact bd_to 3800⟩
  walk_at "s"
  unfold t_multiples
  walk_at "w"
  refine ⟨s3.le (by decide), ?_⟩
  walk_at "w"
  refine ⟨_, _, _, _, _, rfl, hd, ?_⟩
  walk_at "w"
  refine le_prop ?_
  walk_at "w"
  refine ⟨s3, ?_⟩
  obtain ⟨jI, jJ, jX⟩ := ok.bds
  have iI : BdI c.I 62 := ⟨jI⟩
  have iJ : BdI c.J 95 := ⟨jJ⟩
  have iX : BdI c.X 32 := ⟨jX⟩
  have eI : bendI (q4 c.a c.b c.c c.d c.e c.f) (DL.q3 c.a c.b c.c c.d c.e c.f) (q2 c.a c.b c.c c.d c.e c.f) (q1 c.a c.b c.c c.d c.e c.f) (q0 c.a c.b c.c c.d c.e c.f) = c.I := rfl
  have eJ : bendJ (q4 c.a c.b c.c c.d c.e c.f) (DL.q3 c.a c.b c.c c.d c.e c.f) (q2 c.a c.b c.c c.d c.e c.f) (q1 c.a c.b c.c c.d c.e c.f) (q0 c.a c.b c.c c.d c.e c.f) = c.J := rfl
  rw [eI, eJ]
  clear eI eJ
  have lim := ok.lim
  have eA : c.add = addOf c.I c.J c.X := rfl
  rw [eA] at lim k
  clear eA
  clear ok
  generalize c.I = i at *
  generalize c.J = j at *
  generalize c.X = x at *
  have hp := add_plain i j x
  have hne := Co.nz_of_bend lim.hold.b
  have s6 := lim.six
  walk_at "c"
  walk_at "n"
  walk_at "n"
  refine le_makeS hW ?_
  walk_at "w"
  refine ⟨(addOf i j x).list, rfl, by show 6 < 1000; decide, Co.sB.mem (s6.le (by decide)), fun h => absurd rfl h, fun c' e => ?_⟩
  have e' := Co.list_inj e
  subst e'
  refine ⟨fun z => absurd z lim.hold.b, fun _ => ?_⟩
  rw [Co.plain_self hp]
  walk_at "n"
  walk_at "n"
  refine le_callS hW ?_
  walk_at "n"
  walk_at "n"
  walk_at "n"
  refine le_con (d := .py (.tuple [.int 1, .int 0])) hV ?_
  walk_at "w"
  refine ⟨addOf i j x, ptD (1, 0), ptD (x, 1), ((13 : Nat) : Int), rfl, s6.le (by decide), pts_go lim.hold.px lim.hold.py (chain_go lim ⟨by decide +kernel, by decide +kernel⟩ ⟨?_, show (1 : Int).natAbs < 10 ^ 20000 by decide +kernel⟩ (by decide) (.inl k))⟩
  exact bd_to 20000

/-! ### step_numbers -/
abbrev N_step_numbers : List Str := ["relation", "number"]
def t_step_numbers (G : Gs) (a : Ad) (E : XK) : TS :=
  (tSeq (tIfS (tOr (tTest (tOp rLt (tVar 1) (tC (.int 0)))) (tTest (tOp rGt (tVar 1) (tC (.int 12))))) (tRaise1 G.K a.c_InvalidNumber (fun cls d _ H => E cls d H) (tCons (tVar 1) tNil)) tNext)
    (tRet (tCall (spD G (F_without_divisor a)) [] E0 (tCons (tCall (spD G (F_numbers_at a)) [] E0 (tCons (tCall (spD G (F_quartic a)) [] E0 (tCons (tVar 0) tNil)) (tCons (tOp (rIx G.K) (tCallS (spD G (F_multiples a)) (WE (fun cls d _ H => E cls d H)) (tCons (tVar 0) tNil)) (tVar 1)) tNil))) tNil))))
/-- the numbers of so many steps, perhaps with a common divisor -/
def Co.stp (c : Co) (n : Nat) : List Int := stL c.d4 c.d3 c.d2 c.d1 c.d0 (c.add.mem (1, 0) (c.X, 1) n)
def F_step_numbers (a : Ad) : DSp := fun ds O κ ε => ∃ (c : Co) (n : Int), ds = [.rel c.list, .py (.int n)] ∧ MulP c ∧ (n < 0 ∨ 12 < n → ε a.c_InvalidNumber (.int n) O) ∧
  ∀ m : Nat, n = (m : Int) → m ≤ 12 → (κ (.py (inL (plainL (c.stp m)))) O ∨ ∀ p, O p = none → κ (.own p) (oset O p ((plainL (c.stp m)).map PyData.int)))
theorem len_step_numbers (a : Ad) : ∀ ds O κ ε, F_step_numbers a ds O κ ε → ds.length = (["relation", "number"] : List Str).length := by
  rintro _ O κ ε ⟨c, n, rfl, _⟩
  rfl
theorem stL_bd {d4 d3 d2 d1 d0 : Int} {x : Pt} (h : d4.natAbs < 10 ^ 3800 ∧ d3.natAbs < 10 ^ 3800 ∧ d2.natAbs < 10 ^ 3800 ∧ d1.natAbs < 10 ^ 3800 ∧ d0.natAbs < 10 ^ 3800) (hx : szQ x) : ∀ z ∈ stL d4 d3 d2 d1 d0 x, z.natAbs < 10 ^ 90000 := by
  obtain ⟨h4, h3, h2, h1, h0⟩ := h
  obtain ⟨t, l⟩ := x
  obtain ⟨ht, hl⟩ := hx
  have i0 : BdI d0 3800 := ⟨h0⟩
  have i1 : BdI d1 3800 := ⟨h1⟩
  have i2 : BdI d2 3800 := ⟨h2⟩
  have i3 : BdI d3 3800 := ⟨h3⟩
  have i4 : BdI d4 3800 := ⟨h4⟩
  have jt : BdI t 20000 := ⟨ht⟩
  have jl : BdI l 20000 := ⟨hl⟩
  have jI : BdI (bendI d4 d3 d2 d1 d0) 7700 := ⟨by unfold bendI; exact bd_to 7700⟩
  intro z hz
  simp only [stL, List.mem_cons, List.not_mem_nil, or_false] at hz
  generalize bendI d4 d3 d2 d1 d0 = I at *
  rcases hz with rfl | rfl | rfl | rfl | rfl | rfl <;> exact bd_to 90000
theorem ls_step_numbers {G : Gs} {a : Ad} (hE : ErrC G.K a.c_InvalidNumber) : ∀ (B0 : Hp) (E : XK) ds O κ ε, F_step_numbers a ds O κ ε → WOk G B0 (fun cls d _ H => E cls d H) (fun C x _ O => ε C x O) →
    LS G B0 (t_step_numbers G a E) (startR N_step_numbers ds) O (fun _ O' => κ (.py .none) O') κ (fun _ _ => False) (fun _ _ => False) := by
  rintro B0 E _ O κ ε ⟨c, n, rfl, mp, ke, k⟩ hW
  have s3 := mp.six.le (m := 1850) (by decide)
  have hd : c.d4.natAbs < 10 ^ 3800 ∧ c.d3.natAbs < 10 ^ 3800 ∧ c.d2.natAbs < 10 ^ 3800 ∧ c.d1.natAbs < 10 ^ 3800 ∧ c.d0.natAbs < 10 ^ 3800 := by
    obtain ⟨ca, cb, cc, cd, ce, cf⟩ := c
    obtain ⟨g1, g2, g3, g4, g5, g6⟩ := mp.six
    simp only at g1 g2 g3 g4 g5 g6
    have i1 : BdI ca 10 := ⟨g1⟩
    have i2 : BdI cb 10 := ⟨g2⟩
    have i3 : BdI cc 10 := ⟨g3⟩
    have i4 : BdI cd 10 := ⟨g4⟩
    have i5 : BdI ce 10 := ⟨g5⟩
    have i6 : BdI cf 10 := ⟨g6⟩
    refine ⟨?_, ?_, ?_, ?_, ?_⟩
    · show (q4 ca cb cc cd ce cf).natAbs < _
      unfold q4
      exact bd_to 3800
    · show (q3 ca cb cc cd ce cf).natAbs < _
      unfold DL.q3
      exact bd_to 3800
    · show (q2 ca cb cc cd ce cf).natAbs < _
      unfold q2
      exact bd_to 3800
    · show (q1 ca cb cc cd ce cf).natAbs < _
      unfold q1
      exact bd_to 3800
    · show (q0 ca cb cc cd ce cf).natAbs < _
      unfold q0
      exact bd_to 3800
  walk_at "s"
  unfold t_step_numbers
  refine ls_seq (ls_if (lt_or (lt_test (le_op ?_))))
  walk_at "a"
  refine ⟨_, rfl, ?_⟩
  have bad : n < 0 ∨ 12 < n → LS G B0 (tRaise1 G.K a.c_InvalidNumber (fun cls d x H => E cls d H) (tCons (tVar 1) tNil)) [some (.rel c.list), some (.py (.int n))] O (fun ρ1 O1 => LS G B0 (tRet (tCall (spD G (F_without_divisor a)) [] E0 (tCons (tCall (spD G (F_numbers_at a)) [] E0 (tCons (tCall (spD G (F_quartic a)) [] E0 (tCons (tVar 0) tNil)) (tCons (tOp (rIx G.K) (tCallS (spD G (F_multiples a)) (WE (fun cls d _ H => E cls d H)) (tCons (tVar 0) tNil)) (tVar 1)) tNil))) tNil))) ρ1 O1 (fun _ O' => κ (.py .none) O') κ (fun _ _ => False) (fun _ _ => False)) κ (fun _ _ => False) (fun _ _ => False) := fun h => by
    refine ls_raise hW hE.oex hE.no ?_
    walk_at "w"
    exact ke h
  refine if_dec (fun h => ifT (bad (.inl h))) (fun h => ?_)
  refine lt_test (le_op ?_)
  walk_at "a"
  refine ⟨_, rfl, ?_⟩
  refine if_dec (fun h2 => bad (.inr (by omega))) (fun h2 => ls_next ?_)
  obtain ⟨m, rfl⟩ := Int.eq_ofNat_of_zero_le (show 0 ≤ n by omega)
  have hm : m ≤ 12 := by omega
  have kk := k m rfl hm
  clear k ke bad
  have lim := mp.lim
  refine ls_ret (le_call (la_cons (le_call (la_cons (le_call ?_)))))
  walk_at "a"
  refine ⟨c, rfl, s3, ?_⟩
  refine la_cons (le_op (le_callS hW ?_))
  walk_at "a"
  refine ⟨c, rfl, mp, ?_⟩
  walk_at "a"
  refine lr_ix rfl (mem_ix (show m < 13 by omega)) ?_
  walk_at "a"
  refine ⟨_, _, _, _, _, _, rfl, hd, lim.top m (by omega), ?_⟩
  walk_at "a"
  have sz := lim.top m (by omega)
  have bd := stL_bd hd sz
  refine ⟨c.stp m, rfl, ?_, ?_, kk⟩
  · show 6 < 1000
    decide
  · exact bd

/-! ### law_right -/
abbrev N_law_right : List Str := ["pool", "numbers_here", "left", "right", "steps", "made", "row_here", "due", "spot"]
def t_law_right (G : Gs) (a : Ad) : TS :=
  (tSeq (tAsg (tCall (spD G (F_law_start a)) [] E0 (tCons (tVar 0) tNil)) (gTup G.K 3 (gCons (gName 1) (gCons (gName 2) (gCons (gName 3) gNil)))))
    (tSeq (tAsg (tTup (tCons (tOp rAddU (tC (.int 1)) (tCall (spD G (F_law_draw a)) [] E0 (tCons (tVar 0) (tCons (tC (.int 4)) tNil)))) (tCons (tCall (spD G (F_law_made a)) [] E0 (tCons (tVar 1) tNil)) tNil))) (gTup G.K 2 (gCons (gName 4) (gCons (gName 5) gNil))))
    (tSeq (tAsg (tOp rAddU (tSl (rSlL G.K) (tRevL G.K (tCall (spD G (F_law_chain a)) [] E0 (tCons (tVar 1) (tCons (tVar 3) (tCons (tVar 2) (tCons (tC (.int 5)) tNil)))))) tNoPart (tPart (tC (.int 3)))) (tCall (spD G (F_law_chain a)) [] E0 (tCons (tVar 1) (tCons (tVar 2) (tCons (tVar 3) (tCons (tOp rAddU (tC (.int 4)) (tVar 4)) tNil)))))) (gName 6))
    (tSeq (tAsg (tCall (spD G (F_law_only a)) [] E0 (tCons (tLc (iRng1 (tCons (tC (.int 7)) tNil)) (gName 8) tYes (tCall (spD G (F_law_terms a)) [] E0 (tCons (tOp (rIx G.K) (tVar 6) (tVar 8)) (tCons (tOp (rIx G.K) (tVar 6) (tOp rAddU (tVar 8) (tVar 4))) tNil))) [8]) tNil)) (gName 7))
    (tRet (tOrV (tOp (rEqU G.K) (tVar 7) (tLst tNil)) (tOp (rEqU G.K) (tCall (spD G (F_step_numbers a)) [] E0 (tCons (tVar 5) (tCons (tVar 4) tNil))) (tVar 7))))))))
theorem row_k {c : Co} {x y : Pt} (h : Hold c x y) (n : Nat) : cutD (memL c y x 5).reverse none (some 3) ++ memL c x y n = memL c (c.mem y x 4) (c.mem y x 3) (3 + n) := by
  have e : memL c (c.mem y x 4) (c.mem y x 3) (3 + n) = (List.range (3 + n)).map fun i => ptD (if i < 3 then c.mem y x (3 + 1 - i) else c.mem x y (i - 3)) := List.map_congr_left fun i _ => congrArg ptD (far_mem h 3 i)
  have h1 : cutD (memL c y x 5).reverse none (some 3) = (List.range 3).map fun i => ptD (if i < 3 then c.mem y x (3 + 1 - i) else c.mem x y (i - 3)) := rfl
  have h2 : memL c x y n = (List.range n).map ((fun i => ptD (if i < 3 then c.mem y x (3 + 1 - i) else c.mem x y (i - 3))) ∘ fun x => 3 + x) := List.map_congr_left fun i _ => by
    show ptD (c.mem x y i) = ptD (if 3 + i < 3 then _ else c.mem x y (3 + i - 3))
    rw [if_neg (by omega), show 3 + i - 3 = i by omega]
  rw [e, List.range_add, List.map_append, List.map_map, h1, h2]
theorem row_at {c : Co} {X Y : Pt} {n : Nat} {i : Int} {s : Nat} (e : i = (s : Int)) (h : s < n) : atI (memL c X Y n) i = some (ptD (c.mem X Y s)) := by
  rw [e]
  exact mem_ix h
theorem terms_930 {x y : Pt} (hx : ht x ≤ 10 ^ 231) (hy : ht y ≤ 10 ^ 231) : ∀ t ∈ termsL x y, t.natAbs < 10 ^ 930 := by
  obtain ⟨h1, h2⟩ := ht_lt hx (show 231 < 232 by decide)
  obtain ⟨h3, h4⟩ := ht_lt hy (show 231 < 232 by decide)
  obtain ⟨p, q⟩ := x
  obtain ⟨r, s⟩ := y
  have i1 : BdI p 232 := ⟨h1⟩
  have i2 : BdI q 232 := ⟨h2⟩
  have i3 : BdI r 232 := ⟨h3⟩
  have i4 : BdI s 232 := ⟨h4⟩
  intro t ht
  unfold termsL at ht
  simp only [List.mem_cons, List.not_mem_nil, or_false] at ht
  rcases ht with rfl | rfl | rfl | rfl | rfl | rfl <;> exact bd_to 930
def rowD25 (c : Co) (X Y : Pt) (m : Nat) (d : D) : PyData := inL (termsL (c.mem X Y (outI d).toNat) (c.mem X Y ((outI d).toNat + m)))
theorem rows_map (c : Co) (X Y : Pt) (m : Nat) : ((rngD 0 (Int.toNat 7)).filter fun _ => true).map (rowD25 c X Y m) = ((List.range 7).map fun j => termsL (c.mem X Y j) (c.mem X Y (j + m))).map inL := by
  rw [List.filter_eq_self.mpr (fun _ _ => rfl)]
  unfold rngD
  rw [List.map_map, List.map_map]
  refine List.map_congr_left fun i _ => ?_
  show inL (termsL (c.mem X Y ((0 : Int) + (i : Int)).toNat) (c.mem X Y (((0 : Int) + (i : Int)).toNat + m))) = _
  rw [show ((0 : Int) + (i : Int)).toNat = i by omega]
  rfl
def F_law_right (a : Ad) : DSp := fun ds O κ _ => ∃ (p : Addr) (q : List PyData) (n : Int), ds = [.own p] ∧ O p = some q ∧ PoolL q n ∧ n ≤ 300000 ∧ ∀ q', PoolL q' (n + 1000) → κ (.py (.bool true)) (oset O p q')
theorem len_law_right (a : Ad) : ∀ ds O κ ε, F_law_right a ds O κ ε → ds.length = (["pool"] : List Str).length := by
  rintro _ O κ ε ⟨p, q, n, rfl, _⟩
  rfl
theorem ls_law_right {G : Gs} {a : Ad} : ∀ (B0 : Hp) ds O κ ε, F_law_right a ds O κ ε → LS G B0 (t_law_right G a) (startR N_law_right ds) O (fun _ O' => κ (.py .none) O') κ (fun _ _ => False) (fun _ _ => False) := by
  rintro B0 _ O κ ε ⟨p, q, n, rfl, hO, hq, hn, k⟩
  walk_at "s"
  unfold t_law_right
  walk_at "n"
  walk_at "n"
  walk_at "w"
  refine ⟨p, q, n, rfl, hO, hq, by omega, fun c x y q1 sg hq1 => ?_⟩
  have lim : Lim c x y 9 := sg.starts.lim.le (by decide)
  have limY : Lim c y x 6 := sg.symm.starts.lim.le (by decide)
  have s3 := sg.six.le (m := 300) (by decide)
  have hb := sg.hold.b
  have mp := sg.mul
  walk_at "c"
  refine ls_seq (ls_tup2 ?_)
  walk_at "w"
  refine ⟨p, _, _, q1, rfl, oset_same, hq1, by omega, by decide, by decide, fun r q2 r0 r1 hq2 => ?_⟩
  rw [oset_oset]
  obtain ⟨m, hm⟩ : ∃ m : Nat, 1 + r = (m : Int) := ⟨(1 + r).toNat, by omega⟩
  walk_at "n"
  rw [hm]
  have m1 : 0 < m := by omega
  have m4 : m ≤ 4 := by omega
  clear hm r0 r1
  walk_at "w"
  refine ⟨s3.le (by decide), hb, ?_⟩
  rw [Co.plain_self sg.plain]
  walk_at "w"
  refine le_revL ?_
  walk_at "w"
  refine ⟨c, y, x, 5, rfl, limY.le (by decide), by decide, ?_⟩
  refine ⟨_, rfl, ?_⟩
  walk_at "w"
  rw [show (4 : Int) + (m : Int) = ((4 + m : Nat) : Int) by omega]
  refine ⟨c, x, y, 4 + m, rfl, lim.le (by omega), by omega, ?_⟩
  refine lr_cat rfl rfl (fun _ => nofun) (fun _ => nofun) (by
    have : (cutD (memL c y x 5).reverse none (some 3)).length = 3 := rfl
    rw [this, memL_len]
    omega) ?_
  rw [row_k sg.hold]
  have hX : Hold c (c.mem y x 4) (c.mem y x 3) := (sg.hold.symm.mem 3).symm
  have rh : ∀ i, i < 11 → ht (c.mem (c.mem y x 4) (c.mem y x 3) i) ≤ 10 ^ 231 := fun i h => by
    rw [far_mem sg.hold 3 i]
    by_cases h1 : i < 3
    · rw [if_pos h1]
      exact Nat.le_trans (sg.symm.starts.mem (n := 3 + 1 - i) (by omega)).1 (ten_mono (Nat.le_trans (dig_mono 6 9 (show 3 + 1 - i ≤ 4 by omega)) (by decide)))
    · rw [if_neg h1]
      exact Nat.le_trans (sg.starts.mem (n := i - 3) (by omega)).1 (ten_mono (Nat.le_trans (dig_mono 6 9 (show i - 3 ≤ 7 by omega)) (by decide)))
  generalize c.mem y x 4 = X at *
  generalize c.mem y x 3 = Y at *
  have kq := k q2 (hq2.mono (by omega))
  walk_at "w"
  refine le_map (rowD25 c X Y m) (fun _ => true) (gin_name List.mem_cons_self) (li_rng1 ?_)
  walk_at "w"
  refine ⟨by decide, by decide, by rw [rngD_len]; decide, ?_, ?_⟩
  · intro dd hdd rr acc hrr
    obtain ⟨i, hi, rfl⟩ := List.mem_map.mp hdd
    have hi := List.mem_range.mp hi
    have hi : i < 7 := hi
    refine lg_name ⟨rfl, lt_yes ⟨rfl, rfl, fun _ => ?_⟩⟩
    walk_at "w"
    refine lr_ix rfl (row_at (s := i) (by omega) (by omega)) ?_
    walk_at "w"
    refine lr_ix rfl (row_at (s := i + m) (by omega) (by omega)) ?_
    walk_at "w"
    refine ⟨Nat.le_trans (rh i (by omega)) (ten_mono (by decide)), Nat.le_trans (rh (i + m) (by omega)) (ten_mono (by decide)), rfl, ?_⟩
    unfold rowD25 outI
    rw [show ((0 : Int) + (i : Int)).toNat = i by omega]
  rw [rows_map]
  walk_at "w"
  have hz := st_ne hb ((add_hold hb).mem m).px
  have hG : GJ (c.st (c.M m)).list 0 ((List.range 7).map fun j => termsL (c.mem X Y j) (c.mem X Y (j + m))) [] := by
    refine ⟨by rw [List.length_map, List.length_range], fun r hr => ?_, fun r hr u hu => ?_, fun r hr => ?_, .nil, fun _ h => absurd h List.not_mem_nil, fun _ h => absurd h (Nat.not_lt_zero _), fun _ _ h => absurd h (Nat.not_lt_zero _)⟩
    · obtain ⟨j, _, rfl⟩ := List.mem_map.mp hr
      rfl
    · obtain ⟨j, hj, rfl⟩ := List.mem_map.mp hr
      have hj := List.mem_range.mp hj
      exact terms_930 (rh j (by omega)) (rh (j + m) (by omega)) u hu
    · obtain ⟨j, _, rfl⟩ := List.mem_map.mp hr
      rw [← dot_vc rfl (terms_6 _ _), dot_at]
      exact st_hold hX j m
  have eP : plainL (c.st (c.M m)).list = (c.st (c.M m)).plain.list := rfl
  refine ⟨_, (c.st (c.M m)).list, rfl, hG, rfl, hz, ?_, ?_⟩
  · walk_at "w"
    refine lr_eq rfl rfl rfl rfl ?_
    refine ⟨true, rfl, ifT ?_⟩
    exact kq
  · rw [eP]
    have es : inL (plainL (c.stp m)) = inL (c.st (c.M m)).plain.list := rfl
    clear hG eP hz
    have l6 : (c.st (c.M m)).plain.list.length = 6 := rfl
    generalize (c.st (c.M m)).plain.list = w at *
    walk_at "w"
    refine lr_eq rfl rfl (ShN.ints (ns := w)).ok rfl ?_
    rw [show PyData.eqv (inL w) (.list []) = false by
      match w, l6 with
      | x :: xs, _ => rfl]
    refine ⟨false, rfl, ifF ?_⟩
    walk_at "w"
    refine ⟨mp, fun z => absurd z (by omega), fun m' em _ => .inl ?_⟩
    obtain rfl : m = m' := by omega
    rw [es]
    walk_at "w"
    refine lr_eq rfl rfl (ShN.ints (ns := w)).ok (ShN.ints (ns := w)).ok ?_
    rw [show PyData.eqv (inL w) (inL w) = true from (ShN.ints (ns := w)).self]
    exact kq

/-! ### law -/
abbrev N_law : List Str := ["script", "spot", "pool", "turn"]
def t_law (G : Gs) (a : Ad) : TS :=
  (tSeq (tFor (iRng1 (tCons (tCB rMx (tCons (tC (.int 1)) (tCons (tCB rMn (tCons (tC (.int 5)) (tCons (tCB (rLen G.K) (tCons (tVar 0) tNil)) tNil))) tNil))) tNil)) (gName 1) (tSeq (tAsg (tCall (spD G (F_law_pool a)) [] E0 (tCons (tVar 0) (tCons (tVar 1) tNil))) (gName 2))
    (tFor (iRng1 (tCons (tC (.int 4)) tNil)) (gName 3) (tIfS (tNot (tTr G.K (tCall (spD G (F_law_right a)) [] E0 (tCons (tVar 2) tNil)))) (tRet (tC (.bl false))) tNext))))
    (tRet (tC (.bl true))))
def F_law (a : Ad) : DSp := fun ds O κ _ => ∃ ns : List Int, ds = [.sc ns] ∧ ns.length ≤ 63 ∧ ∀ O', κ (.py (.bool true)) O'
theorem len_law (a : Ad) : ∀ ds O κ ε, F_law a ds O κ ε → ds.length = (["script"] : List Str).length := by
  rintro _ O κ ε ⟨ns, rfl, _⟩
  rfl
theorem ls_law {G : Gs} {a : Ad} : ∀ (B0 : Hp) ds O κ ε, F_law a ds O κ ε → LS G B0 (t_law G a) (startR N_law ds) O (fun _ O' => κ (.py .none) O') κ (fun _ _ => False) (fun _ _ => False) := by
  rintro B0 _ O κ ε ⟨ns, rfl, hl, k⟩
  unfold t_law
  refine ls_seq ?_
  refine ls_for (li_rng1 ?_)
  walk_at "l"
  refine ⟨by omega, by omega, fun i ρ' _ => ρ'.length = 4 ∧ ρ'[0]? = some (some (.sc ns)), ⟨rfl, rfl⟩, ?_, ?_⟩
  · rintro i d ρ' O' hd ⟨hr, h0⟩
    obtain ⟨rfl, hi⟩ := rngD_get hd
    obtain ⟨a0, a1, a2, a3, rfl⟩ := four_of hr
    cases h0
    walk_at "k"
    refine ⟨by omega, by omega, fun p q hp hq => ?_⟩
    refine ls_for (li_rng1 ?_)
    walk_at "l"
    refine ⟨by decide, by decide, fun j ρ' O2 => ∃ q x, ρ' = [some (.sc ns), some (.py (.int (0 + (i : Int)))), some (.own p), x] ∧ O2 p = some q ∧ PoolL q ((j : Int) * 1000), ⟨q, _, rfl, oset_same, by simpa using hq⟩, ?_, ?_⟩
    · rintro j d ρ' O2 hd2 ⟨q2, x, rfl, ho, hp2⟩
      obtain ⟨rfl, hj⟩ := rngD_get hd2
      have hj : j < 4 := hj
      walk_at "k"
      walk_at "le"
      walk_at "le"
      walk_at "le"
      first | refine le_callG ?_ | refine le_call ?_
      walk_at "l"
      refine ⟨p, q2, _, rfl, ho, hp2, by omega, fun q3 hq3 => ?_⟩
      walk_at "l"
      refine ⟨q3, _, rfl, oset_same, ?_⟩
      have e : ((j + 1 : Nat) : Int) * 1000 = (j : Int) * 1000 + 1000 := by omega
      rw [e]
      exact hq3
    · rintro ρ' O2 ⟨q2, x, rfl, _⟩
      exact ⟨rfl, rfl⟩
  · intro ρ' O' h
    walk_at "l"
    exact k _



def topS (i : Nat) : Stmt := PySem.Challenge.pw_closechains_k25_steps_by_rows.main.body.getD i (.Pass ⟨0, 0, 0, 0⟩)
abbrev s_init : Stmt := inClass (topS 2) 0
theorem sc_init : FnScope ["self", "value"] ["self", "value"] (defScope s_init) := ⟨rfl, rfl, rfl, by decide +kernel, rfl, by decide +kernel, by decide +kernel⟩
abbrev s_law_pool : Stmt := topS 37
theorem sc_law_pool : FnScope N_law_pool ["script", "spot"] (defScope s_law_pool) := ⟨rfl, rfl, rfl, by decide +kernel, rfl, by decide +kernel, by decide +kernel⟩
abbrev s_law_draw : Stmt := topS 38
theorem sc_law_draw : FnScope N_law_draw ["pool", "span"] (defScope s_law_draw) := ⟨rfl, rfl, rfl, by decide +kernel, rfl, by decide +kernel, by decide +kernel⟩
abbrev s_law_tate : Stmt := topS 47
theorem sc_law_tate : FnScope N_law_tate ["pool"] (defScope s_law_tate) := ⟨rfl, rfl, rfl, by decide +kernel, rfl, by decide +kernel, by decide +kernel⟩
abbrev s_law_at : Stmt := topS 41
theorem sc_law_at : FnScope N_law_at ["numbers_here", "one_here", "two_here"] (defScope s_law_at) := ⟨rfl, rfl, rfl, by decide +kernel, rfl, by decide +kernel, by decide +kernel⟩
abbrev s_law_form : Stmt := topS 42
theorem sc_law_form : FnScope N_law_form ["numbers_here", "one_here"] (defScope s_law_form) := ⟨rfl, rfl, rfl, by decide +kernel, rfl, by decide +kernel, by decide +kernel⟩
abbrev s_law_five : Stmt := topS 45
theorem sc_law_five : FnScope N_law_five ["numbers_here"] (defScope s_law_five) := ⟨rfl, rfl, rfl, by decide +kernel, rfl, by decide +kernel, by decide +kernel⟩
abbrev s_law_plain : Stmt := topS 40
theorem sc_law_plain : FnScope N_law_plain ["numbers_here"] (defScope s_law_plain) := ⟨rfl, rfl, rfl, by decide +kernel, rfl, by decide +kernel, by decide +kernel⟩
abbrev s_law_is_straight : Stmt := topS 46
theorem sc_law_is_straight : FnScope N_law_is_straight ["numbers_here"] (defScope s_law_is_straight) := ⟨rfl, rfl, rfl, by decide +kernel, rfl, by decide +kernel, by decide +kernel⟩
abbrev s_law_known : Stmt := topS 48
theorem sc_law_known : FnScope N_law_known ["pool"] (defScope s_law_known) := ⟨rfl, rfl, rfl, by decide +kernel, rfl, by decide +kernel, by decide +kernel⟩
abbrev s_law_low : Stmt := topS 39
theorem sc_law_low : FnScope N_law_low ["over", "under"] (defScope s_law_low) := ⟨rfl, rfl, rfl, by decide +kernel, rfl, by decide +kernel, by decide +kernel⟩
abbrev s_law_next : Stmt := topS 43
theorem sc_law_next : FnScope N_law_next ["numbers_here", "left", "right"] (defScope s_law_next) := ⟨rfl, rfl, rfl, by decide +kernel, rfl, by decide +kernel, by decide +kernel⟩
abbrev s_law_chain : Stmt := topS 44
theorem sc_law_chain : FnScope N_law_chain ["numbers_here", "left", "right", "count_here"] (defScope s_law_chain) := ⟨rfl, rfl, rfl, by decide +kernel, rfl, by decide +kernel, by decide +kernel⟩
abbrev s_law_start : Stmt := topS 49
theorem sc_law_start : FnScope N_law_start ["pool"] (defScope s_law_start) := ⟨rfl, rfl, rfl, by decide +kernel, rfl, by decide +kernel, by decide +kernel⟩
abbrev s_invariants : Stmt := topS 17
theorem sc_invariants : FnScope N_invariants ["quartic_numbers"] (defScope s_invariants) := ⟨rfl, rfl, rfl, by decide +kernel, rfl, by decide +kernel, by decide +kernel⟩
abbrev s_bend : Stmt := topS 18
theorem sc_bend : FnScope N_bend ["quartic_numbers"] (defScope s_bend) := ⟨rfl, rfl, rfl, by decide +kernel, rfl, by decide +kernel, by decide +kernel⟩
abbrev s_without_divisor : Stmt := topS 13
theorem sc_without_divisor : FnScope N_without_divisor ["numbers"] (defScope s_without_divisor) := ⟨rfl, rfl, rfl, by decide +kernel, rfl, by decide +kernel, by decide +kernel⟩
abbrev s_quartic_of : Stmt := topS 16
theorem sc_quartic_of : FnScope N_quartic_of ["numbers"] (defScope s_quartic_of) := ⟨rfl, rfl, rfl, by decide +kernel, rfl, by decide +kernel, by decide +kernel⟩
abbrev s_Relation_init : Stmt := inClass (topS 15) 0
theorem sc_Relation_init : FnScope N_Relation_init ["self", "numbers"] (defScope s_Relation_init) := ⟨rfl, rfl, rfl, by decide +kernel, rfl, by decide +kernel, by decide +kernel⟩
abbrev s_law_made : Stmt := topS 50
theorem sc_law_made : FnScope N_law_made ["numbers_here"] (defScope s_law_made) := ⟨rfl, rfl, rfl, by decide +kernel, rfl, by decide +kernel, by decide +kernel⟩
abbrev s_law_terms : Stmt := topS 51
theorem sc_law_terms : FnScope N_law_terms ["one_here", "two_here"] (defScope s_law_terms) := ⟨rfl, rfl, rfl, by decide +kernel, rfl, by decide +kernel, by decide +kernel⟩
abbrev s_law_only : Stmt := topS 52
theorem sc_law_only : FnScope N_law_only ["rows_here"] (defScope s_law_only) := ⟨rfl, rfl, rfl, by decide +kernel, rfl, by decide +kernel, by decide +kernel⟩
abbrev s_hessian : Stmt := topS 35
theorem sc_hessian : FnScope N_hessian ["quartic_numbers"] (defScope s_hessian) := ⟨rfl, rfl, rfl, by decide +kernel, rfl, by decide +kernel, by decide +kernel⟩
abbrev s_numbers_at : Stmt := topS 34
theorem sc_numbers_at : FnScope N_numbers_at ["quartic_numbers", "x"] (defScope s_numbers_at) := ⟨rfl, rfl, rfl, by decide +kernel, rfl, by decide +kernel, by decide +kernel⟩
abbrev s_Relation_numbers : Stmt := inClass (topS 15) 1
theorem sc_Relation_numbers : FnScope N_Relation_numbers ["self"] (defScope s_Relation_numbers) := ⟨rfl, rfl, rfl, by decide +kernel, rfl, by decide +kernel, by decide +kernel⟩
abbrev s_quartic : Stmt := topS 19
theorem sc_quartic : FnScope N_quartic ["relation"] (defScope s_quartic) := ⟨rfl, rfl, rfl, by decide +kernel, rfl, by decide +kernel, by decide +kernel⟩
abbrev s_step : Stmt := topS 31
theorem sc_step : FnScope N_step ["numbers"] (defScope s_step) := ⟨rfl, rfl, rfl, by decide +kernel, rfl, by decide +kernel, by decide +kernel⟩
abbrev s_is_whole : Stmt := topS 10
theorem sc_is_whole : FnScope N_is_whole ["value"] (defScope s_is_whole) := ⟨rfl, rfl, rfl, by decide +kernel, rfl, by decide +kernel, by decide +kernel⟩
abbrev s_is_point : Stmt := topS 9
theorem sc_is_point : FnScope N_is_point ["value"] (defScope s_is_point) := ⟨rfl, rfl, rfl, by decide +kernel, rfl, by decide +kernel, by decide +kernel⟩
abbrev s_check_point : Stmt := topS 11
theorem sc_check_point : FnScope N_check_point ["point"] (defScope s_check_point) := ⟨rfl, rfl, rfl, by decide +kernel, rfl, by decide +kernel, by decide +kernel⟩
abbrev s_partner_equation : Stmt := topS 20
theorem sc_partner_equation : FnScope N_partner_equation ["numbers", "point"] (defScope s_partner_equation) := ⟨rfl, rfl, rfl, by decide +kernel, rfl, by decide +kernel, by decide +kernel⟩
abbrev s_holds : Stmt := topS 21
theorem sc_holds : FnScope N_holds ["relation", "first", "second"] (defScope s_holds) := ⟨rfl, rfl, rfl, by decide +kernel, rfl, by decide +kernel, by decide +kernel⟩
abbrev s_check_pair : Stmt := topS 22
theorem sc_check_pair : FnScope N_check_pair ["relation", "first", "second"] (defScope s_check_pair) := ⟨rfl, rfl, rfl, by decide +kernel, rfl, by decide +kernel, by decide +kernel⟩
abbrev s_other_root : Stmt := topS 27
theorem sc_other_root : FnScope N_other_root ["numbers", "point", "known"] (defScope s_other_root) := ⟨rfl, rfl, rfl, by decide +kernel, rfl, by decide +kernel, by decide +kernel⟩
abbrev s_lowest : Stmt := topS 12
theorem sc_lowest : FnScope N_lowest ["top", "bottom"] (defScope s_lowest) := ⟨rfl, rfl, rfl, by decide +kernel, rfl, by decide +kernel, by decide +kernel⟩
abbrev s_other_partner : Stmt := topS 26
theorem sc_other_partner : FnScope N_other_partner ["numbers", "point", "known"] (defScope s_other_partner) := ⟨rfl, rfl, rfl, by decide +kernel, rfl, by decide +kernel, by decide +kernel⟩
abbrev s_members : Stmt := topS 25
theorem sc_members : FnScope N_members ["numbers", "first", "second", "length"] (defScope s_members) := ⟨rfl, rfl, rfl, by decide +kernel, rfl, by decide +kernel, by decide +kernel⟩
abbrev s_chain : Stmt := topS 24
theorem sc_chain : FnScope N_chain ["relation", "first", "second", "length"] (defScope s_chain) := ⟨rfl, rfl, rfl, by decide +kernel, rfl, by decide +kernel, by decide +kernel⟩
abbrev s_multiples : Stmt := topS 30
theorem sc_multiples : FnScope N_multiples ["relation"] (defScope s_multiples) := ⟨rfl, rfl, rfl, by decide +kernel, rfl, by decide +kernel, by decide +kernel⟩
abbrev s_step_numbers : Stmt := topS 33
theorem sc_step_numbers : FnScope N_step_numbers ["relation", "number"] (defScope s_step_numbers) := ⟨rfl, rfl, rfl, by decide +kernel, rfl, by decide +kernel, by decide +kernel⟩
abbrev s_law_right : Stmt := topS 53
theorem sc_law_right : FnScope N_law_right ["pool"] (defScope s_law_right) := ⟨rfl, rfl, rfl, by decide +kernel, rfl, by decide +kernel, by decide +kernel⟩
abbrev s_law : Stmt := topS 54
theorem sc_law : FnScope N_law ["script"] (defScope s_law) := ⟨rfl, rfl, rfl, by decide +kernel, rfl, by decide +kernel, by decide +kernel⟩
structure Fs where
  (f_law_pool f_law_draw f_law_tate f_law_at f_law_form f_law_five f_law_plain f_law_is_straight f_law_known f_law_low f_law_next f_law_chain f_law_start f_invariants f_bend f_without_divisor f_quartic_of f_Relation_init f_law_made f_law_terms f_law_only f_hessian f_numbers_at f_Relation_numbers f_quartic f_step f_is_whole f_is_point f_check_point f_partner_equation f_holds f_check_pair f_other_root f_lowest f_other_partner f_members f_chain f_multiples f_step_numbers f_law_right f_law f_init p_numbers : Addr)
structure Txt (K : PySem.W.Frag) (mg : Str → Option Value) (a : Ad) (q : Fs) : Prop where
  g_law_pool : mg "_law_pool" = some (.ref q.f_law_pool)
  k_law_pool : PySem.W.keepIn K (.ref q.f_law_pool) = true
  g_law_draw : mg "_law_draw" = some (.ref q.f_law_draw)
  k_law_draw : PySem.W.keepIn K (.ref q.f_law_draw) = true
  g_law_tate : mg "_law_tate" = some (.ref q.f_law_tate)
  k_law_tate : PySem.W.keepIn K (.ref q.f_law_tate) = true
  g_law_at : mg "_law_at" = some (.ref q.f_law_at)
  k_law_at : PySem.W.keepIn K (.ref q.f_law_at) = true
  g_law_form : mg "_law_form" = some (.ref q.f_law_form)
  k_law_form : PySem.W.keepIn K (.ref q.f_law_form) = true
  g_law_five : mg "_law_five" = some (.ref q.f_law_five)
  k_law_five : PySem.W.keepIn K (.ref q.f_law_five) = true
  g_law_plain : mg "_law_plain" = some (.ref q.f_law_plain)
  k_law_plain : PySem.W.keepIn K (.ref q.f_law_plain) = true
  g_law_is_straight : mg "_law_is_straight" = some (.ref q.f_law_is_straight)
  k_law_is_straight : PySem.W.keepIn K (.ref q.f_law_is_straight) = true
  g_law_known : mg "_law_known" = some (.ref q.f_law_known)
  k_law_known : PySem.W.keepIn K (.ref q.f_law_known) = true
  g_law_low : mg "_law_low" = some (.ref q.f_law_low)
  k_law_low : PySem.W.keepIn K (.ref q.f_law_low) = true
  g_law_next : mg "_law_next" = some (.ref q.f_law_next)
  k_law_next : PySem.W.keepIn K (.ref q.f_law_next) = true
  g_law_chain : mg "_law_chain" = some (.ref q.f_law_chain)
  k_law_chain : PySem.W.keepIn K (.ref q.f_law_chain) = true
  g_law_start : mg "_law_start" = some (.ref q.f_law_start)
  k_law_start : PySem.W.keepIn K (.ref q.f_law_start) = true
  g_invariants : mg "invariants" = some (.ref q.f_invariants)
  k_invariants : PySem.W.keepIn K (.ref q.f_invariants) = true
  g_bend : mg "bend" = some (.ref q.f_bend)
  k_bend : PySem.W.keepIn K (.ref q.f_bend) = true
  g_without_divisor : mg "without_divisor" = some (.ref q.f_without_divisor)
  k_without_divisor : PySem.W.keepIn K (.ref q.f_without_divisor) = true
  g_quartic_of : mg "quartic_of" = some (.ref q.f_quartic_of)
  k_quartic_of : PySem.W.keepIn K (.ref q.f_quartic_of) = true
  g_law_made : mg "_law_made" = some (.ref q.f_law_made)
  k_law_made : PySem.W.keepIn K (.ref q.f_law_made) = true
  g_law_terms : mg "_law_terms" = some (.ref q.f_law_terms)
  k_law_terms : PySem.W.keepIn K (.ref q.f_law_terms) = true
  g_law_only : mg "_law_only" = some (.ref q.f_law_only)
  k_law_only : PySem.W.keepIn K (.ref q.f_law_only) = true
  g_hessian : mg "_hessian" = some (.ref q.f_hessian)
  k_hessian : PySem.W.keepIn K (.ref q.f_hessian) = true
  g_numbers_at : mg "_numbers_at" = some (.ref q.f_numbers_at)
  k_numbers_at : PySem.W.keepIn K (.ref q.f_numbers_at) = true
  g_quartic : mg "quartic" = some (.ref q.f_quartic)
  k_quartic : PySem.W.keepIn K (.ref q.f_quartic) = true
  g_step : mg "_step" = some (.ref q.f_step)
  k_step : PySem.W.keepIn K (.ref q.f_step) = true
  g_is_whole : mg "_is_whole" = some (.ref q.f_is_whole)
  k_is_whole : PySem.W.keepIn K (.ref q.f_is_whole) = true
  g_is_point : mg "is_point" = some (.ref q.f_is_point)
  k_is_point : PySem.W.keepIn K (.ref q.f_is_point) = true
  g_check_point : mg "check_point" = some (.ref q.f_check_point)
  k_check_point : PySem.W.keepIn K (.ref q.f_check_point) = true
  g_partner_equation : mg "partner_equation" = some (.ref q.f_partner_equation)
  k_partner_equation : PySem.W.keepIn K (.ref q.f_partner_equation) = true
  g_holds : mg "holds" = some (.ref q.f_holds)
  k_holds : PySem.W.keepIn K (.ref q.f_holds) = true
  g_check_pair : mg "check_pair" = some (.ref q.f_check_pair)
  k_check_pair : PySem.W.keepIn K (.ref q.f_check_pair) = true
  g_other_root : mg "other_root" = some (.ref q.f_other_root)
  k_other_root : PySem.W.keepIn K (.ref q.f_other_root) = true
  g_lowest : mg "lowest" = some (.ref q.f_lowest)
  k_lowest : PySem.W.keepIn K (.ref q.f_lowest) = true
  g_other_partner : mg "_other_partner" = some (.ref q.f_other_partner)
  k_other_partner : PySem.W.keepIn K (.ref q.f_other_partner) = true
  g_members : mg "_members" = some (.ref q.f_members)
  k_members : PySem.W.keepIn K (.ref q.f_members) = true
  g_chain : mg "chain" = some (.ref q.f_chain)
  k_chain : PySem.W.keepIn K (.ref q.f_chain) = true
  g_multiples : mg "multiples" = some (.ref q.f_multiples)
  k_multiples : PySem.W.keepIn K (.ref q.f_multiples) = true
  g_step_numbers : mg "step_numbers" = some (.ref q.f_step_numbers)
  k_step_numbers : PySem.W.keepIn K (.ref q.f_step_numbers) = true
  g_law_right : mg "_law_right" = some (.ref q.f_law_right)
  k_law_right : PySem.W.keepIn K (.ref q.f_law_right) = true
  g_law : mg "law" = some (.ref q.f_law)
  k_law : PySem.W.keepIn K (.ref q.f_law) = true
  n_abs : mg "abs" = none
  n_bool : mg "bool" = none
  n_enumerate : mg "enumerate" = none
  n_int : mg "int" = none
  n_isinstance : mg "isinstance" = none
  n_len : mg "len" = none
  n_list : mg "list" = none
  n_max : mg "max" = none
  n_min : mg "min" = none
  n_range : mg "range" = none
  n_sum : mg "sum" = none
  n_tuple : mg "tuple" = none
  n_zip : mg "zip" = none
  x_gcd : mg "gcd" = some (.builtin "math.gcd")
  g_Bent : mg "Bent" = some (.ref a.c_Bent)
  g_InvalidNumber : mg "InvalidNumber" = some (.ref a.c_InvalidNumber)
  g_InvalidPoint : mg "InvalidPoint" = some (.ref a.c_InvalidPoint)
  g_NotPair : mg "NotPair" = some (.ref a.c_NotPair)
  g_Relation : mg "Relation" = some (.ref a.c_Relation)
  g_ENDLESS : mg "ENDLESS" = some (.ref a.c_ENDLESS)
  g_MOST_STEPS : ∃ t, mg "MOST_STEPS" = some (.int 12 t)
  i_Bent : PySem.W.findIn K (.ref a.c_Bent) "__init__" = some (some (.ref q.f_init))
  e_Bent : ErrC K a.c_Bent
  i_InvalidNumber : PySem.W.findIn K (.ref a.c_InvalidNumber) "__init__" = some (some (.ref q.f_init))
  e_InvalidNumber : ErrC K a.c_InvalidNumber
  i_InvalidPoint : PySem.W.findIn K (.ref a.c_InvalidPoint) "__init__" = some (some (.ref q.f_init))
  e_InvalidPoint : ErrC K a.c_InvalidPoint
  i_NotPair : PySem.W.findIn K (.ref a.c_NotPair) "__init__" = some (some (.ref q.f_init))
  e_NotPair : ErrC K a.c_NotPair
  ti : PySem.W.typeIn K (.ref q.f_init) = some (.type "function")
  rm : Mk K a.c_Relation q.f_Relation_init
  rc : Cls K a.c_Relation
  rn : NoAttr K a.c_Relation "_numbers"
  rp : PropOf K a.c_Relation "numbers" q.p_numbers q.f_Relation_numbers
  v_ENDLESS : ∀ B, Dd K B (.ref a.c_ENDLESS) (.tuple [(.int 1), (.int 0)])
section
variable {P : Program} {w : World} {K : PySem.W.Frag} {mg : Str → Option Value} {base : Heap} {a : Ad} {q : Fs}
theorem ok_init {fd : FuncData} (Fu : Fun K "__init__" "ChainError.__init__" s_init q.f_init fd) : FnOk P w K mg base CX0 1 q.f_init fd ["self", "value"] (spInit K) := by
  refine Fu.ok sc_init spInit_len (fun cdv A outer s H vs Q E hr h => ⟨tInit K, ?_, run_init h⟩)
  exact pss_one (ps_ost (pv 0) (pv 1))
theorem ok_law_pool {fd : FuncData} (Fu : Fun K "_law_pool" "_law_pool" s_law_pool q.f_law_pool fd) (T : Txt K mg a q) : FnOk P w K mg base CX0 1 q.f_law_pool fd ["script", "spot"] (spD ⟨K, a.c_Relation, a.tabs⟩ (F_law_pool a)) := by
  refine Fu.ok sc_law_pool (spD_len (len_law_pool a)) (fun cdv A outer s H vs Q E hr h => ⟨t_law_pool ⟨K, a.c_Relation, a.tabs⟩ a, ?_, body_of (ls_law_pool (G := ⟨K, a.c_Relation, a.tabs⟩) (a := a)) h⟩)
  exact (pss_cons (ps_set (i := 2) sc_law_pool.nd rfl (Or.inl rfl) pe_int)
    (pss_cons (ps_if (pt_cmpR op_ltU (pv 1) (pe_callB cr_len (by rfl) T.n_len (by decide +kernel) (pa_cons (pv 0) pa_nil)) (nomark _)) (pss_one (ps_set (i := 2) sc_law_pool.nd rfl (Or.inl rfl) (pe_ix ix_seq (pv 0) (pv 1) (fun _ _ => rfl)))) pss_nil)
    (pss_one (ps_ret (pe_lst (pa_cons (pe_callB (cr_mx rfl) (by rfl) T.n_max (by decide +kernel) (pa_cons pe_int (pa_cons (pe_op op_subU (pe_callB cr_abs (by rfl) T.n_abs (by decide +kernel) (pa_cons (pv 2) pa_nil)) (pe_op op_powU pe_int pe_int)) pa_nil))) (pa_cons (pe_op op_addU (pe_op op_modU (pe_callTy cr_int (by rfl) T.n_int (by decide +kernel) (pa_cons (pv 2) pa_nil)) pe_int) (pe_op op_mulU pe_int (pe_op op_addU (pv 1) pe_int))) (pa_cons pe_int pa_nil))))))))
theorem ok_law_draw {fd : FuncData} (Fu : Fun K "_law_draw" "_law_draw" s_law_draw q.f_law_draw fd) (T : Txt K mg a q) : FnOk P w K mg base CX0 1 q.f_law_draw fd ["pool", "span"] (spD ⟨K, a.c_Relation, a.tabs⟩ (F_law_draw a)) := by
  refine Fu.ok sc_law_draw (spD_len (len_law_draw a)) (fun cdv A outer s H vs Q E hr h => ⟨t_law_draw ⟨K, a.c_Relation, a.tabs⟩ a, ?_, body_of (ls_law_draw (G := ⟨K, a.c_Relation, a.tabs⟩) (a := a)) h⟩)
  exact (pss_cons (ps_if (pt_cmpR op_gtU (pe_ix ix_seq (pv 0) pe_int (fun _ _ => rfl)) pe_int (nomark _)) (pss_cons (ps_set (i := 2) sc_law_draw.nd rfl (Or.inl rfl) (pe_op op_modU (pe_callTy cr_int (by rfl) T.n_int (by decide +kernel) (pa_cons (pe_ix ix_seq (pv 0) pe_int (fun _ _ => rfl)) pa_nil)) (pv 1)))
    (pss_cons (ps_asg (pe_op op_fdivU (pe_ix ix_seq (pv 0) pe_int (fun _ _ => rfl)) (pv 1)) (pg_sub (pv 0) pe_int set_list))
    (pss_one (ps_ret (pv 2))))) pss_nil)
    (pss_cons (ps_asg (pe_op op_addU (pe_ix ix_seq (pv 0) pe_int (fun _ _ => rfl)) pe_int) (pg_sub (pv 0) pe_int set_list))
    (pss_cons (ps_set (i := 3) sc_law_draw.nd rfl (Or.inl rfl) (pe_op op_modU (pe_callTy cr_int (by rfl) T.n_int (by decide +kernel) (pa_cons (pe_op op_powU (pe_op op_addU (pe_ix ix_seq (pv 0) pe_int (fun _ _ => rfl)) (pe_op op_mulU pe_int (pe_ix ix_seq (pv 0) pe_int (fun _ _ => rfl)))) pe_int) pa_nil)) pe_int))
    (pss_cons (ps_set (i := 3) sc_law_draw.nd rfl (Or.inl rfl) (pe_op op_modU (pe_callTy cr_int (by rfl) T.n_int (by decide +kernel) (pa_cons (pe_op op_powU (pe_op op_addU (pv 3) (pe_op op_mulU pe_int (pe_ix ix_seq (pv 0) pe_int (fun _ _ => rfl)))) pe_int) pa_nil)) pe_int))
    (pss_one (ps_ret (pe_op op_modU (pe_callTy cr_int (by rfl) T.n_int (by decide +kernel) (pa_cons (pe_op op_fdivU (pv 3) pe_int) pa_nil)) (pv 1))))))))
theorem ok_law_tate {fd : FuncData} (Fu : Fun K "_law_tate" "_law_tate" s_law_tate q.f_law_tate fd) (T : Txt K mg a q)
    {fd_law_draw : FuncData} (O_law_draw : FnOk P w K mg base CX0 1 q.f_law_draw fd_law_draw ["pool", "span"] (spD ⟨K, a.c_Relation, a.tabs⟩ (F_law_draw a))) (b_law_draw : Binds K fd_law_draw ["pool", "span"] []) : FnOk P w K mg base CX0 2 q.f_law_tate fd ["pool"] (spD ⟨K, a.c_Relation, a.tabs⟩ (F_law_tate a)) := by
  refine Fu.ok sc_law_tate (spD_len (len_law_tate a)) (fun cdv A outer s H vs Q E hr h => ⟨t_law_tate ⟨K, a.c_Relation, a.tabs⟩ a, ?_, body_of (ls_law_tate (G := ⟨K, a.c_Relation, a.tabs⟩) (a := a)) h⟩)
  exact (pss_cons (ps_par rfl sc_law_tate.nd rfl rfl (by decide) rfl rfl (pa_cons (pe_op op_subU (pe_call O_law_draw (hr.mono (by decide)) rfl T.g_law_draw T.k_law_draw b_law_draw .nil pass0 (pa_cons (pv 0) (pa_cons pe_int pa_nil))) pe_int) (pa_cons (pe_op op_addU pe_int (pe_call O_law_draw (hr.mono (by decide)) rfl T.g_law_draw T.k_law_draw b_law_draw .nil pass0 (pa_cons (pv 0) (pa_cons pe_int pa_nil)))) pa_nil)) (by rfl))
    (pss_cons (ps_par3 rfl sc_law_tate.nd rfl rfl rfl (by decide) (by decide) (by decide) rfl rfl rfl (pa_cons (pe_ix ix_seq (pe_lst (pa_cons pe_int (pa_cons pe_int (pa_cons pe_int (pa_cons pe_int (pa_cons pe_int (pa_cons pe_int (pa_cons pe_int pa_nil)))))))) (pe_call O_law_draw (hr.mono (by decide)) rfl T.g_law_draw T.k_law_draw b_law_draw .nil pass0 (pa_cons (pv 0) (pa_cons pe_int pa_nil))) (fun _ _ => rfl)) (pa_cons (pe_op op_subU (pv 1) (pv 2)) (pa_cons (pe_op op_subU (pe_op op_mulU pe_int (pv 1)) (pv 2)) pa_nil))) (by rfl))
    (pss_cons (ps_asg (pe_tup (pa_cons (pv 1) (pa_cons (pv 2) (pa_cons (pv 1) (pa_cons (pv 2) pa_nil))))) (pg_tup rfl (pgs_cons (pg_name (i := 6) sc_law_tate.nd rfl (Or.inl rfl)) (pgs_cons (pg_name (i := 7) sc_law_tate.nd rfl (Or.inl rfl)) (pgs_cons (pg_name (i := 8) sc_law_tate.nd rfl (Or.inl rfl)) (pgs_cons (pg_name (i := 9) sc_law_tate.nd rfl (Or.inl rfl)) pgs_nil))))))
    (pss_cons (ps_if (pt_cmpR (op_eqU hr.units) (pv 3) pe_int (nomark _)) (pss_one (ps_par rfl sc_law_tate.nd rfl rfl (by decide) rfl rfl (pa_cons (pe_op op_mulU (pv 1) (pe_op op_addU (pv 2) (pv 1))) (pa_cons (pe_op op_mulU (pv 2) (pv 2)) pa_nil)) (by rfl))) pss_nil)
    (pss_cons (ps_if (pt_cmpR (op_eqU hr.units) (pv 3) pe_int (nomark _)) (pss_cons (ps_par rfl sc_law_tate.nd rfl rfl (by decide) rfl rfl (pa_cons (pe_op op_mulU (pe_op op_mulU (pv 1) (pv 1)) (pv 4)) (pa_cons (pe_op op_mulU (pe_op op_mulU (pv 2) (pv 2)) (pv 2)) pa_nil)) (by rfl))
    (pss_one (ps_par rfl sc_law_tate.nd rfl rfl (by decide) rfl rfl (pa_cons (pe_op op_mulU (pv 1) (pv 4)) (pa_cons (pe_op op_mulU (pv 2) (pv 2)) pa_nil)) (by rfl)))) pss_nil)
    (pss_cons (ps_if (pt_cmpR (op_eqU hr.units) (pv 3) pe_int (nomark _)) (pss_cons (ps_par rfl sc_law_tate.nd rfl rfl (by decide) rfl rfl (pa_cons (pe_op op_mulU (pv 5) (pv 4)) (pa_cons (pe_op op_mulU (pv 2) (pv 2)) pa_nil)) (by rfl))
    (pss_one (ps_par rfl sc_law_tate.nd rfl rfl (by decide) rfl rfl (pa_cons (pv 6) (pa_cons (pe_op op_mulU (pv 1) (pv 2)) pa_nil)) (by rfl)))) pss_nil)
    (pss_cons (ps_if (pt_cmpR (op_eqU hr.units) (pv 3) pe_int (nomark _)) (pss_cons (ps_par rfl sc_law_tate.nd rfl rfl (by decide) rfl rfl (pa_cons (pe_op op_mulU (pe_op op_mulU (pv 1) (pv 1)) (pv 4)) (pa_cons (pe_op op_mulU (pe_op op_mulU (pv 2) (pv 2)) (pv 2)) pa_nil)) (by rfl))
    (pss_cons (ps_set (i := 6) sc_law_tate.nd rfl (Or.inl rfl) (pe_op op_mulU (pv 8) (pe_op op_addU (pe_op op_mulU (pv 1) (pv 4)) (pe_op op_mulU (pv 2) (pv 2)))))
    (pss_one (ps_set (i := 7) sc_law_tate.nd rfl (Or.inl rfl) (pe_op op_mulU (pe_op op_mulU (pv 9) (pv 2)) (pv 2)))))) pss_nil)
    (pss_cons (ps_if (pt_cmpR (op_eqU hr.units) (pv 3) pe_int (nomark _)) (pss_cons (ps_set (i := 10) sc_law_tate.nd rfl (Or.inl rfl) (pe_op op_subU (pe_op op_mulU (pv 1) (pv 2)) (pe_op op_mulU (pv 4) (pv 4))))
    (pss_cons (ps_par rfl sc_law_tate.nd rfl rfl (by decide) rfl rfl (pa_cons (pe_op op_mulU (pe_op op_mulU (pv 1) (pv 5)) (pv 4)) (pa_cons (pe_op op_mulU (pv 2) (pv 10)) pa_nil)) (by rfl))
    (pss_one (ps_par rfl sc_law_tate.nd rfl rfl (by decide) rfl rfl (pa_cons (pe_op op_mulU (pe_op op_mulU (pv 8) (pv 1)) (pv 1)) (pa_cons (pe_op op_mulU (pv 9) (pv 10)) pa_nil)) (by rfl))))) pss_nil)
    (pss_cons (ps_if (pt_cmpR (op_eqU hr.units) (pv 3) pe_int (nomark _)) (pss_cons (ps_set (i := 8) sc_law_tate.nd rfl (Or.inl rfl) (pe_op op_mulU (pe_op op_addU (pe_op op_mulU (pe_op op_mulU pe_int (pv 1)) (pv 4)) (pe_op op_mulU (pv 2) (pv 2))) (pv 1)))
    (pss_cons (ps_set (i := 8) sc_law_tate.nd rfl (Or.inl rfl) (pe_op op_subU pe_int (pe_op op_mulU (pv 8) (pv 5))))
    (pss_cons (ps_set (i := 9) sc_law_tate.nd rfl (Or.inl rfl) (pe_op op_mulU (pe_op op_mulU (pe_op op_mulU (pv 2) (pv 4)) (pv 4)) (pv 4)))
    (pss_cons (ps_set (i := 6) sc_law_tate.nd rfl (Or.inl rfl) (pe_op op_subU pe_int (pe_op op_mulU (pv 8) (pe_op op_addU (pe_op op_mulU (pe_op op_mulU pe_int (pv 1)) (pv 4)) (pe_op op_mulU (pv 2) (pv 2))))))
    (pss_one (ps_set (i := 7) sc_law_tate.nd rfl (Or.inl rfl) (pe_op op_mulU (pe_op op_mulU (pv 9) (pv 2)) (pv 4)))))))) pss_nil)
    (pss_one (ps_ret (pe_tup (pa_cons (pe_lst (pa_cons (pe_op op_mulU (pe_op op_mulU (pe_op op_mulU (pv 7) (pv 7)) (pv 7)) (pv 9)) (pa_cons pe_int (pa_cons pe_int (pa_cons (pe_op op_mulU (pe_op op_mulU (pe_op op_mulU (pv 6) (pv 7)) (pv 7)) (pe_op op_subU (pv 9) (pv 8))) (pa_cons (pe_op op_subU pe_int (pe_op op_mulU (pe_op op_mulU (pe_op op_mulU (pv 6) (pv 6)) (pv 7)) (pv 9))) (pa_cons (pe_op op_mulU (pe_op op_mulU (pe_op op_mulU (pv 6) (pv 6)) (pv 6)) (pv 9)) pa_nil))))))) (pa_cons (pv 3) pa_nil))))))))))))))
theorem ok_law_at {fd : FuncData} (Fu : Fun K "_law_at" "_law_at" s_law_at q.f_law_at fd) (T : Txt K mg a q) : FnOk P w K mg base CX0 1 q.f_law_at fd ["numbers_here", "one_here", "two_here"] (spD ⟨K, a.c_Relation, a.tabs⟩ (F_law_at a)) := by
  refine Fu.ok sc_law_at (spD_len (len_law_at a)) (fun cdv A outer s H vs Q E hr h => ⟨t_law_at ⟨K, a.c_Relation, a.tabs⟩ a, ?_, body_of (ls_law_at (G := ⟨K, a.c_Relation, a.tabs⟩) (a := a)) h⟩)
  exact (pss_cons (ps_asg (pe_tup (pa_cons (pv 1) (pa_cons (pv 2) pa_nil))) (pg_tup rfl (pgs_cons (pg_tup rfl (pgs_cons (pg_name (i := 3) sc_law_at.nd rfl (Or.inl rfl)) (pgs_cons (pg_name (i := 4) sc_law_at.nd rfl (Or.inl rfl)) pgs_nil))) (pgs_cons (pg_tup rfl (pgs_cons (pg_name (i := 5) sc_law_at.nd rfl (Or.inl rfl)) (pgs_cons (pg_name (i := 6) sc_law_at.nd rfl (Or.inl rfl)) pgs_nil))) pgs_nil))))
    (pss_cons (ps_set (i := 7) sc_law_at.nd rfl (Or.inl rfl) (pe_lst (pa_cons (pe_op op_mulU (pe_op op_mulU (pe_op op_mulU (pv 3) (pv 3)) (pv 5)) (pv 5)) (pa_cons (pe_op op_mulU (pe_op op_mulU (pv 3) (pv 5)) (pe_op op_addU (pe_op op_mulU (pv 3) (pv 6)) (pe_op op_mulU (pv 5) (pv 4)))) (pa_cons (pe_op op_addU (pe_op op_mulU (pe_op op_mulU (pe_op op_mulU (pv 3) (pv 3)) (pv 6)) (pv 6)) (pe_op op_mulU (pe_op op_mulU (pe_op op_mulU (pv 5) (pv 5)) (pv 4)) (pv 4))) pa_nil)))))
    (pss_cons (ps_set (i := 7) sc_law_at.nd rfl (Or.inl rfl) (pe_op op_addU (pv 7) (pe_lst (pa_cons (pe_op op_mulU (pe_op op_mulU (pe_op op_mulU (pv 3) (pv 4)) (pv 5)) (pv 6)) (pa_cons (pe_op op_mulU (pe_op op_mulU (pv 4) (pv 6)) (pe_op op_addU (pe_op op_mulU (pv 3) (pv 6)) (pe_op op_mulU (pv 5) (pv 4)))) (pa_cons (pe_op op_mulU (pe_op op_mulU (pe_op op_mulU (pv 4) (pv 4)) (pv 6)) (pv 6)) pa_nil))))))
    (pss_one (ps_ret (pe_callB (cr_sum rfl) (by rfl) T.n_sum (by decide +kernel) (pa_cons (pe_lc (own := [("factor", 8), ("term", 9)]) (g := (gTup K 2 (gCons (gName 8) (gCons (gName 9) gNil)))) (tt := tYes) rfl sc_law_at.nd (pi_zip rfl T.n_zip (pa_cons (pv 0) (pa_cons (pv 7) pa_nil))) (blkOk_by (N := N_law_at) (sc := defScope s_law_at) (by decide +kernel)) (fun _ _ _ _ _ => (pg_tup rfl (pgs_cons (pg_name (i := 8) sc_law_at.nd rfl (by first | exact Or.inl rfl | exact Or.inr rfl)) (pgs_cons (pg_name (i := 9) sc_law_at.nd rfl (by first | exact Or.inl rfl | exact Or.inr rfl)) pgs_nil)))) (fun _ _ _ _ _ => pts_nil) (fun _ _ _ _ _ => (pe_op op_mulU (pv 8) (pv 9)))) pa_nil)))))))
theorem ok_law_form {fd : FuncData} (Fu : Fun K "_law_form" "_law_form" s_law_form q.f_law_form fd) (T : Txt K mg a q)
    {fd_law_at : FuncData} (O_law_at : FnOk P w K mg base CX0 1 q.f_law_at fd_law_at ["numbers_here", "one_here", "two_here"] (spD ⟨K, a.c_Relation, a.tabs⟩ (F_law_at a))) (b_law_at : Binds K fd_law_at ["numbers_here", "one_here", "two_here"] []) : FnOk P w K mg base CX0 2 q.f_law_form fd ["numbers_here", "one_here"] (spD ⟨K, a.c_Relation, a.tabs⟩ (F_law_form a)) := by
  refine Fu.ok sc_law_form (spD_len (len_law_form a)) (fun cdv A outer s H vs Q E hr h => ⟨t_law_form ⟨K, a.c_Relation, a.tabs⟩ a, ?_, body_of (ls_law_form (G := ⟨K, a.c_Relation, a.tabs⟩) (a := a)) h⟩)
  exact (pss_cons (ps_par rfl sc_law_form.nd rfl rfl (by decide) rfl rfl (pa_cons (pe_call O_law_at (hr.mono (by decide)) rfl T.g_law_at T.k_law_at b_law_at .nil pass0 (pa_cons (pv 0) (pa_cons (pv 1) (pa_cons (pe_tup (pa_cons pe_int (pa_cons pe_int pa_nil))) pa_nil)))) (pa_cons (pe_call O_law_at (hr.mono (by decide)) rfl T.g_law_at T.k_law_at b_law_at .nil pass0 (pa_cons (pv 0) (pa_cons (pv 1) (pa_cons (pe_tup (pa_cons pe_int (pa_cons pe_int pa_nil))) pa_nil)))) pa_nil)) (by rfl))
    (pss_one (ps_ret (pe_lst (pa_cons (pv 2) (pa_cons (pe_op op_subU (pe_op op_subU (pe_call O_law_at (hr.mono (by decide)) rfl T.g_law_at T.k_law_at b_law_at .nil pass0 (pa_cons (pv 0) (pa_cons (pv 1) (pa_cons (pe_tup (pa_cons pe_int (pa_cons pe_int pa_nil))) pa_nil)))) (pv 2)) (pv 3)) (pa_cons (pv 3) pa_nil)))))))
theorem ok_law_five {fd : FuncData} (Fu : Fun K "_law_five" "_law_five" s_law_five q.f_law_five fd) (T : Txt K mg a q)
    {fd_law_form : FuncData} (O_law_form : FnOk P w K mg base CX0 2 q.f_law_form fd_law_form ["numbers_here", "one_here"] (spD ⟨K, a.c_Relation, a.tabs⟩ (F_law_form a))) (b_law_form : Binds K fd_law_form ["numbers_here", "one_here"] []) : FnOk P w K mg base CX0 3 q.f_law_five fd ["numbers_here"] (spD ⟨K, a.c_Relation, a.tabs⟩ (F_law_five a)) := by
  refine Fu.ok sc_law_five (spD_len (len_law_five a)) (fun cdv A outer s H vs Q E hr h => ⟨t_law_five ⟨K, a.c_Relation, a.tabs⟩ a, ?_, body_of (ls_law_five (G := ⟨K, a.c_Relation, a.tabs⟩) (a := a)) h⟩)
  exact (pss_cons (ps_set (i := 1) sc_law_five.nd rfl (Or.inl rfl) (pe_lst pa_nil))
    (pss_cons (ps_for PassesOwn.never rfl (pi_tup (pe_tup (pa_cons pe_int (pa_cons pe_int (pa_cons (pe_un un_negU pe_int) (pa_cons pe_int (pa_cons (pe_un un_negU pe_int) pa_nil))))))) (pg_name (i := 2) sc_law_five.nd rfl (Or.inl rfl)) (pss_cons (ps_asg (pe_call O_law_form (hr.mono (by decide)) rfl T.g_law_form T.k_law_form b_law_form .nil pass0 (pa_cons (pv 0) (pa_cons (pe_tup (pa_cons (pv 2) (pa_cons pe_int pa_nil))) pa_nil))) (pg_unl rfl (pgs_cons (pg_name (i := 3) sc_law_five.nd rfl (Or.inl rfl)) (pgs_cons (pg_name (i := 4) sc_law_five.nd rfl (Or.inl rfl)) (pgs_cons (pg_name (i := 5) sc_law_five.nd rfl (Or.inl rfl)) pgs_nil)))))
    (pss_one (ps_expr (pe_bm PySem.F.plainAttrs_list PySem.F.slot_list_append PySem.F.type_list_append mt_append (pv 1) (pa_cons (pe_op op_subU (pe_op op_mulU (pv 4) (pv 4)) (pe_op op_mulU (pe_op op_mulU pe_int (pv 3)) (pv 5))) pa_nil))))))
    (pss_cons (ps_set (i := 6) sc_law_five.nd rfl (Or.inl rfl) (pe_op op_subU (pe_op op_addU (pe_ix ix_seq (pv 1) pe_int (fun _ _ => rfl)) (pe_ix ix_seq (pv 1) pe_int (fun _ _ => rfl))) (pe_op op_mulU pe_int (pe_ix ix_seq (pv 1) pe_int (fun _ _ => rfl)))))
    (pss_cons (ps_set (i := 7) sc_law_five.nd rfl (Or.inl rfl) (pe_op op_subU (pe_op op_addU (pe_ix ix_seq (pv 1) pe_int (fun _ _ => rfl)) (pe_ix ix_seq (pv 1) pe_int (fun _ _ => rfl))) (pe_op op_mulU pe_int (pe_ix ix_seq (pv 1) pe_int (fun _ _ => rfl)))))
    (pss_cons (ps_par rfl sc_law_five.nd rfl rfl (by decide) rfl rfl (pa_cons (pe_op op_subU (pe_ix ix_seq (pv 1) pe_int (fun _ _ => rfl)) (pe_ix ix_seq (pv 1) pe_int (fun _ _ => rfl))) (pa_cons (pe_op op_subU (pe_ix ix_seq (pv 1) pe_int (fun _ _ => rfl)) (pe_ix ix_seq (pv 1) pe_int (fun _ _ => rfl))) pa_nil)) (by rfl))
    (pss_cons (ps_par rfl sc_law_five.nd rfl rfl (by decide) rfl rfl (pa_cons (pe_op op_fdivU (pe_op op_subU (pv 7) (pe_op op_mulU pe_int (pv 6))) pe_int) (pa_cons (pe_op op_fdivU (pe_op op_subU (pv 9) (pe_op op_mulU pe_int (pv 8))) pe_int) pa_nil)) (by rfl))
    (pss_one (ps_ret (pe_lst (pa_cons (pv 10) (pa_cons (pv 11) (pa_cons (pe_op op_subU (pe_op op_fdivU (pv 6) pe_int) (pv 10)) (pa_cons (pe_op op_subU (pe_op op_fdivU (pv 8) pe_int) (pv 11)) (pa_cons (pe_ix ix_seq (pv 1) pe_int (fun _ _ => rfl)) pa_nil))))))))))))))
theorem ok_law_plain {fd : FuncData} (Fu : Fun K "_law_plain" "_law_plain" s_law_plain q.f_law_plain fd) (T : Txt K mg a q)
    (NS : base.NoSeer) (HT : P.given.tree = none) : FnOk P w K mg base CX0 38 q.f_law_plain fd ["numbers_here"] (spD ⟨K, a.c_Relation, a.tabs⟩ (F_law_plain a)) := by
  refine Fu.ok sc_law_plain (spD_len (len_law_plain a)) (fun cdv A outer s H vs Q E hr h => ⟨t_law_plain ⟨K, a.c_Relation, a.tabs⟩ a, ?_, body_of (ls_law_plain (G := ⟨K, a.c_Relation, a.tabs⟩) (a := a)) h⟩)
  exact (pss_cons (ps_set (i := 1) sc_law_plain.nd rfl (by first | exact Or.inr rfl | exact Or.inl rfl) pe_int)
    (pss_cons (ps_for PassesOwn.never rfl (pi_list (pv 0)) (pg_name (i := 2) sc_law_plain.nd rfl (by first | exact Or.inl rfl | exact Or.inr rfl)) (pss_cons (ps_par rfl sc_law_plain.nd rfl rfl (by decide) rfl rfl (pa_cons (pe_callB cr_abs (by rfl) T.n_abs (by decide +kernel) (pa_cons (pv 2) pa_nil)) (pa_cons (pv 1) pa_nil)) (by rfl))
    (pss_cons (ps_while PassesOwn.never (pt_cmpR (op_neU hr.units) (pv 4) pe_int (nomark _)) (pss_one (ps_par rfl sc_law_plain.nd rfl rfl (by decide) rfl rfl (pa_cons (pv 4) (pa_cons (pe_op op_modU (pe_callTy cr_int (by rfl) T.n_int (by decide +kernel) (pa_cons (pv 3) pa_nil)) (pv 4)) pa_nil)) (by rfl))))
    (pss_one (ps_set (i := 1) sc_law_plain.nd rfl (by first | exact Or.inr rfl | exact Or.inl rfl) (pv 3))))))
    (pss_cons (ps_if (pt_cmpR op_ltU (pe_ix ix_seq (pe_lc (own := [("some", 2)]) (g := (gName 2)) (tt := _) rfl sc_law_plain.nd (pi_list (pv 0)) (blkOk_by (N := N_law_plain) (sc := defScope s_law_plain) (by decide +kernel)) (fun _ _ _ _ _ => (pg_name (i := 2) sc_law_plain.nd rfl (by first | exact Or.inl rfl | exact Or.inr rfl))) (fun _ _ _ _ _ => (pts_one (pt_cmpR (op_neU hr.units) (pv 2) pe_int (nomark _)))) (fun _ _ _ _ _ => (pv 2))) pe_int (fun _ _ => rfl)) pe_int (nomark _)) (pss_one (ps_set (i := 1) sc_law_plain.nd rfl (by first | exact Or.inr rfl | exact Or.inl rfl) (pe_op op_subU pe_int (pv 1)))) pss_nil)
    (pss_one (ps_ret (pe_lc (own := [("some", 2)]) (g := (gName 2)) (tt := tYes) rfl sc_law_plain.nd (pi_list (pv 0)) (blkOk_by (N := N_law_plain) (sc := defScope s_law_plain) (by decide +kernel)) (fun _ _ _ _ _ => (pg_name (i := 2) sc_law_plain.nd rfl (by first | exact Or.inl rfl | exact Or.inr rfl))) (fun _ _ _ _ _ => pts_nil) (fun _ _ _ _ _ => (pe_op (op_fdivP NS HT (hr.mono (by decide)) ⟨_, _, rfl, rfl, rfl, rfl, rfl⟩) (pv 2) (pv 1)))))))))
theorem ok_law_is_straight {fd : FuncData} (Fu : Fun K "_law_is_straight" "_law_is_straight" s_law_is_straight q.f_law_is_straight fd) (T : Txt K mg a q)
    {fd_law_five : FuncData} (O_law_five : FnOk P w K mg base CX0 3 q.f_law_five fd_law_five ["numbers_here"] (spD ⟨K, a.c_Relation, a.tabs⟩ (F_law_five a))) (b_law_five : Binds K fd_law_five ["numbers_here"] [])
    {fd_law_plain : FuncData} (O_law_plain : FnOk P w K mg base CX0 38 q.f_law_plain fd_law_plain ["numbers_here"] (spD ⟨K, a.c_Relation, a.tabs⟩ (F_law_plain a))) (b_law_plain : Binds K fd_law_plain ["numbers_here"] []) : FnOk P w K mg base CX0 39 q.f_law_is_straight fd ["numbers_here"] (spD ⟨K, a.c_Relation, a.tabs⟩ (F_law_is_straight a)) := by
  refine Fu.ok sc_law_is_straight (spD_len (len_law_is_straight a)) (fun cdv A outer s H vs Q E hr h => ⟨t_law_is_straight ⟨K, a.c_Relation, a.tabs⟩ a, ?_, body_of (ls_law_is_straight (G := ⟨K, a.c_Relation, a.tabs⟩) (a := a)) h⟩)
  exact (pss_cons (ps_set (i := 1) sc_law_is_straight.nd rfl (Or.inl rfl) (pe_call O_law_five (hr.mono (by decide)) rfl T.g_law_five T.k_law_five b_law_five .nil pass0 (pa_cons (pv 0) pa_nil)))
    (pss_cons (ps_if (PW.pt (pw_and (pt_cmpR (op_eqU hr.units) (pe_ix ix_seq (pv 1) pe_int (fun _ _ => rfl)) pe_int (nomark _)) (pw_and1 (pt_cmpR (op_eqU hr.units) (pe_ix ix_seq (pv 1) pe_int (fun _ _ => rfl)) pe_int (nomark _))))) (pss_one (ps_ret pe_bl)) pss_nil)
    (pss_cons (ps_set (i := 1) sc_law_is_straight.nd rfl (Or.inl rfl) (pe_ifExp (pt_cmpR (op_neU hr.units) (pe_ix ix_seq (pv 1) pe_int (fun _ _ => rfl)) pe_int (nomark _)) (pv 1) (pe_slice sl_list (pv 1) (po_some pe_int) po_none)))
    (pss_cons (ps_set (i := 2) sc_law_is_straight.nd rfl (by first | exact Or.inr rfl | exact Or.inl rfl) (pe_op op_subU (pe_callB cr_len (by rfl) T.n_len (by decide +kernel) (pa_cons (pv 1) pa_nil)) pe_int))
    (pss_cons (ps_par rfl sc_law_is_straight.nd rfl rfl (by decide) rfl rfl (pa_cons (pv 1) (pa_cons (pe_lc (own := [("spot", 5), ("some", 6)]) (g := (gTup K 2 (gCons (gName 5) (gCons (gName 6) gNil)))) (tt := tYes) rfl sc_law_is_straight.nd (pi_enum rfl T.n_enumerate (pa_cons (pe_slice sl_list (pv 1) po_none (po_some (pe_un un_negU pe_int))) pa_nil)) (blkOk_by (N := N_law_is_straight) (sc := defScope s_law_is_straight) (by decide +kernel)) (fun _ _ _ _ _ => (pg_tup rfl (pgs_cons (pg_name (i := 5) sc_law_is_straight.nd rfl (by first | exact Or.inl rfl | exact Or.inr rfl)) (pgs_cons (pg_name (i := 6) sc_law_is_straight.nd rfl (by first | exact Or.inl rfl | exact Or.inr rfl)) pgs_nil)))) (fun _ _ _ _ _ => pts_nil) (fun _ _ _ _ _ => (pe_op op_mulU (pe_op op_subU (pv 2) (pv 5)) (pv 6)))) pa_nil)) (by rfl))
    (pss_cons (ps_while PassesOwn.never (pt_cmpR op_gtU (pe_callB cr_len (by rfl) T.n_len (by decide +kernel) (pa_cons (pv 4) pa_nil)) pe_int (nomark _)) (pss_cons (ps_while PassesOwn.never (pt_cmpR op_geU (pe_callB cr_len (by rfl) T.n_len (by decide +kernel) (pa_cons (pv 3) pa_nil)) (pe_callB cr_len (by rfl) T.n_len (by decide +kernel) (pa_cons (pv 4) pa_nil)) (nomark _)) (pss_cons (ps_asg (pe_tup (pa_cons (pe_ix ix_seq (pv 3) pe_int (fun _ _ => rfl)) (pa_cons (pe_ix ix_seq (pv 4) pe_int (fun _ _ => rfl)) pa_nil))) (pg_tup rfl (pgs_cons (pg_name (i := 7) sc_law_is_straight.nd rfl (by first | exact Or.inl rfl | exact Or.inr rfl)) (pgs_cons (pg_name (i := 8) sc_law_is_straight.nd rfl (by first | exact Or.inl rfl | exact Or.inr rfl)) pgs_nil))))
    (pss_cons (ps_set (i := 9) sc_law_is_straight.nd rfl (Or.inl rfl) (pe_op op_addU (pv 4) (pe_op op_mulU (pe_lst (pa_cons pe_int pa_nil)) (pe_op op_subU (pe_callB cr_len (by rfl) T.n_len (by decide +kernel) (pa_cons (pv 3) pa_nil)) (pe_callB cr_len (by rfl) T.n_len (by decide +kernel) (pa_cons (pv 4) pa_nil))))))
    (pss_one (ps_set (i := 3) sc_law_is_straight.nd rfl (Or.inl rfl) (pe_slice sl_list (pe_lc (own := [("one_here", 10), ("two_here", 11)]) (g := (gTup K 2 (gCons (gName 10) (gCons (gName 11) gNil)))) (tt := tYes) rfl sc_law_is_straight.nd (pi_zip rfl T.n_zip (pa_cons (pv 3) (pa_cons (pv 9) pa_nil))) (blkOk_by (N := N_law_is_straight) (sc := defScope s_law_is_straight) (by decide +kernel)) (fun _ _ _ _ _ => (pg_tup rfl (pgs_cons (pg_name (i := 10) sc_law_is_straight.nd rfl (by first | exact Or.inl rfl | exact Or.inr rfl)) (pgs_cons (pg_name (i := 11) sc_law_is_straight.nd rfl (by first | exact Or.inl rfl | exact Or.inr rfl)) pgs_nil)))) (fun _ _ _ _ _ => pts_nil) (fun _ _ _ _ _ => (pe_op op_subU (pe_op op_mulU (pv 8) (pv 10)) (pe_op op_mulU (pv 7) (pv 11))))) (po_some pe_int) po_none))))))
    (pss_cons (ps_while PassesOwn.never (PW.pt (pw_and (pt_cmpR (op_neU hr.units) (pv 3) (pe_lst pa_nil) (nomark _)) (pw_and1 (pt_cmpR (op_eqU hr.units) (pe_ix ix_seq (pv 3) pe_int (fun _ _ => rfl)) pe_int (nomark _))))) (pss_one (ps_set (i := 3) sc_law_is_straight.nd rfl (Or.inl rfl) (pe_slice sl_list (pv 3) (po_some pe_int) po_none))))
    (pss_cons (ps_if (pt_cmpR (op_eqU hr.units) (pv 3) (pe_lst pa_nil) (nomark _)) (pss_one (ps_ret pe_bl)) pss_nil)
    (pss_one (ps_par rfl sc_law_is_straight.nd rfl rfl (by decide) rfl rfl (pa_cons (pv 4) (pa_cons (pe_call O_law_plain (hr.mono (by decide)) rfl T.g_law_plain T.k_law_plain b_law_plain .nil pass0 (pa_cons (pv 3) pa_nil)) pa_nil)) (by rfl)))))))
    (pss_one (ps_ret (pe_cmpR (op_neU hr.units) (pv 4) (pe_lst (pa_cons pe_int pa_nil)) (nomark _))))))))))
theorem ok_law_known {fd : FuncData} (Fu : Fun K "_law_known" "_law_known" s_law_known q.f_law_known fd) (T : Txt K mg a q)
    {fd_law_tate : FuncData} (O_law_tate : FnOk P w K mg base CX0 2 q.f_law_tate fd_law_tate ["pool"] (spD ⟨K, a.c_Relation, a.tabs⟩ (F_law_tate a))) (b_law_tate : Binds K fd_law_tate ["pool"] [])
    {fd_law_draw : FuncData} (O_law_draw : FnOk P w K mg base CX0 1 q.f_law_draw fd_law_draw ["pool", "span"] (spD ⟨K, a.c_Relation, a.tabs⟩ (F_law_draw a))) (b_law_draw : Binds K fd_law_draw ["pool", "span"] [])
    {fd_law_is_straight : FuncData} (O_law_is_straight : FnOk P w K mg base CX0 39 q.f_law_is_straight fd_law_is_straight ["numbers_here"] (spD ⟨K, a.c_Relation, a.tabs⟩ (F_law_is_straight a))) (b_law_is_straight : Binds K fd_law_is_straight ["numbers_here"] [])
    {fd_law_plain : FuncData} (O_law_plain : FnOk P w K mg base CX0 38 q.f_law_plain fd_law_plain ["numbers_here"] (spD ⟨K, a.c_Relation, a.tabs⟩ (F_law_plain a))) (b_law_plain : Binds K fd_law_plain ["numbers_here"] []) : FnOk P w K mg base CX0 40 q.f_law_known fd ["pool"] (spD ⟨K, a.c_Relation, a.tabs⟩ (F_law_known a)) := by
  refine Fu.ok sc_law_known (spD_len (len_law_known a)) (fun cdv A outer s H vs Q E hr h => ⟨t_law_known ⟨K, a.c_Relation, a.tabs⟩ a, ?_, body_of (ls_law_known (G := ⟨K, a.c_Relation, a.tabs⟩) (a := a)) h⟩)
  exact (pss_cons (ps_asg (pe_call O_law_tate (hr.mono (by decide)) rfl T.g_law_tate T.k_law_tate b_law_tate .nil pass0 (pa_cons (pv 0) pa_nil)) (pg_tup rfl (pgs_cons (pg_name (i := 1) sc_law_known.nd rfl (Or.inl rfl)) (pgs_cons (pg_name (i := 2) sc_law_known.nd rfl (Or.inl rfl)) pgs_nil))))
    (pss_cons (ps_if (PW.pt (pw_and (pt_cmpR (op_eqU hr.units) (pe_call O_law_draw (hr.mono (by decide)) rfl T.g_law_draw T.k_law_draw b_law_draw .nil pass0 (pa_cons (pv 0) (pa_cons pe_int pa_nil))) pe_int (nomark _)) (pw_and (pt_cmpR (op_neU hr.units) (pv 1) (pe_op op_mulU (pe_lst (pa_cons pe_int pa_nil)) pe_int) (nomark _)) (pw_and1 (pt_truth (pe_call O_law_is_straight (hr.mono (by decide)) rfl T.g_law_is_straight T.k_law_is_straight b_law_is_straight .nil pass0 (pa_cons (pv 1) pa_nil)) (by intro _; rfl)))))) (pss_cons (ps_set (i := 1) sc_law_known.nd rfl (Or.inl rfl) (pe_call O_law_plain (hr.mono (by decide)) rfl T.g_law_plain T.k_law_plain b_law_plain .nil pass0 (pa_cons (pv 1) pa_nil)))
    (pss_one (ps_if (pt_cmpR op_leU (pe_callB (cr_max rfl) (by rfl) T.n_max (by decide +kernel) (pa_cons (pe_lc (own := [("here", 3)]) (g := (gName 3)) (tt := tYes) rfl sc_law_known.nd (pi_list (pv 1)) (blkOk_by (N := N_law_known) (sc := defScope s_law_known) (by decide +kernel)) (fun _ _ _ _ _ => (pg_name (i := 3) sc_law_known.nd rfl (by first | exact Or.inl rfl | exact Or.inr rfl))) (fun _ _ _ _ _ => pts_nil) (fun _ _ _ _ _ => (pe_callB cr_abs (by rfl) T.n_abs (by decide +kernel) (pa_cons (pv 3) pa_nil)))) pa_nil)) (pe_op op_powU pe_int pe_int) (nomark _)) (pss_one (ps_ret (pe_tup (pa_cons (pv 1) (pa_cons (pe_tup (pa_cons pe_int (pa_cons pe_int pa_nil))) (pa_cons (pe_tup (pa_cons pe_int (pa_cons pe_int pa_nil))) (pa_cons (pv 2) pa_nil))))))) pss_nil))) pss_nil)
    (pss_cons (ps_set (i := 4) sc_law_known.nd rfl (Or.inl rfl) (pe_lst (pa_cons (pe_tup (pa_cons (pe_lst (pa_cons pe_int (pa_cons pe_int (pa_cons pe_int (pa_cons pe_int (pa_cons (pe_un un_negU pe_int) (pa_cons pe_int pa_nil))))))) (pa_cons pe_int pa_nil))) (pa_cons (pe_tup (pa_cons (pe_lst (pa_cons pe_int (pa_cons pe_int (pa_cons pe_int (pa_cons pe_int (pa_cons (pe_un un_negU pe_int) (pa_cons pe_int pa_nil))))))) (pa_cons pe_int pa_nil))) (pa_cons (pe_tup (pa_cons (pe_lst (pa_cons pe_int (pa_cons pe_int (pa_cons pe_int (pa_cons pe_int (pa_cons (pe_un un_negU pe_int) (pa_cons pe_int pa_nil))))))) (pa_cons pe_int pa_nil))) (pa_cons (pe_tup (pa_cons (pe_lst (pa_cons pe_int (pa_cons pe_int (pa_cons pe_int (pa_cons pe_int (pa_cons (pe_un un_negU pe_int) (pa_cons pe_int pa_nil))))))) (pa_cons pe_int pa_nil))) pa_nil))))))
    (pss_cons (ps_set (i := 4) sc_law_known.nd rfl (Or.inl rfl) (pe_op op_addU (pv 4) (pe_lst (pa_cons (pe_tup (pa_cons (pe_lst (pa_cons pe_int (pa_cons pe_int (pa_cons pe_int (pa_cons (pe_un un_negU pe_int) (pa_cons (pe_un un_negU pe_int) (pa_cons pe_int pa_nil))))))) (pa_cons pe_int pa_nil))) (pa_cons (pe_tup (pa_cons (pe_lst (pa_cons pe_int (pa_cons pe_int (pa_cons pe_int (pa_cons (pe_un un_negU pe_int) (pa_cons (pe_un un_negU pe_int) (pa_cons pe_int pa_nil))))))) (pa_cons pe_int pa_nil))) (pa_cons (pe_tup (pa_cons (pe_lst (pa_cons pe_int (pa_cons pe_int (pa_cons pe_int (pa_cons (pe_un un_negU pe_int) (pa_cons (pe_un un_negU pe_int) (pa_cons pe_int pa_nil))))))) (pa_cons pe_int pa_nil))) pa_nil))))))
    (pss_cons (ps_set (i := 4) sc_law_known.nd rfl (Or.inl rfl) (pe_op op_addU (pv 4) (pe_lst (pa_cons (pe_tup (pa_cons (pe_lst (pa_cons pe_int (pa_cons pe_int (pa_cons pe_int (pa_cons (pe_un un_negU pe_int) (pa_cons (pe_un un_negU pe_int) (pa_cons pe_int pa_nil))))))) (pa_cons pe_int pa_nil))) (pa_cons (pe_tup (pa_cons (pe_lst (pa_cons pe_int (pa_cons pe_int (pa_cons pe_int (pa_cons pe_int (pa_cons (pe_un un_negU pe_int) (pa_cons pe_int pa_nil))))))) (pa_cons pe_int pa_nil))) pa_nil)))))
    (pss_cons (ps_setLc (i := 4) (own := [("pair", 5)]) (g := (gName 5)) (tt := tYes) rfl sc_law_known.nd rfl rfl (sw_true rfl rfl rfl (by decide +kernel)) (pi_list (pe_op op_addU (pv 4) (pe_lst (pa_cons (pe_tup (pa_cons (pe_lst (pa_cons pe_int (pa_cons pe_int (pa_cons pe_int (pa_cons pe_int (pa_cons (pe_un un_negU pe_int) (pa_cons pe_int pa_nil))))))) (pa_cons pe_int pa_nil))) pa_nil)))) (blkOk_by (N := N_law_known) (sc := defScope s_law_known) (by decide +kernel)) (fun _ _ _ _ _ => (pg_name (i := 5) sc_law_known.nd rfl (by first | exact Or.inl rfl | exact Or.inr rfl))) (fun _ _ _ _ _ => pts_nil) (fun _ _ _ _ _ => (pe_tup (pa_cons (pe_ix ix_seq (pv 5) pe_int (fun _ _ => rfl)) (pa_cons (pe_tup (pa_cons pe_int (pa_cons pe_int pa_nil))) (pa_cons (pe_tup (pa_cons pe_int (pa_cons pe_int pa_nil))) (pa_cons (pe_ix ix_seq (pv 5) pe_int (fun _ _ => rfl)) pa_nil)))))))
    (pss_cons (ps_set (i := 4) sc_law_known.nd rfl (Or.inl rfl) (pe_op op_addU (pv 4) (pe_lst (pa_cons (pe_tup (pa_cons (pe_lst (pa_cons pe_int (pa_cons pe_int (pa_cons pe_int (pa_cons (pe_un un_negU pe_int) (pa_cons pe_int (pa_cons pe_int pa_nil))))))) (pa_cons (pe_tup (pa_cons pe_int (pa_cons pe_int pa_nil))) (pa_cons (pe_tup (pa_cons pe_int (pa_cons pe_int pa_nil))) (pa_cons pe_int pa_nil))))) (pa_cons (pe_tup (pa_cons (pe_lst (pa_cons pe_int (pa_cons pe_int (pa_cons pe_int (pa_cons (pe_un un_negU pe_int) (pa_cons pe_int (pa_cons pe_int pa_nil))))))) (pa_cons (pe_tup (pa_cons pe_int (pa_cons pe_int pa_nil))) (pa_cons (pe_tup (pa_cons pe_int (pa_cons pe_int pa_nil))) (pa_cons pe_int pa_nil))))) pa_nil)))))
    (pss_cons (ps_set (i := 4) sc_law_known.nd rfl (Or.inl rfl) (pe_op op_addU (pv 4) (pe_lst (pa_cons (pe_tup (pa_cons (pe_lst (pa_cons pe_int (pa_cons pe_int (pa_cons pe_int (pa_cons (pe_un un_negU pe_int) (pa_cons pe_int (pa_cons pe_int pa_nil))))))) (pa_cons (pe_tup (pa_cons pe_int (pa_cons pe_int pa_nil))) (pa_cons (pe_tup (pa_cons pe_int (pa_cons pe_int pa_nil))) (pa_cons pe_int pa_nil))))) (pa_cons (pe_tup (pa_cons (pe_lst (pa_cons pe_int (pa_cons pe_int (pa_cons pe_int (pa_cons (pe_un un_negU pe_int) (pa_cons pe_int (pa_cons pe_int pa_nil))))))) (pa_cons (pe_tup (pa_cons pe_int (pa_cons pe_int pa_nil))) (pa_cons (pe_tup (pa_cons pe_int (pa_cons pe_int pa_nil))) (pa_cons pe_int pa_nil))))) pa_nil)))))
    (pss_one (ps_ret (pe_ix ix_seq (pv 4) (pe_call O_law_draw (hr.mono (by decide)) rfl T.g_law_draw T.k_law_draw b_law_draw .nil pass0 (pa_cons (pv 0) (pa_cons pe_int pa_nil))) (fun _ _ => rfl))))))))))))
theorem ok_law_low {fd : FuncData} (Fu : Fun K "_law_low" "_law_low" s_law_low q.f_law_low fd) (T : Txt K mg a q) : FnOk P w K mg base CX0 1 q.f_law_low fd ["over", "under"] (spD ⟨K, a.c_Relation, a.tabs⟩ (F_law_low a)) := by
  refine Fu.ok sc_law_low (spD_len (len_law_low a)) (fun cdv A outer s H vs Q E hr h => ⟨t_law_low ⟨K, a.c_Relation, a.tabs⟩ a, ?_, body_of (ls_law_low (G := ⟨K, a.c_Relation, a.tabs⟩) (a := a)) h⟩)
  exact (pss_cons (ps_if (pt_cmpR (op_eqU hr.units) (pv 1) pe_int (nomark _)) (pss_one (ps_ret (pe_tup (pa_cons pe_int (pa_cons pe_int pa_nil))))) pss_nil)
    (pss_cons (ps_par rfl sc_law_low.nd rfl rfl (by decide) rfl rfl (pa_cons (pe_callB cr_abs (by rfl) T.n_abs (by decide +kernel) (pa_cons (pv 0) pa_nil)) (pa_cons (pe_callB cr_abs (by rfl) T.n_abs (by decide +kernel) (pa_cons (pv 1) pa_nil)) pa_nil)) (by rfl))
    (pss_cons (ps_while PassesOwn.never (pt_cmpR (op_neU hr.units) (pv 3) pe_int (nomark _)) (pss_one (ps_par rfl sc_law_low.nd rfl rfl (by decide) rfl rfl (pa_cons (pv 3) (pa_cons (pe_op op_modU (pe_callTy cr_int (by rfl) T.n_int (by decide +kernel) (pa_cons (pv 2) pa_nil)) (pv 3)) pa_nil)) (by rfl))))
    (pss_cons (ps_set (i := 2) sc_law_low.nd rfl (Or.inl rfl) (pe_ifExp (pt_cmpR op_gtU (pv 1) pe_int (nomark _)) (pv 2) (pe_op op_subU pe_int (pv 2))))
    (pss_one (ps_ret (pe_tup (pa_cons (pe_op op_fdivU (pv 0) (pv 2)) (pa_cons (pe_op op_fdivU (pv 1) (pv 2)) pa_nil)))))))))
theorem ok_law_next {fd : FuncData} (Fu : Fun K "_law_next" "_law_next" s_law_next q.f_law_next fd) (T : Txt K mg a q)
    {fd_law_form : FuncData} (O_law_form : FnOk P w K mg base CX0 2 q.f_law_form fd_law_form ["numbers_here", "one_here"] (spD ⟨K, a.c_Relation, a.tabs⟩ (F_law_form a))) (b_law_form : Binds K fd_law_form ["numbers_here", "one_here"] [])
    {fd_law_low : FuncData} (O_law_low : FnOk P w K mg base CX0 1 q.f_law_low fd_law_low ["over", "under"] (spD ⟨K, a.c_Relation, a.tabs⟩ (F_law_low a))) (b_law_low : Binds K fd_law_low ["over", "under"] []) : FnOk P w K mg base CX0 3 q.f_law_next fd ["numbers_here", "left", "right"] (spD ⟨K, a.c_Relation, a.tabs⟩ (F_law_next a)) := by
  refine Fu.ok sc_law_next (spD_len (len_law_next a)) (fun cdv A outer s H vs Q E hr h => ⟨t_law_next ⟨K, a.c_Relation, a.tabs⟩ a, ?_, body_of (ls_law_next (G := ⟨K, a.c_Relation, a.tabs⟩) (a := a)) h⟩)
  exact (pss_cons (ps_asg (pe_call O_law_form (hr.mono (by decide)) rfl T.g_law_form T.k_law_form b_law_form .nil pass0 (pa_cons (pv 0) (pa_cons (pv 2) pa_nil))) (pg_unl rfl (pgs_cons (pg_name (i := 3) sc_law_next.nd rfl (Or.inl rfl)) (pgs_cons (pg_name (i := 4) sc_law_next.nd rfl (Or.inl rfl)) (pgs_cons (pg_name (i := 5) sc_law_next.nd rfl (Or.inl rfl)) pgs_nil)))))
    (pss_cons (ps_asg (pv 1) (pg_tup rfl (pgs_cons (pg_name (i := 6) sc_law_next.nd rfl (Or.inl rfl)) (pgs_cons (pg_name (i := 7) sc_law_next.nd rfl (Or.inl rfl)) pgs_nil))))
    (pss_cons (ps_if (PW.pt (pw_and (pt_cmpR (op_neU hr.units) (pv 6) pe_int (nomark _)) (pw_and1 (pt_cmpR (op_neU hr.units) (pv 7) pe_int (nomark _))))) (pss_one (ps_ret (pe_call O_law_low (hr.mono (by decide)) rfl T.g_law_low T.k_law_low b_law_low .nil pass0 (pa_cons (pe_op op_mulU (pv 5) (pv 7)) (pa_cons (pe_op op_mulU (pv 3) (pv 6)) pa_nil))))) pss_nil)
    (pss_one (ps_ret (pe_ifExp (pt_cmpR (op_eqU hr.units) (pv 6) pe_int (nomark _)) (pe_call O_law_low (hr.mono (by decide)) rfl T.g_law_low T.k_law_low b_law_low .nil pass0 (pa_cons (pe_op op_subU pe_int (pv 4)) (pa_cons (pv 3) pa_nil))) (pe_call O_law_low (hr.mono (by decide)) rfl T.g_law_low T.k_law_low b_law_low .nil pass0 (pa_cons (pe_op op_subU pe_int (pv 5)) (pa_cons (pv 4) pa_nil)))))))))
theorem ok_law_chain {fd : FuncData} (Fu : Fun K "_law_chain" "_law_chain" s_law_chain q.f_law_chain fd) (T : Txt K mg a q)
    {fd_law_next : FuncData} (O_law_next : FnOk P w K mg base CX0 3 q.f_law_next fd_law_next ["numbers_here", "left", "right"] (spD ⟨K, a.c_Relation, a.tabs⟩ (F_law_next a))) (b_law_next : Binds K fd_law_next ["numbers_here", "left", "right"] []) : FnOk P w K mg base CX0 4 q.f_law_chain fd ["numbers_here", "left", "right", "count_here"] (spD ⟨K, a.c_Relation, a.tabs⟩ (F_law_chain a)) := by
  refine Fu.ok sc_law_chain (spD_len (len_law_chain a)) (fun cdv A outer s H vs Q E hr h => ⟨t_law_chain ⟨K, a.c_Relation, a.tabs⟩ a, ?_, body_of (ls_law_chain (G := ⟨K, a.c_Relation, a.tabs⟩) (a := a)) h⟩)
  exact (pss_cons (ps_set (i := 4) sc_law_chain.nd rfl (Or.inl rfl) (pe_lst (pa_cons (pv 1) (pa_cons (pv 2) pa_nil))))
    (pss_cons (ps_while PassesOwn.never (pt_cmpR op_ltU (pe_callB cr_len (by rfl) T.n_len (by decide +kernel) (pa_cons (pv 4) pa_nil)) (pv 3) (nomark _)) (pss_one (ps_expr (pe_bm PySem.F.plainAttrs_list PySem.F.slot_list_append PySem.F.type_list_append mt_append (pv 4) (pa_cons (pe_call O_law_next (hr.mono (by decide)) rfl T.g_law_next T.k_law_next b_law_next .nil pass0 (pa_cons (pv 0) (pa_cons (pe_ix ix_seq (pv 4) (pe_un un_negU pe_int) (fun _ _ => rfl)) (pa_cons (pe_ix ix_seq (pv 4) (pe_un un_negU pe_int) (fun _ _ => rfl)) pa_nil)))) pa_nil)))))
    (pss_one (ps_ret (pe_slice sl_list (pv 4) po_none (po_some (pv 3)))))))
theorem ok_law_start {fd : FuncData} (Fu : Fun K "_law_start" "_law_start" s_law_start q.f_law_start fd) (T : Txt K mg a q)
    {fd_law_draw : FuncData} (O_law_draw : FnOk P w K mg base CX0 1 q.f_law_draw fd_law_draw ["pool", "span"] (spD ⟨K, a.c_Relation, a.tabs⟩ (F_law_draw a))) (b_law_draw : Binds K fd_law_draw ["pool", "span"] [])
    {fd_law_low : FuncData} (O_law_low : FnOk P w K mg base CX0 1 q.f_law_low fd_law_low ["over", "under"] (spD ⟨K, a.c_Relation, a.tabs⟩ (F_law_low a))) (b_law_low : Binds K fd_law_low ["over", "under"] [])
    {fd_law_at : FuncData} (O_law_at : FnOk P w K mg base CX0 1 q.f_law_at fd_law_at ["numbers_here", "one_here", "two_here"] (spD ⟨K, a.c_Relation, a.tabs⟩ (F_law_at a))) (b_law_at : Binds K fd_law_at ["numbers_here", "one_here", "two_here"] [])
    {fd_law_is_straight : FuncData} (O_law_is_straight : FnOk P w K mg base CX0 39 q.f_law_is_straight fd_law_is_straight ["numbers_here"] (spD ⟨K, a.c_Relation, a.tabs⟩ (F_law_is_straight a))) (b_law_is_straight : Binds K fd_law_is_straight ["numbers_here"] [])
    {fd_law_plain : FuncData} (O_law_plain : FnOk P w K mg base CX0 38 q.f_law_plain fd_law_plain ["numbers_here"] (spD ⟨K, a.c_Relation, a.tabs⟩ (F_law_plain a))) (b_law_plain : Binds K fd_law_plain ["numbers_here"] [])
    {fd_law_known : FuncData} (O_law_known : FnOk P w K mg base CX0 40 q.f_law_known fd_law_known ["pool"] (spD ⟨K, a.c_Relation, a.tabs⟩ (F_law_known a))) (b_law_known : Binds K fd_law_known ["pool"] [])
    {fd_law_chain : FuncData} (O_law_chain : FnOk P w K mg base CX0 4 q.f_law_chain fd_law_chain ["numbers_here", "left", "right", "count_here"] (spD ⟨K, a.c_Relation, a.tabs⟩ (F_law_chain a))) (b_law_chain : Binds K fd_law_chain ["numbers_here", "left", "right", "count_here"] []) : FnOk P w K mg base CX0 41 q.f_law_start fd ["pool"] (spD ⟨K, a.c_Relation, a.tabs⟩ (F_law_start a)) := by
  refine Fu.ok sc_law_start (spD_len (len_law_start a)) (fun cdv A outer s H vs Q E hr h => ⟨t_law_start ⟨K, a.c_Relation, a.tabs⟩ a, ?_, body_of (ls_law_start (G := ⟨K, a.c_Relation, a.tabs⟩) (a := a)) h⟩)
  exact (pss_cons (ps_set (i := 1) sc_law_start.nd rfl (Or.inl rfl) (pe_tup (pa_cons (pe_op op_subU (pe_call O_law_draw (hr.mono (by decide)) rfl T.g_law_draw T.k_law_draw b_law_draw .nil pass0 (pa_cons (pv 0) (pa_cons pe_int pa_nil))) pe_int) (pa_cons (pe_op op_addU pe_int (pe_call O_law_draw (hr.mono (by decide)) rfl T.g_law_draw T.k_law_draw b_law_draw .nil pass0 (pa_cons (pv 0) (pa_cons pe_int pa_nil)))) pa_nil))))
    (pss_cons (ps_set (i := 2) sc_law_start.nd rfl (Or.inl rfl) (pe_tup (pa_cons (pe_op op_subU (pe_call O_law_draw (hr.mono (by decide)) rfl T.g_law_draw T.k_law_draw b_law_draw .nil pass0 (pa_cons (pv 0) (pa_cons pe_int pa_nil))) pe_int) (pa_cons (pe_op op_addU pe_int (pe_call O_law_draw (hr.mono (by decide)) rfl T.g_law_draw T.k_law_draw b_law_draw .nil pass0 (pa_cons (pv 0) (pa_cons pe_int pa_nil)))) pa_nil))))
    (pss_cons (ps_par rfl sc_law_start.nd rfl rfl (by decide) rfl rfl (pa_cons (pe_call O_law_low (hr.mono (by decide)) rfl T.g_law_low T.k_law_low b_law_low .nil pass0 (pa_cons (pe_ix ix_seq (pv 1) pe_int (fun _ _ => rfl)) (pa_cons (pe_ix ix_seq (pv 1) pe_int (fun _ _ => rfl)) pa_nil))) (pa_cons (pe_call O_law_low (hr.mono (by decide)) rfl T.g_law_low T.k_law_low b_law_low .nil pass0 (pa_cons (pe_ix ix_seq (pv 2) pe_int (fun _ _ => rfl)) (pa_cons (pe_ix ix_seq (pv 2) pe_int (fun _ _ => rfl)) pa_nil))) pa_nil)) (by rfl))
    (pss_cons (ps_setLc (i := 3) (own := [("turn", 4)]) (g := (gName 4)) (tt := tYes) rfl sc_law_start.nd rfl rfl (sw_true rfl rfl rfl (by decide +kernel)) (pi_range1 rfl T.n_range (pa_cons pe_int pa_nil)) (blkOk_by (N := N_law_start) (sc := defScope s_law_start) (by decide +kernel)) (fun _ _ _ _ _ => (pg_name (i := 4) sc_law_start.nd rfl (by first | exact Or.inl rfl | exact Or.inr rfl))) (fun _ _ _ _ _ => pts_nil) (fun _ _ _ _ _ => (pe_op op_subU (pe_call O_law_draw (hr.mono (by decide)) rfl T.g_law_draw T.k_law_draw b_law_draw .nil pass0 (pa_cons (pv 0) (pa_cons pe_int pa_nil))) pe_int)))
    (pss_cons (ps_set (i := 5) sc_law_start.nd rfl (by first | exact Or.inr rfl | exact Or.inl rfl) (pe_op op_powU (pe_op op_mulU (pe_ix ix_seq (pv 1) pe_int (fun _ _ => rfl)) (pe_ix ix_seq (pv 2) pe_int (fun _ _ => rfl))) pe_int))
    (pss_cons (ps_set (i := 6) sc_law_start.nd rfl (Or.inl rfl) (pe_op op_subU pe_int (pe_call O_law_at (hr.mono (by decide)) rfl T.g_law_at T.k_law_at b_law_at .nil pass0 (pa_cons (pe_op op_addU (pv 3) (pe_lst (pa_cons pe_int pa_nil))) (pa_cons (pv 1) (pa_cons (pv 2) pa_nil))))))
    (pss_cons (ps_set (i := 3) sc_law_start.nd rfl (Or.inl rfl) (pe_op op_addU (pe_lc (own := [("some", 7)]) (g := (gName 7)) (tt := tYes) rfl sc_law_start.nd (pi_list (pv 3)) (blkOk_by (N := N_law_start) (sc := defScope s_law_start) (by decide +kernel)) (fun _ _ _ _ _ => (pg_name (i := 7) sc_law_start.nd rfl (by first | exact Or.inl rfl | exact Or.inr rfl))) (fun _ _ _ _ _ => pts_nil) (fun _ _ _ _ _ => (pe_op op_mulU (pv 5) (pv 7)))) (pe_lst (pa_cons (pv 6) pa_nil))))
    (pss_cons (ps_if (PW.pt (pw_and (pt_cmpR op_gtU (pe_call O_law_draw (hr.mono (by decide)) rfl T.g_law_draw T.k_law_draw b_law_draw .nil pass0 (pa_cons (pv 0) (pa_cons pe_int pa_nil))) pe_int (nomark _)) (pw_and (pt_cmpR (op_neU hr.units) (pv 3) (pe_op op_mulU (pe_lst (pa_cons pe_int pa_nil)) pe_int) (nomark _)) (pw_and1 (pt_truth (pe_call O_law_is_straight (hr.mono (by decide)) rfl T.g_law_is_straight T.k_law_is_straight b_law_is_straight .nil pass0 (pa_cons (pv 3) pa_nil)) (by intro _; rfl)))))) (pss_one (ps_ret (pe_tup (pa_cons (pe_call O_law_plain (hr.mono (by decide)) rfl T.g_law_plain T.k_law_plain b_law_plain .nil pass0 (pa_cons (pv 3) pa_nil)) (pa_cons (pv 1) (pa_cons (pv 2) pa_nil)))))) pss_nil)
    (pss_cons (ps_set (i := 8) sc_law_start.nd rfl (Or.inl rfl) (pe_call O_law_known (hr.mono (by decide)) rfl T.g_law_known T.k_law_known b_law_known .nil pass0 (pa_cons (pv 0) pa_nil)))
    (pss_cons (ps_set (i := 9) sc_law_start.nd rfl (Or.inl rfl) (pe_call O_law_chain (hr.mono (by decide)) rfl T.g_law_chain T.k_law_chain b_law_chain .nil pass0 (pa_cons (pe_ix ix_seq (pv 8) pe_int (fun _ _ => rfl)) (pa_cons (pe_ix ix_seq (pv 8) pe_int (fun _ _ => rfl)) (pa_cons (pe_ix ix_seq (pv 8) pe_int (fun _ _ => rfl)) (pa_cons pe_int pa_nil))))))
    (pss_cons (ps_set (i := 10) sc_law_start.nd rfl (Or.inl rfl) (pe_call O_law_draw (hr.mono (by decide)) rfl T.g_law_draw T.k_law_draw b_law_draw .nil pass0 (pa_cons (pv 0) (pa_cons pe_int pa_nil))))
    (pss_cons (ps_if (pt_cmpR op_gtU (pe_callB (cr_max rfl) (by rfl) T.n_max (by decide +kernel) (pa_cons (pe_lc (own := [("here", 11)]) (g := (gName 11)) (tt := tYes) rfl sc_law_start.nd (pi_list (pe_slice sl_list (pv 9) (po_some (pv 10)) (po_some (pe_op op_addU (pv 10) pe_int)))) (blkOk_by (N := N_law_start) (sc := defScope s_law_start) (by decide +kernel)) (fun _ _ _ _ _ => (pg_name (i := 11) sc_law_start.nd rfl (by first | exact Or.inl rfl | exact Or.inr rfl))) (fun _ _ _ _ _ => pts_nil) (fun _ _ _ _ _ => (pe_callB (cr_mx rfl) (by rfl) T.n_max (by decide +kernel) (pa_cons (pe_callB cr_abs (by rfl) T.n_abs (by decide +kernel) (pa_cons (pe_ix ix_seq (pv 11) pe_int (fun _ _ => rfl)) pa_nil)) (pa_cons (pe_ix ix_seq (pv 11) pe_int (fun _ _ => rfl)) pa_nil))))) pa_nil)) (pe_op op_powU pe_int pe_int) (nomark _)) (pss_one (ps_set (i := 10) sc_law_start.nd rfl (Or.inl rfl) pe_int)) pss_nil)
    (pss_one (ps_ret (pe_tup (pa_cons (pe_ix ix_seq (pv 8) pe_int (fun _ _ => rfl)) (pa_cons (pe_ix ix_seq (pv 9) (pv 10) (fun _ _ => rfl)) (pa_cons (pe_ix ix_seq (pv 9) (pe_op op_addU (pv 10) pe_int) (fun _ _ => rfl)) pa_nil))))))))))))))))))
theorem ok_invariants {fd : FuncData} (Fu : Fun K "invariants" "invariants" s_invariants q.f_invariants fd) (T : Txt K mg a q) : FnOk P w K mg base CX0 1 q.f_invariants fd ["quartic_numbers"] (spD ⟨K, a.c_Relation, a.tabs⟩ (F_invariants a)) := by
  refine Fu.ok sc_invariants (spD_len (len_invariants a)) (fun cdv A outer s H vs Q E hr h => ⟨t_invariants ⟨K, a.c_Relation, a.tabs⟩ a, ?_, body_of (ls_invariants (G := ⟨K, a.c_Relation, a.tabs⟩) (a := a)) h⟩)
  exact (pss_cons (ps_asg (pv 0) (pg_unl rfl (pgs_cons (pg_name (i := 1) sc_invariants.nd rfl (Or.inl rfl)) (pgs_cons (pg_name (i := 2) sc_invariants.nd rfl (Or.inl rfl)) (pgs_cons (pg_name (i := 3) sc_invariants.nd rfl (Or.inl rfl)) (pgs_cons (pg_name (i := 4) sc_invariants.nd rfl (Or.inl rfl)) (pgs_cons (pg_name (i := 5) sc_invariants.nd rfl (Or.inl rfl)) pgs_nil)))))))
    (pss_cons (ps_set (i := 6) sc_invariants.nd rfl (Or.inl rfl) (pe_op op_addU (pe_op op_subU (pe_op op_mulU (pe_op op_mulU pe_int (pv 1)) (pv 5)) (pe_op op_mulU (pe_op op_mulU pe_int (pv 2)) (pv 4))) (pe_op op_mulU (pv 3) (pv 3))))
    (pss_cons (ps_set (i := 7) sc_invariants.nd rfl (Or.inl rfl) (pe_op op_subU (pe_op op_subU (pe_op op_subU (pe_op op_addU (pe_op op_mulU (pe_op op_mulU (pe_op op_mulU pe_int (pv 1)) (pv 3)) (pv 5)) (pe_op op_mulU (pe_op op_mulU (pe_op op_mulU pe_int (pv 2)) (pv 3)) (pv 4))) (pe_op op_mulU (pe_op op_mulU (pe_op op_mulU pe_int (pv 1)) (pv 4)) (pv 4))) (pe_op op_mulU (pe_op op_mulU (pe_op op_mulU pe_int (pv 2)) (pv 2)) (pv 5))) (pe_op op_mulU (pe_op op_mulU (pe_op op_mulU pe_int (pv 3)) (pv 3)) (pv 3))))
    (pss_one (ps_ret (pe_tup (pa_cons (pv 6) (pa_cons (pv 7) pa_nil))))))))
theorem ok_bend {fd : FuncData} (Fu : Fun K "bend" "bend" s_bend q.f_bend fd) (T : Txt K mg a q)
    {fd_invariants : FuncData} (O_invariants : FnOk P w K mg base CX0 1 q.f_invariants fd_invariants ["quartic_numbers"] (spD ⟨K, a.c_Relation, a.tabs⟩ (F_invariants a))) (b_invariants : Binds K fd_invariants ["quartic_numbers"] []) : FnOk P w K mg base CX0 2 q.f_bend fd ["quartic_numbers"] (spD ⟨K, a.c_Relation, a.tabs⟩ (F_bend a)) := by
  refine Fu.ok sc_bend (spD_len (len_bend a)) (fun cdv A outer s H vs Q E hr h => ⟨t_bend ⟨K, a.c_Relation, a.tabs⟩ a, ?_, body_of (ls_bend (G := ⟨K, a.c_Relation, a.tabs⟩) (a := a)) h⟩)
  exact (pss_cons (ps_asg (pe_call O_invariants (hr.mono (by decide)) rfl T.g_invariants T.k_invariants b_invariants .nil pass0 (pa_cons (pv 0) pa_nil)) (pg_tup rfl (pgs_cons (pg_name (i := 1) sc_bend.nd rfl (Or.inl rfl)) (pgs_cons (pg_name (i := 2) sc_bend.nd rfl (Or.inl rfl)) pgs_nil))))
    (pss_one (ps_ret (pe_op op_subU (pe_op op_mulU (pe_op op_mulU (pe_op op_mulU pe_int (pv 1)) (pv 1)) (pv 1)) (pe_op op_mulU (pv 2) (pv 2))))))
theorem ok_without_divisor {fd : FuncData} (Fu : Fun K "without_divisor" "without_divisor" s_without_divisor q.f_without_divisor fd) (T : Txt K mg a q)
    (NS : base.NoSeer) (HT : P.given.tree = none) : FnOk P w K mg base CX0 38 q.f_without_divisor fd ["numbers"] (spD ⟨K, a.c_Relation, a.tabs⟩ (F_without_divisor a)) := by
  refine Fu.ok sc_without_divisor (spD_len (len_without_divisor a)) (fun cdv A outer s H vs Q E hr h => ⟨t_without_divisor ⟨K, a.c_Relation, a.tabs⟩ a, ?_, body_of (ls_without_divisor (G := ⟨K, a.c_Relation, a.tabs⟩) (a := a)) h⟩)
  exact (pss_cons (ps_setLc (i := 1) (own := [("number", 2)]) (g := (gName 2)) (tt := _) rfl sc_without_divisor.nd rfl rfl (sw_true rfl rfl rfl (by decide +kernel)) (pi_list (pv 0)) (blkOk_by (N := N_without_divisor) (sc := defScope s_without_divisor) (by decide +kernel)) (fun _ _ _ _ _ => (pg_name (i := 2) sc_without_divisor.nd rfl (by first | exact Or.inl rfl | exact Or.inr rfl))) (fun _ _ _ _ _ => (pts_one (pt_cmpR (op_neU hr.units) (pv 2) pe_int (nomark _)))) (fun _ _ _ _ _ => (pv 2)))
    (pss_cons (ps_if (pt_not (pt_truth (pv 1) (by intro _; rfl))) (pss_one (ps_ret (pe_callTy cr_listO (by rfl) T.n_list (by decide +kernel) (pa_cons (pv 0) pa_nil)))) pss_nil)
    (pss_cons (ps_set (i := 3) sc_without_divisor.nd rfl (by first | exact Or.inr rfl | exact Or.inl rfl) pe_int)
    (pss_cons (ps_for PassesOwn.never rfl (pi_list (pv 1)) (pg_name (i := 2) sc_without_divisor.nd rfl (by first | exact Or.inl rfl | exact Or.inr rfl)) (pss_one (ps_set (i := 3) sc_without_divisor.nd rfl (by first | exact Or.inr rfl | exact Or.inl rfl) (pe_callBfun cr_gcd rfl T.x_gcd (pa_cons (pv 3) (pa_cons (pv 2) pa_nil))))))
    (pss_cons (ps_if (pt_cmpR op_ltU (pe_ix ix_seq (pv 1) pe_int (fun _ _ => rfl)) pe_int (nomark _)) (pss_one (ps_set (i := 3) sc_without_divisor.nd rfl (by first | exact Or.inr rfl | exact Or.inl rfl) (pe_un un_negU (pv 3)))) pss_nil)
    (pss_one (ps_ret (pe_lc (own := [("number", 2)]) (g := (gName 2)) (tt := tYes) rfl sc_without_divisor.nd (pi_list (pv 0)) (blkOk_by (N := N_without_divisor) (sc := defScope s_without_divisor) (by decide +kernel)) (fun _ _ _ _ _ => (pg_name (i := 2) sc_without_divisor.nd rfl (by first | exact Or.inl rfl | exact Or.inr rfl))) (fun _ _ _ _ _ => pts_nil) (fun _ _ _ _ _ => (pe_op (op_fdivP NS HT (hr.mono (by decide)) ⟨_, _, rfl, rfl, rfl, rfl, rfl⟩) (pv 2) (pv 3)))))))))))
theorem ok_quartic_of {fd : FuncData} (Fu : Fun K "quartic_of" "quartic_of" s_quartic_of q.f_quartic_of fd) (T : Txt K mg a q) : FnOk P w K mg base CX0 1 q.f_quartic_of fd ["numbers"] (spD ⟨K, a.c_Relation, a.tabs⟩ (F_quartic_of a)) := by
  refine Fu.ok sc_quartic_of (spD_len (len_quartic_of a)) (fun cdv A outer s H vs Q E hr h => ⟨t_quartic_of ⟨K, a.c_Relation, a.tabs⟩ a, ?_, body_of (ls_quartic_of (G := ⟨K, a.c_Relation, a.tabs⟩) (a := a)) h⟩)
  exact (pss_cons (ps_asg (pv 0) (pg_unl rfl (pgs_cons (pg_name (i := 1) sc_quartic_of.nd rfl (Or.inl rfl)) (pgs_cons (pg_name (i := 2) sc_quartic_of.nd rfl (Or.inl rfl)) (pgs_cons (pg_name (i := 3) sc_quartic_of.nd rfl (Or.inl rfl)) (pgs_cons (pg_name (i := 4) sc_quartic_of.nd rfl (Or.inl rfl)) (pgs_cons (pg_name (i := 5) sc_quartic_of.nd rfl (Or.inl rfl)) (pgs_cons (pg_name (i := 6) sc_quartic_of.nd rfl (Or.inl rfl)) pgs_nil))))))))
    (pss_one (ps_ret (pe_lst (pa_cons (pe_op op_subU (pe_op op_mulU (pv 2) (pv 2)) (pe_op op_mulU (pe_op op_mulU pe_int (pv 1)) (pv 3))) (pa_cons (pe_op op_subU (pe_op op_subU (pe_op op_mulU (pe_op op_mulU pe_int (pv 2)) (pv 4)) (pe_op op_mulU (pe_op op_mulU pe_int (pv 1)) (pv 5))) (pe_op op_mulU (pe_op op_mulU pe_int (pv 2)) (pv 3))) (pa_cons (pe_op op_subU (pe_op op_subU (pe_op op_subU (pe_op op_mulU (pv 4) (pv 4)) (pe_op op_mulU (pe_op op_mulU pe_int (pv 2)) (pv 5))) (pe_op op_mulU (pe_op op_mulU pe_int (pv 1)) (pv 6))) (pe_op op_mulU (pe_op op_mulU pe_int (pv 3)) (pv 3))) (pa_cons (pe_op op_subU (pe_op op_subU (pe_op op_mulU (pe_op op_mulU pe_int (pv 4)) (pv 5)) (pe_op op_mulU (pe_op op_mulU pe_int (pv 2)) (pv 6))) (pe_op op_mulU (pe_op op_mulU pe_int (pv 3)) (pv 5))) (pa_cons (pe_op op_subU (pe_op op_mulU (pv 5) (pv 5)) (pe_op op_mulU (pe_op op_mulU pe_int (pv 3)) (pv 6))) pa_nil)))))))))
theorem ok_Relation_init {fd : FuncData} (Fu : Fun K "__init__" "Relation.__init__" s_Relation_init q.f_Relation_init fd) (T : Txt K mg a q)
    {fd_init : FuncData} (O_init : FnOk P w K mg base CX0 1 q.f_init fd_init ["self", "value"] (spInit K)) (B_init : Binds K fd_init ["self", "value"] [])
    {fd_bend : FuncData} (O_bend : FnOk P w K mg base CX0 2 q.f_bend fd_bend ["quartic_numbers"] (spD ⟨K, a.c_Relation, a.tabs⟩ (F_bend a))) (b_bend : Binds K fd_bend ["quartic_numbers"] [])
    {fd_quartic_of : FuncData} (O_quartic_of : FnOk P w K mg base CX0 1 q.f_quartic_of fd_quartic_of ["numbers"] (spD ⟨K, a.c_Relation, a.tabs⟩ (F_quartic_of a))) (b_quartic_of : Binds K fd_quartic_of ["numbers"] [])
    {fd_without_divisor : FuncData} (O_without_divisor : FnOk P w K mg base CX0 38 q.f_without_divisor fd_without_divisor ["numbers"] (spD ⟨K, a.c_Relation, a.tabs⟩ (F_without_divisor a))) (b_without_divisor : Binds K fd_without_divisor ["numbers"] []) : FnOk P w K mg base (L2.CX P w) 39 q.f_Relation_init fd ["self", "numbers"] (spMk ⟨K, a.c_Relation, a.tabs⟩ (F_Relation_init a)) := by
  refine Fu.okX sc_Relation_init (spMk_len (len_Relation_init a)) (fun cdv A outer s H vs Q E hr h => ⟨t_Relation_init ⟨K, a.c_Relation, a.tabs⟩ a E, ?_, init_run (G := ⟨K, a.c_Relation, a.tabs⟩) (tp := p_Relation_init ⟨K, a.c_Relation, a.tabs⟩ a) (te := e_Relation_init ⟨K, a.c_Relation, a.tabs⟩ a) T.rc T.rn (fun _ _ _ _ => rfl) (ls_Relation_init (G := ⟨K, a.c_Relation, a.tabs⟩) (a := a) T.e_InvalidNumber T.e_Bent) h⟩)
  have hr2 : Room 2 _ := hr.mono (by decide)
  exact (pss_cons (ps_if (pt_cmpR (op_neU hr.units) (pe_callB cr_len (by rfl) T.n_len (by decide +kernel) (pa_cons (pv 1) pa_nil)) pe_int (nomark _)) (pss_one (ps_raise rfl (takes_of rfl rfl rfl rfl) (pmk_oex T.e_InvalidNumber.oex T.i_InvalidNumber T.ti O_init hr2 B_init .nil pass0 rfl T.g_InvalidNumber (pa_cons (pe_callB cr_len (by rfl) T.n_len (by decide +kernel) (pa_cons (pv 1) pa_nil)) pa_nil)))) pss_nil)
    (pss_cons (ps_if (pt_cmpR (op_eqU hr.units) (pe_call O_bend (hr.mono (by decide)) rfl T.g_bend T.k_bend b_bend .nil pass0 (pa_cons (pe_call O_quartic_of (hr.mono (by decide)) rfl T.g_quartic_of T.k_quartic_of b_quartic_of .nil pass0 (pa_cons (pv 1) pa_nil)) pa_nil)) pe_int (nomark _)) (pss_one (ps_raise rfl (takes_of rfl rfl rfl rfl) (pmk_oex T.e_Bent.oex T.i_Bent T.ti O_init hr2 B_init .nil pass0 rfl T.g_Bent (pa_cons pe_int pa_nil)))) pss_nil)
    (pss_one (ps_fld (pv 0) (pe_callTy cr_tupO (by rfl) T.n_tuple (by decide +kernel) (pa_cons (pe_call O_without_divisor (hr.mono (by decide)) rfl T.g_without_divisor T.k_without_divisor b_without_divisor .nil pass0 (pa_cons (pv 1) pa_nil)) pa_nil)) rfl))))
theorem ok_law_made {fd : FuncData} (Fu : Fun K "_law_made" "_law_made" s_law_made q.f_law_made fd) (T : Txt K mg a q)
    {fd_Relation_init : FuncData} (O_Relation_init : FnOk P w K mg base (L2.CX P w) 39 q.f_Relation_init fd_Relation_init ["self", "numbers"] (spMk ⟨K, a.c_Relation, a.tabs⟩ (F_Relation_init a))) (b_Relation_init : Binds K fd_Relation_init ["self", "numbers"] []) : FnOk P w K mg base CX0 41 q.f_law_made fd ["numbers_here"] (spD ⟨K, a.c_Relation, a.tabs⟩ (F_law_made a)) := by
  refine Fu.ok sc_law_made (spD_len (len_law_made a)) (fun cdv A outer s H vs Q E hr h => ⟨t_law_made ⟨K, a.c_Relation, a.tabs⟩ a, ?_, body_of (ls_law_made (G := ⟨K, a.c_Relation, a.tabs⟩) (a := a)) h⟩)
  exact (pss_one (ps_ret (pe_makeS T.rm O_Relation_init (hr.mono (by decide)) rfl T.g_Relation b_Relation_init (fun _ => passLE) (pa_cons (pe_callTy cr_listO (by rfl) T.n_list (by decide +kernel) (pa_cons (pv 0) pa_nil)) pa_nil))))
theorem ok_law_terms {fd : FuncData} (Fu : Fun K "_law_terms" "_law_terms" s_law_terms q.f_law_terms fd) (T : Txt K mg a q)
    {fd_law_at : FuncData} (O_law_at : FnOk P w K mg base CX0 1 q.f_law_at fd_law_at ["numbers_here", "one_here", "two_here"] (spD ⟨K, a.c_Relation, a.tabs⟩ (F_law_at a))) (b_law_at : Binds K fd_law_at ["numbers_here", "one_here", "two_here"] []) : FnOk P w K mg base CX0 2 q.f_law_terms fd ["one_here", "two_here"] (spD ⟨K, a.c_Relation, a.tabs⟩ (F_law_terms a)) := by
  refine Fu.ok sc_law_terms (spD_len (len_law_terms a)) (fun cdv A outer s H vs Q E hr h => ⟨t_law_terms ⟨K, a.c_Relation, a.tabs⟩ a, ?_, body_of (ls_law_terms (G := ⟨K, a.c_Relation, a.tabs⟩) (a := a)) h⟩)
  exact (pss_one (ps_ret (pe_lc (own := [("spot", 2)]) (g := (gName 2)) (tt := tYes) rfl sc_law_terms.nd (pi_range1 rfl T.n_range (pa_cons pe_int pa_nil)) (blkOk_by (N := N_law_terms) (sc := defScope s_law_terms) (by decide +kernel)) (fun _ _ _ _ _ => (pg_name (i := 2) sc_law_terms.nd rfl (by first | exact Or.inl rfl | exact Or.inr rfl))) (fun _ _ _ _ _ => pts_nil) (fun _ _ _ _ _ => (pe_call O_law_at (hr.mono (by decide)) rfl T.g_law_at T.k_law_at b_law_at .nil pass0 (pa_cons (pe_lc (own := [("at", 3)]) (g := (gName 3)) (tt := tYes) rfl sc_law_terms.nd (pi_range1 rfl T.n_range (pa_cons pe_int pa_nil)) (blkIn <| blkOk_by (N := N_law_terms) (sc := (lcS (valE (defBody s_law_terms) 0))) (by decide +kernel)) (fun _ _ _ _ _ => (pg_name (i := 3) sc_law_terms.nd rfl (by first | exact Or.inl rfl | exact Or.inr rfl))) (fun _ _ _ _ _ => pts_nil) (fun _ _ _ _ _ => (pe_callTy cr_int (by rfl) T.n_int (by decide +kernel) (pa_cons (pe_cmpR (op_eqU hr.units) (pv 2) (pv 3) (nomark _)) pa_nil)))) (pa_cons (pv 0) (pa_cons (pv 1) pa_nil))))))))
theorem ok_law_only {fd : FuncData} (Fu : Fun K "_law_only" "_law_only" s_law_only q.f_law_only fd) (T : Txt K mg a q)
    (NS : base.NoSeer) (HT : P.given.tree = none)
    {fd_law_plain : FuncData} (O_law_plain : FnOk P w K mg base CX0 38 q.f_law_plain fd_law_plain ["numbers_here"] (spD ⟨K, a.c_Relation, a.tabs⟩ (F_law_plain a))) (b_law_plain : Binds K fd_law_plain ["numbers_here"] []) : FnOk P w K mg base CX0 39 q.f_law_only fd ["rows_here"] (spD ⟨K, a.c_Relation, a.tabs⟩ (F_law_only a)) := by
  refine Fu.ok sc_law_only (spD_len (len_law_only a)) (fun cdv A outer s H vs Q E hr h => ⟨t_law_only ⟨K, a.c_Relation, a.tabs⟩ a, ?_, body_of (ls_law_only (G := ⟨K, a.c_Relation, a.tabs⟩) (a := a)) h⟩)
  have hr65 := r65 hr
  exact (pss_cons (ps_asg (pe_tup (pa_cons (pe_lc (own := [("some", 2)]) (g := (gName 2)) (tt := tYes) rfl sc_law_only.nd (pi_list (pv 0)) (blkOk_by (N := N_law_only) (sc := defScope s_law_only) (by decide +kernel)) (fun _ _ _ _ _ => (pg_name (i := 2) sc_law_only.nd rfl (by first | exact Or.inl rfl | exact Or.inr rfl))) (fun _ _ _ _ _ => pts_nil) (fun _ _ _ _ _ => (pe_callTy cr_listO (by rfl) T.n_list (by decide +kernel) (pa_cons (pv 2) pa_nil)))) (pa_cons (pe_lst pa_nil) pa_nil))) (pg_tup rfl (pgs_cons (pg_name (i := 0) sc_law_only.nd rfl (Or.inl rfl)) (pgs_cons (pg_name (i := 1) sc_law_only.nd rfl (by first | exact Or.inl rfl | exact Or.inr rfl)) pgs_nil))))
    (pss_cons (ps_for PassesOwn.never rfl (pi_range1 rfl T.n_range (pa_cons pe_int pa_nil)) (pg_name (i := 3) sc_law_only.nd rfl (by first | exact Or.inl rfl | exact Or.inr rfl)) (pss_cons (ps_setLc (i := 4) (own := [("some", 2)]) (g := (gName 2)) (tt := _) rfl sc_law_only.nd rfl rfl (sw_true rfl rfl rfl (by decide +kernel)) (pi_list (pe_slice sl_list (pv 0) (po_some (pe_callB cr_len (by rfl) T.n_len (by decide +kernel) (pa_cons (pv 1) pa_nil))) po_none)) (blkOk_by (N := N_law_only) (sc := defScope s_law_only) (by decide +kernel)) (fun _ _ _ _ _ => (pg_name (i := 2) sc_law_only.nd rfl (by first | exact Or.inl rfl | exact Or.inr rfl))) (fun _ _ _ _ _ => (pts_one (pt_cmpR (op_neU hr.units) (pe_ix ix_seq (pv 2) (pv 3) (fun _ _ => rfl)) pe_int (nomark _)))) (fun _ _ _ _ _ => (pv 2)))
    (pss_one (ps_if (pt_cmpR (op_neU hr.units) (pv 4) (pe_lst pa_nil) (nomark _)) (pss_cons (ps_asg (pe_tup (pa_cons (pe_call O_law_plain (hr.mono (by decide)) rfl T.g_law_plain T.k_law_plain b_law_plain .nil pass0 (pa_cons (pe_ix ix_seq (pv 4) pe_int (fun _ _ => rfl)) pa_nil)) (pa_cons (pe_bm PySem.F.plainAttrs_list PySem.F.slot_list_index PySem.F.type_list_index (mt_place hr65) (pv 0) (pa_cons (pe_ix ix_seq (pv 4) pe_int (fun _ _ => rfl)) (pa_cons (pe_callB cr_len (by rfl) T.n_len (by decide +kernel) (pa_cons (pv 1) pa_nil)) pa_nil))) pa_nil))) (pg_tup rfl (pgs_cons (pg_name (i := 5) sc_law_only.nd rfl (by first | exact Or.inl rfl | exact Or.inr rfl)) (pgs_cons (pg_name (i := 6) sc_law_only.nd rfl (Or.inl rfl)) pgs_nil))))
    (pss_cons (ps_set (i := 7) sc_law_only.nd rfl (Or.inl rfl) (pe_lst pa_nil))
    (pss_cons (ps_for PassesOwn.never rfl (pi_list (pe_op op_addU (pe_slice sl_list (pv 0) po_none (po_some (pv 6))) (pe_slice sl_list (pv 0) (po_some (pe_op op_addU (pv 6) pe_int)) po_none))) (pg_name (i := 2) sc_law_only.nd rfl (by first | exact Or.inl rfl | exact Or.inr rfl)) (pss_cons (ps_setLc (i := 8) (own := [("here", 9), ("there", 10)]) (g := (gTup K 2 (gCons (gName 9) (gCons (gName 10) gNil)))) (tt := tYes) rfl sc_law_only.nd rfl rfl (sw_true rfl rfl rfl (by decide +kernel)) (pi_zip rfl T.n_zip (pa_cons (pv 2) (pa_cons (pv 5) pa_nil))) (blkOk_by (N := N_law_only) (sc := defScope s_law_only) (by decide +kernel)) (fun _ _ _ _ _ => (pg_tup rfl (pgs_cons (pg_name (i := 9) sc_law_only.nd rfl (by first | exact Or.inl rfl | exact Or.inr rfl)) (pgs_cons (pg_name (i := 10) sc_law_only.nd rfl (by first | exact Or.inl rfl | exact Or.inr rfl)) pgs_nil)))) (fun _ _ _ _ _ => pts_nil) (fun _ _ _ _ _ => (pe_op op_subU (pe_op op_mulU (pe_ix ix_seq (pv 5) (pv 3) (fun _ _ => rfl)) (pv 9)) (pe_op op_mulU (pe_ix ix_seq (pv 2) (pv 3) (fun _ _ => rfl)) (pv 10)))))
    (pss_one (ps_expr (pe_bm PySem.F.plainAttrs_list PySem.F.slot_list_append PySem.F.type_list_append mt_append (pv 7) (pa_cons (pe_ifExp (pt_cmpR (op_neU hr.units) (pv 8) (pe_op op_mulU (pe_lst (pa_cons pe_int pa_nil)) pe_int) (nomark _)) (pe_call O_law_plain (hr.mono (by decide)) rfl T.g_law_plain T.k_law_plain b_law_plain .nil pass0 (pa_cons (pv 8) pa_nil)) (pv 8)) pa_nil))))))
    (pss_cons (ps_set (i := 0) sc_law_only.nd rfl (Or.inl rfl) (pe_op op_addU (pe_op op_addU (pe_slice sl_list (pv 7) po_none (po_some (pe_callB cr_len (by rfl) T.n_len (by decide +kernel) (pa_cons (pv 1) pa_nil)))) (pe_lst (pa_cons (pv 5) pa_nil))) (pe_slice sl_list (pv 7) (po_some (pe_callB cr_len (by rfl) T.n_len (by decide +kernel) (pa_cons (pv 1) pa_nil))) po_none)))
    (pss_one (ps_expr (pe_bm PySem.F.plainAttrs_list PySem.F.slot_list_append PySem.F.type_list_append mt_append (pv 1) (pa_cons (pv 3) pa_nil)))))))) pss_nil))))
    (pss_cons (ps_if (pt_cmpR (op_neU hr.units) (pe_callB cr_len (by rfl) T.n_len (by decide +kernel) (pa_cons (pv 1) pa_nil)) pe_int (nomark _)) (pss_one (ps_ret (pe_lst pa_nil))) pss_nil)
    (pss_cons (ps_par rfl sc_law_only.nd rfl rfl (by decide) rfl rfl (pa_cons (pe_ix ix_seq (pe_lc (own := [("spot", 3)]) (g := (gName 3)) (tt := _) rfl sc_law_only.nd (pi_range1 rfl T.n_range (pa_cons pe_int pa_nil)) (blkOk_by (N := N_law_only) (sc := defScope s_law_only) (by decide +kernel)) (fun _ _ _ _ _ => (pg_name (i := 3) sc_law_only.nd rfl (by first | exact Or.inl rfl | exact Or.inr rfl))) (fun _ _ _ _ _ => (pts_one (pt_cmpR (op_notInD hr65) (pv 3) (pv 1) rfl))) (fun _ _ _ _ _ => (pv 3))) pe_int (fun _ _ => rfl)) (pa_cons pe_int pa_nil)) (by rfl))
    (pss_cons (ps_for PassesOwn.never rfl (pi_enum rfl T.n_enumerate (pa_cons (pv 1) pa_nil)) (pg_tup rfl (pgs_cons (pg_name (i := 6) sc_law_only.nd rfl (Or.inl rfl)) (pgs_cons (pg_name (i := 3) sc_law_only.nd rfl (by first | exact Or.inl rfl | exact Or.inr rfl)) pgs_nil))) (pss_one (ps_set (i := 12) sc_law_only.nd rfl (Or.inl rfl) (pe_op op_mulU (pv 12) (pe_ix ix_seq (pe_ix ix_seq (pv 0) (pv 6) (fun _ _ => rfl)) (pv 3) (fun _ _ => rfl))))))
    (pss_cons (ps_set (i := 13) sc_law_only.nd rfl (Or.inl rfl) (pe_op op_mulU (pe_lst (pa_cons pe_int pa_nil)) pe_int))
    (pss_cons (ps_asg (pv 12) (pg_sub (pv 13) (pv 11) set_list))
    (pss_cons (ps_for PassesOwn.never rfl (pi_enum rfl T.n_enumerate (pa_cons (pv 1) pa_nil)) (pg_tup rfl (pgs_cons (pg_name (i := 6) sc_law_only.nd rfl (Or.inl rfl)) (pgs_cons (pg_name (i := 3) sc_law_only.nd rfl (by first | exact Or.inl rfl | exact Or.inr rfl)) pgs_nil))) (pss_cons (ps_set (i := 2) sc_law_only.nd rfl (by first | exact Or.inr rfl | exact Or.inl rfl) (pe_ix ix_seq (pv 0) (pv 6) (fun _ _ => rfl)))
    (pss_one (ps_asg (pe_op op_subU pe_int (pe_op (op_fdivP NS HT (hr.mono (by decide)) ⟨_, _, rfl, rfl, rfl, rfl, rfl⟩) (pe_op op_mulU (pe_ix ix_seq (pv 2) (pv 11) (fun _ _ => rfl)) (pv 12)) (pe_ix ix_seq (pv 2) (pv 3) (fun _ _ => rfl)))) (pg_sub (pv 13) (pv 3) set_list)))))
    (pss_one (ps_ret (pe_call O_law_plain (hr.mono (by decide)) rfl T.g_law_plain T.k_law_plain b_law_plain .nil pass0 (pa_cons (pv 13) pa_nil))))))))))))
theorem ok_hessian {fd : FuncData} (Fu : Fun K "_hessian" "_hessian" s_hessian q.f_hessian fd) (T : Txt K mg a q) : FnOk P w K mg base CX0 1 q.f_hessian fd ["quartic_numbers"] (spD ⟨K, a.c_Relation, a.tabs⟩ (F_hessian a)) := by
  refine Fu.ok sc_hessian (spD_len (len_hessian a)) (fun cdv A outer s H vs Q E hr h => ⟨t_hessian ⟨K, a.c_Relation, a.tabs⟩ a, ?_, body_of (ls_hessian (G := ⟨K, a.c_Relation, a.tabs⟩) (a := a)) h⟩)
  exact (pss_cons (ps_asg (pv 0) (pg_unl rfl (pgs_cons (pg_name (i := 1) sc_hessian.nd rfl (Or.inl rfl)) (pgs_cons (pg_name (i := 2) sc_hessian.nd rfl (Or.inl rfl)) (pgs_cons (pg_name (i := 3) sc_hessian.nd rfl (Or.inl rfl)) (pgs_cons (pg_name (i := 4) sc_hessian.nd rfl (Or.inl rfl)) (pgs_cons (pg_name (i := 5) sc_hessian.nd rfl (Or.inl rfl)) pgs_nil)))))))
    (pss_one (ps_ret (pe_lst (pa_cons (pe_op op_subU (pe_op op_mulU (pe_op op_mulU pe_int (pv 2)) (pv 2)) (pe_op op_mulU (pe_op op_mulU pe_int (pv 1)) (pv 3))) (pa_cons (pe_op op_mulU pe_int (pe_op op_subU (pe_op op_mulU (pv 2) (pv 3)) (pe_op op_mulU (pe_op op_mulU pe_int (pv 1)) (pv 4)))) (pa_cons (pe_op op_mulU pe_int (pe_op op_subU (pe_op op_subU (pe_op op_mulU (pe_op op_mulU pe_int (pv 3)) (pv 3)) (pe_op op_mulU (pe_op op_mulU pe_int (pv 1)) (pv 5))) (pe_op op_mulU (pe_op op_mulU pe_int (pv 2)) (pv 4)))) (pa_cons (pe_op op_mulU pe_int (pe_op op_subU (pe_op op_mulU (pv 3) (pv 4)) (pe_op op_mulU (pe_op op_mulU pe_int (pv 2)) (pv 5)))) (pa_cons (pe_op op_subU (pe_op op_mulU (pe_op op_mulU pe_int (pv 4)) (pv 4)) (pe_op op_mulU (pe_op op_mulU pe_int (pv 3)) (pv 5))) pa_nil)))))))))
theorem ok_numbers_at {fd : FuncData} (Fu : Fun K "_numbers_at" "_numbers_at" s_numbers_at q.f_numbers_at fd) (T : Txt K mg a q)
    {fd_hessian : FuncData} (O_hessian : FnOk P w K mg base CX0 1 q.f_hessian fd_hessian ["quartic_numbers"] (spD ⟨K, a.c_Relation, a.tabs⟩ (F_hessian a))) (b_hessian : Binds K fd_hessian ["quartic_numbers"] [])
    {fd_invariants : FuncData} (O_invariants : FnOk P w K mg base CX0 1 q.f_invariants fd_invariants ["quartic_numbers"] (spD ⟨K, a.c_Relation, a.tabs⟩ (F_invariants a))) (b_invariants : Binds K fd_invariants ["quartic_numbers"] []) : FnOk P w K mg base CX0 2 q.f_numbers_at fd ["quartic_numbers", "x"] (spD ⟨K, a.c_Relation, a.tabs⟩ (F_numbers_at a)) := by
  refine Fu.ok sc_numbers_at (spD_len (len_numbers_at a)) (fun cdv A outer s H vs Q E hr h => ⟨t_numbers_at ⟨K, a.c_Relation, a.tabs⟩ a, ?_, body_of (ls_numbers_at (G := ⟨K, a.c_Relation, a.tabs⟩) (a := a)) h⟩)
  exact (pss_cons (ps_asg (pv 1) (pg_tup rfl (pgs_cons (pg_name (i := 2) sc_numbers_at.nd rfl (Or.inl rfl)) (pgs_cons (pg_name (i := 3) sc_numbers_at.nd rfl (Or.inl rfl)) pgs_nil))))
    (pss_cons (ps_asg (pe_tup (pa_cons (pe_op op_mulU (pe_op op_mulU pe_int (pv 2)) (pv 3)) (pa_cons (pe_op op_mulU (pv 3) (pv 3)) pa_nil))) (pg_tup rfl (pgs_cons (pg_name (i := 4) sc_numbers_at.nd rfl (by first | exact Or.inl rfl | exact Or.inr rfl)) (pgs_cons (pg_name (i := 5) sc_numbers_at.nd rfl (by first | exact Or.inl rfl | exact Or.inr rfl)) pgs_nil))))
    (pss_cons (ps_set (i := 6) sc_numbers_at.nd rfl (Or.inl rfl) (pe_call O_hessian (hr.mono (by decide)) rfl T.g_hessian T.k_hessian b_hessian .nil pass0 (pa_cons (pv 0) pa_nil)))
    (pss_cons (ps_asg (pe_lc (own := [("one", 12), ("other", 13)]) (g := (gTup K 2 (gCons (gName 12) (gCons (gName 13) gNil)))) (tt := tYes) rfl sc_numbers_at.nd (pi_zip rfl T.n_zip (pa_cons (pv 0) (pa_cons (pv 6) pa_nil))) (blkOk_by (N := N_numbers_at) (sc := defScope s_numbers_at) (by decide +kernel)) (fun _ _ _ _ _ => (pg_tup rfl (pgs_cons (pg_name (i := 12) sc_numbers_at.nd rfl (by first | exact Or.inl rfl | exact Or.inr rfl)) (pgs_cons (pg_name (i := 13) sc_numbers_at.nd rfl (by first | exact Or.inl rfl | exact Or.inr rfl)) pgs_nil)))) (fun _ _ _ _ _ => pts_nil) (fun _ _ _ _ _ => (pe_op op_subU (pe_op op_mulU (pv 4) (pv 12)) (pe_op op_mulU (pv 5) (pv 13))))) (pg_unl rfl (pgs_cons (pg_name (i := 7) sc_numbers_at.nd rfl (Or.inl rfl)) (pgs_cons (pg_name (i := 8) sc_numbers_at.nd rfl (Or.inl rfl)) (pgs_cons (pg_name (i := 9) sc_numbers_at.nd rfl (Or.inl rfl)) (pgs_cons (pg_name (i := 10) sc_numbers_at.nd rfl (Or.inl rfl)) (pgs_cons (pg_name (i := 11) sc_numbers_at.nd rfl (Or.inl rfl)) pgs_nil)))))))
    (pss_cons (ps_asg (pe_call O_invariants (hr.mono (by decide)) rfl T.g_invariants T.k_invariants b_invariants .nil pass0 (pa_cons (pv 0) pa_nil)) (pg_tup rfl (pgs_cons (pg_name (i := 14) sc_numbers_at.nd rfl (Or.inl rfl)) (pgs_cons (pg_name (i := 15) sc_numbers_at.nd rfl (Or.inl rfl)) pgs_nil))))
    (pss_cons (ps_set (i := 16) sc_numbers_at.nd rfl (Or.inl rfl) (pe_op op_mulU pe_int (pe_op op_subU (pe_op op_mulU (pv 2) (pv 2)) (pe_op op_mulU (pv 14) (pv 5)))))
    (pss_one (ps_ret (pe_lst (pa_cons (pe_op op_mulU pe_int (pv 7)) (pa_cons (pe_op op_mulU pe_int (pv 8)) (pa_cons (pe_op op_subU (pv 9) (pv 16)) (pa_cons (pe_op op_addU (pe_op op_mulU pe_int (pv 9)) (pe_op op_mulU pe_int (pv 16))) (pa_cons (pe_op op_mulU pe_int (pv 10)) (pa_cons (pe_op op_mulU pe_int (pv 11)) pa_nil)))))))))))))))
theorem ok_Relation_numbers {fd : FuncData} (Fu : Fun K "numbers" "Relation.numbers" s_Relation_numbers q.f_Relation_numbers fd) (T : Txt K mg a q) : FnOk P w K mg base CX0 1 q.f_Relation_numbers fd ["self"] (spD ⟨K, a.c_Relation, a.tabs⟩ (F_Relation_numbers a)) := by
  refine Fu.ok sc_Relation_numbers (spD_len (len_Relation_numbers a)) (fun cdv A outer s H vs Q E hr h => ⟨t_Relation_numbers ⟨K, a.c_Relation, a.tabs⟩ a, ?_, body_of (ls_Relation_numbers (G := ⟨K, a.c_Relation, a.tabs⟩) (a := a) T.rc T.rn) h⟩)
  exact (pss_one (ps_ret (pe_callTy cr_listO (by rfl) T.n_list (by decide +kernel) (pa_cons (pe_fld (pv 0) rfl) pa_nil))))
theorem ok_quartic {fd : FuncData} (Fu : Fun K "quartic" "quartic" s_quartic q.f_quartic fd) (T : Txt K mg a q)
    {fd_quartic_of : FuncData} (O_quartic_of : FnOk P w K mg base CX0 1 q.f_quartic_of fd_quartic_of ["numbers"] (spD ⟨K, a.c_Relation, a.tabs⟩ (F_quartic_of a))) (b_quartic_of : Binds K fd_quartic_of ["numbers"] [])
    {fd_Relation_numbers : FuncData} (O_Relation_numbers : FnOk P w K mg base CX0 1 q.f_Relation_numbers fd_Relation_numbers ["self"] (spD ⟨K, a.c_Relation, a.tabs⟩ (F_Relation_numbers a))) (b_Relation_numbers : Binds K fd_Relation_numbers ["self"] []) : FnOk P w K mg base CX0 3 q.f_quartic fd ["relation"] (spD ⟨K, a.c_Relation, a.tabs⟩ (F_quartic a)) := by
  refine Fu.ok sc_quartic (spD_len (len_quartic a)) (fun cdv A outer s H vs Q E hr h => ⟨t_quartic ⟨K, a.c_Relation, a.tabs⟩ a, ?_, body_of (ls_quartic (G := ⟨K, a.c_Relation, a.tabs⟩) (a := a)) h⟩)
  exact (pss_one (ps_ret (pe_call O_quartic_of (hr.mono (by decide)) rfl T.g_quartic_of T.k_quartic_of b_quartic_of .nil pass0 (pa_cons (pe_prop (pv 0) T.rc T.rp O_Relation_numbers (hr.mono (by decide)) b_Relation_numbers .nil pass0 rfl) pa_nil))))
theorem ok_step {fd : FuncData} (Fu : Fun K "_step" "_step" s_step q.f_step fd) (T : Txt K mg a q) : FnOk P w K mg base CX0 1 q.f_step fd ["numbers"] (spD ⟨K, a.c_Relation, a.tabs⟩ (F_step a)) := by
  refine Fu.ok sc_step (spD_len (len_step a)) (fun cdv A outer s H vs Q E hr h => ⟨t_step ⟨K, a.c_Relation, a.tabs⟩ a, ?_, body_of (ls_step (G := ⟨K, a.c_Relation, a.tabs⟩) (a := a)) h⟩)
  exact (pss_cons (ps_asg (pv 0) (pg_unl rfl (pgs_cons (pg_name (i := 1) sc_step.nd rfl (Or.inl rfl)) (pgs_cons (pg_name (i := 2) sc_step.nd rfl (Or.inl rfl)) (pgs_cons (pg_name (i := 3) sc_step.nd rfl (Or.inl rfl)) (pgs_cons (pg_name (i := 4) sc_step.nd rfl (Or.inl rfl)) (pgs_cons (pg_name (i := 5) sc_step.nd rfl (Or.inl rfl)) (pgs_cons (pg_name (i := 6) sc_step.nd rfl (Or.inl rfl)) pgs_nil))))))))
    (pss_one (ps_ret (pe_op op_addU (pe_op op_mulU (pe_op op_subU (pv 4) (pe_op op_mulU pe_int (pv 3))) (pe_op op_subU (pv 4) (pe_op op_mulU pe_int (pv 3)))) (pe_op op_mulU pe_int (pe_op op_subU (pe_op op_mulU (pv 2) (pv 5)) (pe_op op_mulU (pv 1) (pv 6))))))))
theorem ok_is_whole {fd : FuncData} (Fu : Fun K "_is_whole" "_is_whole" s_is_whole q.f_is_whole fd) (T : Txt K mg a q) : FnOk P w K mg base CX0 1 q.f_is_whole fd ["value"] (spD ⟨K, a.c_Relation, a.tabs⟩ (F_is_whole a)) := by
  refine Fu.ok sc_is_whole (spD_len (len_is_whole a)) (fun cdv A outer s H vs Q E hr h => ⟨t_is_whole ⟨K, a.c_Relation, a.tabs⟩ a, ?_, body_of (ls_is_whole (G := ⟨K, a.c_Relation, a.tabs⟩) (a := a)) h⟩)
  exact (pss_one (ps_ret (pe_and (pe_callB call_isi (by rfl) T.n_isinstance (by decide +kernel) (pa_cons (pv 0) (pa_cons (pe_bltn (by rfl) T.n_int (by decide +kernel) rfl) pa_nil))) (pe_one (pe_not (pe_callB call_isi (by rfl) T.n_isinstance (by decide +kernel) (pa_cons (pv 0) (pa_cons (pe_bltn (by rfl) T.n_bool (by decide +kernel) rfl) pa_nil))))))))
theorem ok_is_point {fd : FuncData} (Fu : Fun K "is_point" "is_point" s_is_point q.f_is_point fd) (T : Txt K mg a q)
    {fd_is_whole : FuncData} (O_is_whole : FnOk P w K mg base CX0 1 q.f_is_whole fd_is_whole ["value"] (spD ⟨K, a.c_Relation, a.tabs⟩ (F_is_whole a))) (b_is_whole : Binds K fd_is_whole ["value"] []) : FnOk P w K mg base CX0 2 q.f_is_point fd ["value"] (spD ⟨K, a.c_Relation, a.tabs⟩ (F_is_point a)) := by
  refine Fu.ok sc_is_point (spD_len (len_is_point a)) (fun cdv A outer s H vs Q E hr h => ⟨t_is_point ⟨K, a.c_Relation, a.tabs⟩ a, ?_, body_of (ls_is_point (G := ⟨K, a.c_Relation, a.tabs⟩) (a := a)) h⟩)
  exact (pss_cons (ps_if (PW.pt (pw_or (pt_not (pt_truth (pe_callB call_isi (by rfl) T.n_isinstance (by decide +kernel) (pa_cons (pv 0) (pa_cons (pe_bltn (by rfl) T.n_tuple (by decide +kernel) rfl) pa_nil))) (by intro _; rfl))) (pw_or1 (pt_cmpR (op_neU hr.units) (pe_callB cr_len (by rfl) T.n_len (by decide +kernel) (pa_cons (pv 0) pa_nil)) pe_int (nomark _))))) (pss_one (ps_ret pe_bl)) pss_nil)
    (pss_cons (ps_asg (pv 0) (pg_tup rfl (pgs_cons (pg_name (i := 1) sc_is_point.nd rfl (Or.inl rfl)) (pgs_cons (pg_name (i := 2) sc_is_point.nd rfl (Or.inl rfl)) pgs_nil))))
    (pss_cons (ps_if (PW.pt (pw_or (pt_not (pt_truth (pe_call O_is_whole (hr.mono (by decide)) rfl T.g_is_whole T.k_is_whole b_is_whole .nil pass0 (pa_cons (pv 1) pa_nil)) (by intro _; rfl))) (pw_or1 (pt_not (pt_truth (pe_call O_is_whole (hr.mono (by decide)) rfl T.g_is_whole T.k_is_whole b_is_whole .nil pass0 (pa_cons (pv 2) pa_nil)) (by intro _; rfl)))))) (pss_one (ps_ret pe_bl)) pss_nil)
    (pss_cons (ps_if (pt_cmpR (op_eqU hr.units) (pv 2) pe_int (nomark _)) (pss_one (ps_ret (pe_cmpR (op_eqU hr.units) (pv 1) pe_int (nomark _)))) pss_nil)
    (pss_one (ps_ret (pe_and (pe_cmpR op_gtU (pv 2) pe_int (nomark _)) (pe_one (pe_cmpR (op_eqU hr.units) (pe_callBfun cr_gcd rfl T.x_gcd (pa_cons (pv 1) (pa_cons (pv 2) pa_nil))) pe_int (nomark _))))))))))
theorem ok_check_point {fd : FuncData} (Fu : Fun K "check_point" "check_point" s_check_point q.f_check_point fd) (T : Txt K mg a q)
    {fd_init : FuncData} (O_init : FnOk P w K mg base CX0 1 q.f_init fd_init ["self", "value"] (spInit K)) (B_init : Binds K fd_init ["self", "value"] [])
    {fd_is_point : FuncData} (O_is_point : FnOk P w K mg base CX0 2 q.f_is_point fd_is_point ["value"] (spD ⟨K, a.c_Relation, a.tabs⟩ (F_is_point a))) (b_is_point : Binds K fd_is_point ["value"] []) : FnOk P w K mg base (L2.CX P w) 3 q.f_check_point fd ["point"] (spD ⟨K, a.c_Relation, a.tabs⟩ (F_check_point a)) := by
  refine Fu.okX sc_check_point (spD_len (len_check_point a)) (fun cdv A outer s H vs Q E hr h => ⟨t_check_point ⟨K, a.c_Relation, a.tabs⟩ a E, ?_, bodyX_of (t := t_check_point ⟨K, a.c_Relation, a.tabs⟩ a) (ls_check_point (G := ⟨K, a.c_Relation, a.tabs⟩) (a := a) T.e_InvalidPoint) h⟩)
  have hr2 : Room 2 _ := hr.mono (by decide)
  exact (pss_one (ps_if (pt_not (pt_truth (pe_call O_is_point (hr.mono (by decide)) rfl T.g_is_point T.k_is_point b_is_point .nil pass0 (pa_cons (pv 0) pa_nil)) (by intro _; rfl))) (pss_one (ps_raise rfl (takes_of rfl rfl rfl rfl) (pmk_oex T.e_InvalidPoint.oex T.i_InvalidPoint T.ti O_init hr2 B_init .nil pass0 rfl T.g_InvalidPoint (pa_cons (pv 0) pa_nil)))) pss_nil))
theorem ok_partner_equation {fd : FuncData} (Fu : Fun K "partner_equation" "partner_equation" s_partner_equation q.f_partner_equation fd) (T : Txt K mg a q) : FnOk P w K mg base CX0 1 q.f_partner_equation fd ["numbers", "point"] (spD ⟨K, a.c_Relation, a.tabs⟩ (F_partner_equation a)) := by
  refine Fu.ok sc_partner_equation (spD_len (len_partner_equation a)) (fun cdv A outer s H vs Q E hr h => ⟨t_partner_equation ⟨K, a.c_Relation, a.tabs⟩ a, ?_, body_of (ls_partner_equation (G := ⟨K, a.c_Relation, a.tabs⟩) (a := a)) h⟩)
  exact (pss_cons (ps_asg (pv 0) (pg_unl rfl (pgs_cons (pg_name (i := 2) sc_partner_equation.nd rfl (Or.inl rfl)) (pgs_cons (pg_name (i := 3) sc_partner_equation.nd rfl (Or.inl rfl)) (pgs_cons (pg_name (i := 4) sc_partner_equation.nd rfl (Or.inl rfl)) (pgs_cons (pg_name (i := 5) sc_partner_equation.nd rfl (Or.inl rfl)) (pgs_cons (pg_name (i := 6) sc_partner_equation.nd rfl (Or.inl rfl)) (pgs_cons (pg_name (i := 7) sc_partner_equation.nd rfl (Or.inl rfl)) pgs_nil))))))))
    (pss_cons (ps_asg (pv 1) (pg_tup rfl (pgs_cons (pg_name (i := 8) sc_partner_equation.nd rfl (Or.inl rfl)) (pgs_cons (pg_name (i := 9) sc_partner_equation.nd rfl (Or.inl rfl)) pgs_nil))))
    (pss_cons (ps_par3 rfl sc_partner_equation.nd rfl rfl rfl (by decide) (by decide) (by decide) rfl rfl rfl (pa_cons (pe_op op_mulU (pv 8) (pv 8)) (pa_cons (pe_op op_mulU (pv 8) (pv 9)) (pa_cons (pe_op op_mulU (pv 9) (pv 9)) pa_nil))) (by rfl))
    (pss_one (ps_ret (pe_lst (pa_cons (pe_op op_addU (pe_op op_addU (pe_op op_mulU (pv 2) (pv 10)) (pe_op op_mulU (pv 3) (pv 11))) (pe_op op_mulU (pv 4) (pv 12))) (pa_cons (pe_op op_addU (pe_op op_addU (pe_op op_mulU (pv 3) (pv 10)) (pe_op op_mulU (pv 5) (pv 11))) (pe_op op_mulU (pv 6) (pv 12))) (pa_cons (pe_op op_addU (pe_op op_addU (pe_op op_mulU (pv 4) (pv 10)) (pe_op op_mulU (pv 6) (pv 11))) (pe_op op_mulU (pv 7) (pv 12))) pa_nil)))))))))
theorem ok_holds {fd : FuncData} (Fu : Fun K "holds" "holds" s_holds q.f_holds fd) (T : Txt K mg a q)
    {fd_check_point : FuncData} (O_check_point : FnOk P w K mg base (L2.CX P w) 3 q.f_check_point fd_check_point ["point"] (spD ⟨K, a.c_Relation, a.tabs⟩ (F_check_point a))) (b_check_point : Binds K fd_check_point ["point"] [])
    {fd_partner_equation : FuncData} (O_partner_equation : FnOk P w K mg base CX0 1 q.f_partner_equation fd_partner_equation ["numbers", "point"] (spD ⟨K, a.c_Relation, a.tabs⟩ (F_partner_equation a))) (b_partner_equation : Binds K fd_partner_equation ["numbers", "point"] [])
    {fd_Relation_numbers : FuncData} (O_Relation_numbers : FnOk P w K mg base CX0 1 q.f_Relation_numbers fd_Relation_numbers ["self"] (spD ⟨K, a.c_Relation, a.tabs⟩ (F_Relation_numbers a))) (b_Relation_numbers : Binds K fd_Relation_numbers ["self"] []) : FnOk P w K mg base (L2.CX P w) 4 q.f_holds fd ["relation", "first", "second"] (spD ⟨K, a.c_Relation, a.tabs⟩ (F_holds a)) := by
  refine Fu.okX sc_holds (spD_len (len_holds a)) (fun cdv A outer s H vs Q E hr h => ⟨t_holds ⟨K, a.c_Relation, a.tabs⟩ a E, ?_, bodyX_of (t := t_holds ⟨K, a.c_Relation, a.tabs⟩ a) (ls_holds (G := ⟨K, a.c_Relation, a.tabs⟩) (a := a)) h⟩)
  exact (pss_cons (ps_expr (pe_callS O_check_point (hr.mono (by decide)) rfl T.g_check_point T.k_check_point b_check_point (fun σ => passAt (takes_of rfl rfl rfl rfl) σ) (pa_cons (pv 1) pa_nil)))
    (pss_cons (ps_expr (pe_callS O_check_point (hr.mono (by decide)) rfl T.g_check_point T.k_check_point b_check_point (fun σ => passAt (takes_of rfl rfl rfl rfl) σ) (pa_cons (pv 2) pa_nil)))
    (pss_cons (ps_asg (pe_call O_partner_equation (hr.mono (by decide)) rfl T.g_partner_equation T.k_partner_equation b_partner_equation .nil pass0 (pa_cons (pe_prop (pv 0) T.rc T.rp O_Relation_numbers (hr.mono (by decide)) b_Relation_numbers .nil pass0 rfl) (pa_cons (pv 1) pa_nil))) (pg_unl rfl (pgs_cons (pg_name (i := 3) sc_holds.nd rfl (Or.inl rfl)) (pgs_cons (pg_name (i := 4) sc_holds.nd rfl (Or.inl rfl)) (pgs_cons (pg_name (i := 5) sc_holds.nd rfl (Or.inl rfl)) pgs_nil)))))
    (pss_cons (ps_asg (pv 2) (pg_tup rfl (pgs_cons (pg_name (i := 6) sc_holds.nd rfl (Or.inl rfl)) (pgs_cons (pg_name (i := 7) sc_holds.nd rfl (Or.inl rfl)) pgs_nil))))
    (pss_one (ps_ret (pe_cmpR (op_eqU hr.units) (pe_op op_addU (pe_op op_addU (pe_op op_mulU (pe_op op_mulU (pv 3) (pv 6)) (pv 6)) (pe_op op_mulU (pe_op op_mulU (pv 4) (pv 6)) (pv 7))) (pe_op op_mulU (pe_op op_mulU (pv 5) (pv 7)) (pv 7))) pe_int (nomark _))))))))
theorem ok_check_pair {fd : FuncData} (Fu : Fun K "check_pair" "check_pair" s_check_pair q.f_check_pair fd) (T : Txt K mg a q)
    {fd_init : FuncData} (O_init : FnOk P w K mg base CX0 1 q.f_init fd_init ["self", "value"] (spInit K)) (B_init : Binds K fd_init ["self", "value"] [])
    {fd_holds : FuncData} (O_holds : FnOk P w K mg base (L2.CX P w) 4 q.f_holds fd_holds ["relation", "first", "second"] (spD ⟨K, a.c_Relation, a.tabs⟩ (F_holds a))) (b_holds : Binds K fd_holds ["relation", "first", "second"] []) : FnOk P w K mg base (L2.CX P w) 5 q.f_check_pair fd ["relation", "first", "second"] (spD ⟨K, a.c_Relation, a.tabs⟩ (F_check_pair a)) := by
  refine Fu.okX sc_check_pair (spD_len (len_check_pair a)) (fun cdv A outer s H vs Q E hr h => ⟨t_check_pair ⟨K, a.c_Relation, a.tabs⟩ a E, ?_, bodyX_of (t := t_check_pair ⟨K, a.c_Relation, a.tabs⟩ a) (ls_check_pair (G := ⟨K, a.c_Relation, a.tabs⟩) (a := a) T.e_NotPair) h⟩)
  have hr2 : Room 2 _ := hr.mono (by decide)
  exact (pss_one (ps_if (pt_not (pt_truth (pe_callS O_holds (hr.mono (by decide)) rfl T.g_holds T.k_holds b_holds (fun σ => passAt (takes_of rfl rfl rfl rfl) σ) (pa_cons (pv 0) (pa_cons (pv 1) (pa_cons (pv 2) pa_nil)))) (by intro _; rfl))) (pss_one (ps_raise rfl (takes_of rfl rfl rfl rfl) (pmk_oex T.e_NotPair.oex T.i_NotPair T.ti O_init hr2 B_init .nil pass0 rfl T.g_NotPair (pa_cons (pe_tup (pa_cons (pv 1) (pa_cons (pv 2) pa_nil))) pa_nil)))) pss_nil))
theorem ok_other_root {fd : FuncData} (Fu : Fun K "other_root" "other_root" s_other_root q.f_other_root fd) (T : Txt K mg a q)
    {fd_partner_equation : FuncData} (O_partner_equation : FnOk P w K mg base CX0 1 q.f_partner_equation fd_partner_equation ["numbers", "point"] (spD ⟨K, a.c_Relation, a.tabs⟩ (F_partner_equation a))) (b_partner_equation : Binds K fd_partner_equation ["numbers", "point"] []) : FnOk P w K mg base CX0 2 q.f_other_root fd ["numbers", "point", "known"] (spD ⟨K, a.c_Relation, a.tabs⟩ (F_other_root a)) := by
  refine Fu.ok sc_other_root (spD_len (len_other_root a)) (fun cdv A outer s H vs Q E hr h => ⟨t_other_root ⟨K, a.c_Relation, a.tabs⟩ a, ?_, body_of (ls_other_root (G := ⟨K, a.c_Relation, a.tabs⟩) (a := a)) h⟩)
  exact (pss_cons (ps_asg (pe_call O_partner_equation (hr.mono (by decide)) rfl T.g_partner_equation T.k_partner_equation b_partner_equation .nil pass0 (pa_cons (pv 0) (pa_cons (pv 1) pa_nil))) (pg_unl rfl (pgs_cons (pg_name (i := 3) sc_other_root.nd rfl (Or.inl rfl)) (pgs_cons (pg_name (i := 4) sc_other_root.nd rfl (Or.inl rfl)) (pgs_cons (pg_name (i := 5) sc_other_root.nd rfl (Or.inl rfl)) pgs_nil)))))
    (pss_cons (ps_asg (pv 2) (pg_tup rfl (pgs_cons (pg_name (i := 6) sc_other_root.nd rfl (Or.inl rfl)) (pgs_cons (pg_name (i := 7) sc_other_root.nd rfl (Or.inl rfl)) pgs_nil))))
    (pss_cons (ps_if (pt_cmpR (op_eqU hr.units) (pv 7) pe_int (nomark _)) (pss_one (ps_ret (pe_tup (pa_cons (pe_un un_negU (pv 5)) (pa_cons (pv 4) pa_nil))))) pss_nil)
    (pss_one (ps_ret (pe_tup (pa_cons (pe_op op_subU (pe_op op_mulU (pe_un un_negU (pv 4)) (pv 7)) (pe_op op_mulU (pv 3) (pv 6))) (pa_cons (pe_op op_mulU (pv 3) (pv 7)) pa_nil))))))))
theorem ok_lowest {fd : FuncData} (Fu : Fun K "lowest" "lowest" s_lowest q.f_lowest fd) (T : Txt K mg a q)
    {fd_init : FuncData} (O_init : FnOk P w K mg base CX0 1 q.f_init fd_init ["self", "value"] (spInit K)) (B_init : Binds K fd_init ["self", "value"] [])
    (NS : base.NoSeer) (HT : P.given.tree = none) : FnOk P w K mg base (L2.CX P w) 38 q.f_lowest fd ["top", "bottom"] (spD ⟨K, a.c_Relation, a.tabs⟩ (F_lowest a)) := by
  refine Fu.okX sc_lowest (spD_len (len_lowest a)) (fun cdv A outer s H vs Q E hr h => ⟨t_lowest ⟨K, a.c_Relation, a.tabs⟩ a E, ?_, bodyX_of (t := t_lowest ⟨K, a.c_Relation, a.tabs⟩ a) (ls_lowest (G := ⟨K, a.c_Relation, a.tabs⟩) (a := a) T.e_InvalidNumber T.v_ENDLESS) h⟩)
  have hr2 : Room 2 _ := hr.mono (by decide)
  exact (pss_cons (ps_if (PW.pt (pw_and (pt_cmpR (op_eqU hr.units) (pv 0) pe_int (nomark _)) (pw_and1 (pt_cmpR (op_eqU hr.units) (pv 1) pe_int (nomark _))))) (pss_one (ps_raise rfl (takes_of rfl rfl rfl rfl) (pmk_oex T.e_InvalidNumber.oex T.i_InvalidNumber T.ti O_init hr2 B_init .nil pass0 rfl T.g_InvalidNumber (pa_cons pe_int pa_nil)))) pss_nil)
    (pss_cons (ps_if (pt_cmpR (op_eqU hr.units) (pv 1) pe_int (nomark _)) (pss_one (ps_ret (pe_glob rfl T.g_ENDLESS rfl))) pss_nil)
    (pss_cons (ps_set (i := 2) sc_lowest.nd rfl (Or.inl rfl) (pe_callBfun cr_gcd rfl T.x_gcd (pa_cons (pv 0) (pa_cons (pv 1) pa_nil))))
    (pss_cons (ps_if (pt_cmpR op_ltU (pv 1) pe_int (nomark _)) (pss_one (ps_set (i := 2) sc_lowest.nd rfl (Or.inl rfl) (pe_un un_negU (pv 2)))) pss_nil)
    (pss_one (ps_ret (pe_tup (pa_cons (pe_op (op_fdivP NS HT (hr.mono (by decide)) ⟨_, _, rfl, rfl, rfl, rfl, rfl⟩) (pv 0) (pv 2)) (pa_cons (pe_op (op_fdivP NS HT (hr.mono (by decide)) ⟨_, _, rfl, rfl, rfl, rfl, rfl⟩) (pv 1) (pv 2)) pa_nil)))))))))
theorem ok_other_partner {fd : FuncData} (Fu : Fun K "_other_partner" "_other_partner" s_other_partner q.f_other_partner fd) (T : Txt K mg a q)
    {fd_other_root : FuncData} (O_other_root : FnOk P w K mg base CX0 2 q.f_other_root fd_other_root ["numbers", "point", "known"] (spD ⟨K, a.c_Relation, a.tabs⟩ (F_other_root a))) (b_other_root : Binds K fd_other_root ["numbers", "point", "known"] [])
    {fd_lowest : FuncData} (O_lowest : FnOk P w K mg base (L2.CX P w) 38 q.f_lowest fd_lowest ["top", "bottom"] (spD ⟨K, a.c_Relation, a.tabs⟩ (F_lowest a))) (b_lowest : Binds K fd_lowest ["top", "bottom"] []) : FnOk P w K mg base (L2.CX P w) 39 q.f_other_partner fd ["numbers", "point", "known"] (spD ⟨K, a.c_Relation, a.tabs⟩ (F_other_partner a)) := by
  refine Fu.okX sc_other_partner (spD_len (len_other_partner a)) (fun cdv A outer s H vs Q E hr h => ⟨t_other_partner ⟨K, a.c_Relation, a.tabs⟩ a E, ?_, bodyX_of (t := t_other_partner ⟨K, a.c_Relation, a.tabs⟩ a) (ls_other_partner (G := ⟨K, a.c_Relation, a.tabs⟩) (a := a)) h⟩)
  exact (pss_cons (ps_asg (pe_call O_other_root (hr.mono (by decide)) rfl T.g_other_root T.k_other_root b_other_root .nil pass0 (pa_cons (pv 0) (pa_cons (pv 1) (pa_cons (pv 2) pa_nil)))) (pg_tup rfl (pgs_cons (pg_name (i := 3) sc_other_partner.nd rfl (Or.inl rfl)) (pgs_cons (pg_name (i := 4) sc_other_partner.nd rfl (Or.inl rfl)) pgs_nil))))
    (pss_one (ps_ret (pe_callS O_lowest (hr.mono (by decide)) rfl T.g_lowest T.k_lowest b_lowest (fun σ => passAt (takes_of rfl rfl rfl rfl) σ) (pa_cons (pv 3) (pa_cons (pv 4) pa_nil))))))
theorem ok_members {fd : FuncData} (Fu : Fun K "_members" "_members" s_members q.f_members fd) (T : Txt K mg a q)
    {fd_other_partner : FuncData} (O_other_partner : FnOk P w K mg base (L2.CX P w) 39 q.f_other_partner fd_other_partner ["numbers", "point", "known"] (spD ⟨K, a.c_Relation, a.tabs⟩ (F_other_partner a))) (b_other_partner : Binds K fd_other_partner ["numbers", "point", "known"] []) : FnOk P w K mg base (L2.CX P w) 40 q.f_members fd ["numbers", "first", "second", "length"] (spD ⟨K, a.c_Relation, a.tabs⟩ (F_members a)) := by
  refine Fu.okX sc_members (spD_len (len_members a)) (fun cdv A outer s H vs Q E hr h => ⟨t_members ⟨K, a.c_Relation, a.tabs⟩ a E, ?_, bodyX_of (t := t_members ⟨K, a.c_Relation, a.tabs⟩ a) (ls_members (G := ⟨K, a.c_Relation, a.tabs⟩) (a := a)) h⟩)
  exact (pss_cons (ps_set (i := 4) sc_members.nd rfl (Or.inl rfl) (pe_lst (pa_cons (pv 1) (pa_cons (pv 2) pa_nil))))
    (pss_cons (ps_while (passes_of rfl) (pt_cmpR op_ltU (pe_callB cr_len (by rfl) T.n_len (by decide +kernel) (pa_cons (pv 4) pa_nil)) (pv 3) (nomark _)) (pss_one (ps_expr (pe_bm PySem.F.plainAttrs_list PySem.F.slot_list_append PySem.F.type_list_append mt_append (pv 4) (pa_cons (pe_callS O_other_partner (hr.mono (by decide)) rfl T.g_other_partner T.k_other_partner b_other_partner (fun σ => passAt (takes_of rfl rfl rfl rfl) σ) (pa_cons (pv 0) (pa_cons (pe_ix ix_seq (pv 4) (pe_un un_negU pe_int) (fun _ _ => rfl)) (pa_cons (pe_ix ix_seq (pv 4) (pe_un un_negU pe_int) (fun _ _ => rfl)) pa_nil)))) pa_nil)))))
    (pss_one (ps_ret (pe_slice sl_list (pv 4) po_none (po_some (pv 3)))))))
theorem ok_chain {fd : FuncData} (Fu : Fun K "chain" "chain" s_chain q.f_chain fd) (T : Txt K mg a q)
    {fd_init : FuncData} (O_init : FnOk P w K mg base CX0 1 q.f_init fd_init ["self", "value"] (spInit K)) (B_init : Binds K fd_init ["self", "value"] [])
    {fd_check_pair : FuncData} (O_check_pair : FnOk P w K mg base (L2.CX P w) 5 q.f_check_pair fd_check_pair ["relation", "first", "second"] (spD ⟨K, a.c_Relation, a.tabs⟩ (F_check_pair a))) (b_check_pair : Binds K fd_check_pair ["relation", "first", "second"] [])
    {fd_members : FuncData} (O_members : FnOk P w K mg base (L2.CX P w) 40 q.f_members fd_members ["numbers", "first", "second", "length"] (spD ⟨K, a.c_Relation, a.tabs⟩ (F_members a))) (b_members : Binds K fd_members ["numbers", "first", "second", "length"] [])
    {fd_Relation_numbers : FuncData} (O_Relation_numbers : FnOk P w K mg base CX0 1 q.f_Relation_numbers fd_Relation_numbers ["self"] (spD ⟨K, a.c_Relation, a.tabs⟩ (F_Relation_numbers a))) (b_Relation_numbers : Binds K fd_Relation_numbers ["self"] []) : FnOk P w K mg base (L2.CX P w) 41 q.f_chain fd ["relation", "first", "second", "length"] (spD ⟨K, a.c_Relation, a.tabs⟩ (F_chain a)) := by
  refine Fu.okX sc_chain (spD_len (len_chain a)) (fun cdv A outer s H vs Q E hr h => ⟨t_chain ⟨K, a.c_Relation, a.tabs⟩ a E, ?_, bodyX_of (t := t_chain ⟨K, a.c_Relation, a.tabs⟩ a) (ls_chain (G := ⟨K, a.c_Relation, a.tabs⟩) (a := a) T.e_InvalidNumber) h⟩)
  have hr2 : Room 2 _ := hr.mono (by decide)
  exact (pss_cons (ps_expr (pe_callS O_check_pair (hr.mono (by decide)) rfl T.g_check_pair T.k_check_pair b_check_pair (fun σ => passAt (takes_of rfl rfl rfl rfl) σ) (pa_cons (pv 0) (pa_cons (pv 1) (pa_cons (pv 2) pa_nil)))))
    (pss_cons (ps_if (pt_cmpR op_ltU (pv 3) pe_int (nomark _)) (pss_one (ps_raise rfl (takes_of rfl rfl rfl rfl) (pmk_oex T.e_InvalidNumber.oex T.i_InvalidNumber T.ti O_init hr2 B_init .nil pass0 rfl T.g_InvalidNumber (pa_cons (pv 3) pa_nil)))) pss_nil)
    (pss_one (ps_ret (pe_callS O_members (hr.mono (by decide)) rfl T.g_members T.k_members b_members (fun σ => passAt (takes_of rfl rfl rfl rfl) σ) (pa_cons (pe_prop (pv 0) T.rc T.rp O_Relation_numbers (hr.mono (by decide)) b_Relation_numbers .nil pass0 rfl) (pa_cons (pv 1) (pa_cons (pv 2) (pa_cons (pv 3) pa_nil)))))))))
theorem ok_multiples {fd : FuncData} (Fu : Fun K "multiples" "multiples" s_multiples q.f_multiples fd) (T : Txt K mg a q)
    {fd_invariants : FuncData} (O_invariants : FnOk P w K mg base CX0 1 q.f_invariants fd_invariants ["quartic_numbers"] (spD ⟨K, a.c_Relation, a.tabs⟩ (F_invariants a))) (b_invariants : Binds K fd_invariants ["quartic_numbers"] [])
    {fd_quartic : FuncData} (O_quartic : FnOk P w K mg base CX0 3 q.f_quartic fd_quartic ["relation"] (spD ⟨K, a.c_Relation, a.tabs⟩ (F_quartic a))) (b_quartic : Binds K fd_quartic ["relation"] [])
    {fd_step : FuncData} (O_step : FnOk P w K mg base CX0 1 q.f_step fd_step ["numbers"] (spD ⟨K, a.c_Relation, a.tabs⟩ (F_step a))) (b_step : Binds K fd_step ["numbers"] [])
    {fd_Relation_numbers : FuncData} (O_Relation_numbers : FnOk P w K mg base CX0 1 q.f_Relation_numbers fd_Relation_numbers ["self"] (spD ⟨K, a.c_Relation, a.tabs⟩ (F_Relation_numbers a))) (b_Relation_numbers : Binds K fd_Relation_numbers ["self"] [])
    {fd_Relation_init : FuncData} (O_Relation_init : FnOk P w K mg base (L2.CX P w) 39 q.f_Relation_init fd_Relation_init ["self", "numbers"] (spMk ⟨K, a.c_Relation, a.tabs⟩ (F_Relation_init a))) (b_Relation_init : Binds K fd_Relation_init ["self", "numbers"] [])
    {fd_chain : FuncData} (O_chain : FnOk P w K mg base (L2.CX P w) 41 q.f_chain fd_chain ["relation", "first", "second", "length"] (spD ⟨K, a.c_Relation, a.tabs⟩ (F_chain a))) (b_chain : Binds K fd_chain ["relation", "first", "second", "length"] []) : FnOk P w K mg base (L2.CX P w) 42 q.f_multiples fd ["relation"] (spD ⟨K, a.c_Relation, a.tabs⟩ (F_multiples a)) := by
  refine Fu.okX sc_multiples (spD_len (len_multiples a)) (fun cdv A outer s H vs Q E hr h => ⟨t_multiples ⟨K, a.c_Relation, a.tabs⟩ a E, ?_, bodyX_of (t := t_multiples ⟨K, a.c_Relation, a.tabs⟩ a) (ls_multiples (G := ⟨K, a.c_Relation, a.tabs⟩) (a := a) T.v_ENDLESS) h⟩)
  exact (pss_cons (ps_asg (pe_call O_invariants (hr.mono (by decide)) rfl T.g_invariants T.k_invariants b_invariants .nil pass0 (pa_cons (pe_call O_quartic (hr.mono (by decide)) rfl T.g_quartic T.k_quartic b_quartic .nil pass0 (pa_cons (pv 0) pa_nil)) pa_nil)) (pg_tup rfl (pgs_cons (pg_name (i := 1) sc_multiples.nd rfl (Or.inl rfl)) (pgs_cons (pg_name (i := 2) sc_multiples.nd rfl (Or.inl rfl)) pgs_nil))))
    (pss_cons (ps_set (i := 3) sc_multiples.nd rfl (Or.inl rfl) (pe_call O_step (hr.mono (by decide)) rfl T.g_step T.k_step b_step .nil pass0 (pa_cons (pe_prop (pv 0) T.rc T.rp O_Relation_numbers (hr.mono (by decide)) b_Relation_numbers .nil pass0 rfl) pa_nil)))
    (pss_cons (ps_set (i := 4) sc_multiples.nd rfl (Or.inl rfl) (pe_makeS T.rm O_Relation_init (hr.mono (by decide)) rfl T.g_Relation b_Relation_init (fun σ => passAt (takes_of rfl rfl rfl rfl) σ) (pa_cons (pe_lst (pa_cons pe_int (pa_cons (pe_op op_mulU (pe_un un_negU pe_int) (pv 3)) (pa_cons (pe_op op_mulU (pv 3) (pv 3)) (pa_cons (pe_op op_subU (pe_op op_mulU pe_int (pv 1)) (pe_op op_mulU (pe_op op_mulU pe_int (pv 3)) (pv 3))) (pa_cons (pe_op op_addU (pe_op op_mulU (pe_op op_mulU pe_int (pv 1)) (pv 3)) (pe_op op_mulU pe_int (pv 2))) (pa_cons (pe_op op_addU (pe_op op_mulU (pe_op op_mulU pe_int (pv 1)) (pv 1)) (pe_op op_mulU (pe_op op_mulU pe_int (pv 2)) (pv 3))) pa_nil))))))) pa_nil)))
    (pss_one (ps_ret (pe_callS O_chain (hr.mono (by decide)) rfl T.g_chain T.k_chain b_chain (fun σ => passAt (takes_of rfl rfl rfl rfl) σ) (pa_cons (pv 4) (pa_cons (pe_glob rfl T.g_ENDLESS rfl) (pa_cons (pe_tup (pa_cons (pv 3) (pa_cons pe_int pa_nil))) (pa_cons (pe_op op_addU (pe_globI rfl T.g_MOST_STEPS) pe_int) pa_nil))))))))))
theorem ok_step_numbers {fd : FuncData} (Fu : Fun K "step_numbers" "step_numbers" s_step_numbers q.f_step_numbers fd) (T : Txt K mg a q)
    {fd_init : FuncData} (O_init : FnOk P w K mg base CX0 1 q.f_init fd_init ["self", "value"] (spInit K)) (B_init : Binds K fd_init ["self", "value"] [])
    {fd_without_divisor : FuncData} (O_without_divisor : FnOk P w K mg base CX0 38 q.f_without_divisor fd_without_divisor ["numbers"] (spD ⟨K, a.c_Relation, a.tabs⟩ (F_without_divisor a))) (b_without_divisor : Binds K fd_without_divisor ["numbers"] [])
    {fd_numbers_at : FuncData} (O_numbers_at : FnOk P w K mg base CX0 2 q.f_numbers_at fd_numbers_at ["quartic_numbers", "x"] (spD ⟨K, a.c_Relation, a.tabs⟩ (F_numbers_at a))) (b_numbers_at : Binds K fd_numbers_at ["quartic_numbers", "x"] [])
    {fd_quartic : FuncData} (O_quartic : FnOk P w K mg base CX0 3 q.f_quartic fd_quartic ["relation"] (spD ⟨K, a.c_Relation, a.tabs⟩ (F_quartic a))) (b_quartic : Binds K fd_quartic ["relation"] [])
    {fd_multiples : FuncData} (O_multiples : FnOk P w K mg base (L2.CX P w) 42 q.f_multiples fd_multiples ["relation"] (spD ⟨K, a.c_Relation, a.tabs⟩ (F_multiples a))) (b_multiples : Binds K fd_multiples ["relation"] []) : FnOk P w K mg base (L2.CX P w) 43 q.f_step_numbers fd ["relation", "number"] (spD ⟨K, a.c_Relation, a.tabs⟩ (F_step_numbers a)) := by
  refine Fu.okX sc_step_numbers (spD_len (len_step_numbers a)) (fun cdv A outer s H vs Q E hr h => ⟨t_step_numbers ⟨K, a.c_Relation, a.tabs⟩ a E, ?_, bodyX_of (t := t_step_numbers ⟨K, a.c_Relation, a.tabs⟩ a) (ls_step_numbers (G := ⟨K, a.c_Relation, a.tabs⟩) (a := a) T.e_InvalidNumber) h⟩)
  have hr2 : Room 2 _ := hr.mono (by decide)
  exact (pss_cons (ps_if (PW.pt (pw_or (pt_cmpR op_ltU (pv 1) pe_int (nomark _)) (pw_or1 (pt_cmpR op_gtU (pv 1) (pe_globI rfl T.g_MOST_STEPS) (nomark _))))) (pss_one (ps_raise rfl (takes_of rfl rfl rfl rfl) (pmk_oex T.e_InvalidNumber.oex T.i_InvalidNumber T.ti O_init hr2 B_init .nil pass0 rfl T.g_InvalidNumber (pa_cons (pv 1) pa_nil)))) pss_nil)
    (pss_one (ps_ret (pe_call O_without_divisor (hr.mono (by decide)) rfl T.g_without_divisor T.k_without_divisor b_without_divisor .nil pass0 (pa_cons (pe_call O_numbers_at (hr.mono (by decide)) rfl T.g_numbers_at T.k_numbers_at b_numbers_at .nil pass0 (pa_cons (pe_call O_quartic (hr.mono (by decide)) rfl T.g_quartic T.k_quartic b_quartic .nil pass0 (pa_cons (pv 0) pa_nil)) (pa_cons (pe_ix ix_seq (pe_callS O_multiples (hr.mono (by decide)) rfl T.g_multiples T.k_multiples b_multiples (fun σ => passAt (takes_of rfl rfl rfl rfl) σ) (pa_cons (pv 0) pa_nil)) (pv 1) (fun _ _ => rfl)) pa_nil))) pa_nil)))))
theorem ok_law_right {fd : FuncData} (Fu : Fun K "_law_right" "_law_right" s_law_right q.f_law_right fd) (T : Txt K mg a q)
    {fd_law_start : FuncData} (O_law_start : FnOk P w K mg base CX0 41 q.f_law_start fd_law_start ["pool"] (spD ⟨K, a.c_Relation, a.tabs⟩ (F_law_start a))) (b_law_start : Binds K fd_law_start ["pool"] [])
    {fd_law_draw : FuncData} (O_law_draw : FnOk P w K mg base CX0 1 q.f_law_draw fd_law_draw ["pool", "span"] (spD ⟨K, a.c_Relation, a.tabs⟩ (F_law_draw a))) (b_law_draw : Binds K fd_law_draw ["pool", "span"] [])
    {fd_law_made : FuncData} (O_law_made : FnOk P w K mg base CX0 41 q.f_law_made fd_law_made ["numbers_here"] (spD ⟨K, a.c_Relation, a.tabs⟩ (F_law_made a))) (b_law_made : Binds K fd_law_made ["numbers_here"] [])
    {fd_law_chain : FuncData} (O_law_chain : FnOk P w K mg base CX0 4 q.f_law_chain fd_law_chain ["numbers_here", "left", "right", "count_here"] (spD ⟨K, a.c_Relation, a.tabs⟩ (F_law_chain a))) (b_law_chain : Binds K fd_law_chain ["numbers_here", "left", "right", "count_here"] [])
    {fd_law_only : FuncData} (O_law_only : FnOk P w K mg base CX0 39 q.f_law_only fd_law_only ["rows_here"] (spD ⟨K, a.c_Relation, a.tabs⟩ (F_law_only a))) (b_law_only : Binds K fd_law_only ["rows_here"] [])
    {fd_law_terms : FuncData} (O_law_terms : FnOk P w K mg base CX0 2 q.f_law_terms fd_law_terms ["one_here", "two_here"] (spD ⟨K, a.c_Relation, a.tabs⟩ (F_law_terms a))) (b_law_terms : Binds K fd_law_terms ["one_here", "two_here"] [])
    {fd_step_numbers : FuncData} (O_step_numbers : FnOk P w K mg base (L2.CX P w) 43 q.f_step_numbers fd_step_numbers ["relation", "number"] (spD ⟨K, a.c_Relation, a.tabs⟩ (F_step_numbers a))) (b_step_numbers : Binds K fd_step_numbers ["relation", "number"] []) : FnOk P w K mg base CX0 44 q.f_law_right fd ["pool"] (spD ⟨K, a.c_Relation, a.tabs⟩ (F_law_right a)) := by
  refine Fu.ok sc_law_right (spD_len (len_law_right a)) (fun cdv A outer s H vs Q E hr h => ⟨t_law_right ⟨K, a.c_Relation, a.tabs⟩ a, ?_, body_of (ls_law_right (G := ⟨K, a.c_Relation, a.tabs⟩) (a := a)) h⟩)
  exact (pss_cons (ps_asg (pe_call O_law_start (hr.mono (by decide)) rfl T.g_law_start T.k_law_start b_law_start .nil pass0 (pa_cons (pv 0) pa_nil)) (pg_tup rfl (pgs_cons (pg_name (i := 1) sc_law_right.nd rfl (Or.inl rfl)) (pgs_cons (pg_name (i := 2) sc_law_right.nd rfl (Or.inl rfl)) (pgs_cons (pg_name (i := 3) sc_law_right.nd rfl (Or.inl rfl)) pgs_nil)))))
    (pss_cons (ps_asg (pe_tup (pa_cons (pe_op op_addU pe_int (pe_call O_law_draw (hr.mono (by decide)) rfl T.g_law_draw T.k_law_draw b_law_draw .nil pass0 (pa_cons (pv 0) (pa_cons pe_int pa_nil)))) (pa_cons (pe_call O_law_made (hr.mono (by decide)) rfl T.g_law_made T.k_law_made b_law_made .nil pass0 (pa_cons (pv 1) pa_nil)) pa_nil))) (pg_tup rfl (pgs_cons (pg_name (i := 4) sc_law_right.nd rfl (by first | exact Or.inl rfl | exact Or.inr rfl)) (pgs_cons (pg_name (i := 5) sc_law_right.nd rfl (Or.inl rfl)) pgs_nil))))
    (pss_cons (ps_set (i := 6) sc_law_right.nd rfl (by first | exact Or.inr rfl | exact Or.inl rfl) (pe_op op_addU (pe_slice sl_list (pe_revL (pe_call O_law_chain (hr.mono (by decide)) rfl T.g_law_chain T.k_law_chain b_law_chain .nil pass0 (pa_cons (pv 1) (pa_cons (pv 3) (pa_cons (pv 2) (pa_cons pe_int pa_nil)))))) po_none (po_some pe_int)) (pe_call O_law_chain (hr.mono (by decide)) rfl T.g_law_chain T.k_law_chain b_law_chain .nil pass0 (pa_cons (pv 1) (pa_cons (pv 2) (pa_cons (pv 3) (pa_cons (pe_op op_addU pe_int (pv 4)) pa_nil)))))))
    (pss_cons (ps_set (i := 7) sc_law_right.nd rfl (Or.inl rfl) (pe_call O_law_only (hr.mono (by decide)) rfl T.g_law_only T.k_law_only b_law_only .nil pass0 (pa_cons (pe_lc (own := [("spot", 8)]) (g := (gName 8)) (tt := tYes) rfl sc_law_right.nd (pi_range1 rfl T.n_range (pa_cons pe_int pa_nil)) (blkOk_by (N := N_law_right) (sc := defScope s_law_right) (by decide +kernel)) (fun _ _ _ _ _ => (pg_name (i := 8) sc_law_right.nd rfl (by first | exact Or.inl rfl | exact Or.inr rfl))) (fun _ _ _ _ _ => pts_nil) (fun _ _ _ _ _ => (pe_call O_law_terms (hr.mono (by decide)) rfl T.g_law_terms T.k_law_terms b_law_terms .nil pass0 (pa_cons (pe_ix ix_seq (pv 6) (pv 8) (fun _ _ => rfl)) (pa_cons (pe_ix ix_seq (pv 6) (pe_op op_addU (pv 8) (pv 4)) (fun _ _ => rfl)) pa_nil))))) pa_nil)))
    (pss_one (ps_ret (pe_or (pe_cmpR (op_eqU hr.units) (pv 7) (pe_lst pa_nil) (nomark _)) (pe_one (pe_cmpR (op_eqU hr.units) (pe_call O_step_numbers (hr.mono (by decide)) rfl T.g_step_numbers T.k_step_numbers b_step_numbers .nil passL (pa_cons (pv 5) (pa_cons (pv 4) pa_nil))) (pv 7) (nomark _))))))))))
theorem ok_law {fd : FuncData} (Fu : Fun K "law" "law" s_law q.f_law fd) (T : Txt K mg a q)
    {fd_law_pool : FuncData} (O_law_pool : FnOk P w K mg base CX0 1 q.f_law_pool fd_law_pool ["script", "spot"] (spD ⟨K, a.c_Relation, a.tabs⟩ (F_law_pool a))) (b_law_pool : Binds K fd_law_pool ["script", "spot"] [])
    {fd_law_right : FuncData} (O_law_right : FnOk P w K mg base CX0 44 q.f_law_right fd_law_right ["pool"] (spD ⟨K, a.c_Relation, a.tabs⟩ (F_law_right a))) (b_law_right : Binds K fd_law_right ["pool"] []) : FnOk P w K mg base CX0 45 q.f_law fd ["script"] (spD ⟨K, a.c_Relation, a.tabs⟩ (F_law a)) := by
  refine Fu.ok sc_law (spD_len (len_law a)) (fun cdv A outer s H vs Q E hr h => ⟨t_law ⟨K, a.c_Relation, a.tabs⟩ a, ?_, body_of (ls_law (G := ⟨K, a.c_Relation, a.tabs⟩) (a := a)) h⟩)
  exact (pss_cons (ps_for PassesOwn.never rfl (pi_range1 rfl T.n_range (pa_cons (pe_callB (cr_mx rfl) (by rfl) T.n_max (by decide +kernel) (pa_cons pe_int (pa_cons (pe_callB (cr_mn rfl) (by rfl) T.n_min (by decide +kernel) (pa_cons pe_int (pa_cons (pe_callB cr_len (by rfl) T.n_len (by decide +kernel) (pa_cons (pv 0) pa_nil)) pa_nil))) pa_nil))) pa_nil)) (pg_name (i := 1) sc_law.nd rfl (Or.inl rfl)) (pss_cons (ps_set (i := 2) sc_law.nd rfl (Or.inl rfl) (pe_call O_law_pool (hr.mono (by decide)) rfl T.g_law_pool T.k_law_pool b_law_pool .nil pass0 (pa_cons (pv 0) (pa_cons (pv 1) pa_nil))))
    (pss_one (ps_for PassesOwn.never rfl (pi_range1 rfl T.n_range (pa_cons pe_int pa_nil)) (pg_name (i := 3) sc_law.nd rfl (Or.inl rfl)) (pss_one (ps_if (pt_not (pt_truth (pe_call O_law_right (hr.mono (by decide)) rfl T.g_law_right T.k_law_right b_law_right .nil pass0 (pa_cons (pv 2) pa_nil)) (by intro _; rfl))) (pss_one (ps_ret pe_bl)) pss_nil))))))
    (pss_one (ps_ret pe_bl)))
end


theorem all_mk {l : PySem.W.OpenLaw} {w : World} {K : PySem.W.Frag} {h : Heap} {mg : Str → Option Value} {fa : Addr} (X : K.In h) (G : h.Ns mainGlobals mg) (hfa : mg "law" = some (.ref fa))
    {f_law_pool f_law_draw f_law_tate f_law_at f_law_form f_law_five f_law_plain f_law_is_straight f_law_known f_law_low f_law_next f_law_chain f_law_start f_invariants f_bend f_without_divisor f_quartic_of f_Relation_init f_law_made f_law_terms f_law_only f_hessian f_numbers_at f_Relation_numbers f_quartic f_step f_is_whole f_is_point f_check_point f_partner_equation f_holds f_check_pair f_other_root f_lowest f_other_partner f_members f_chain f_multiples f_step_numbers f_law_right f_law f_init c_Bent c_ENDLESS c_InvalidNumber c_InvalidPoint c_NotPair c_Relation p_numbers : Addr}
    {t_MOST_STEPS : Nat}
    {oc_law_pool kV_law_pool dc_law_pool pm_law_pool cd_law_pool ct_law_pool : Value} {od_law_pool an_law_pool : Option Addr} {sl_law_pool : Array (Option Value)}
    {oc_law_draw kV_law_draw dc_law_draw pm_law_draw cd_law_draw ct_law_draw : Value} {od_law_draw an_law_draw : Option Addr} {sl_law_draw : Array (Option Value)}
    {oc_law_tate kV_law_tate dc_law_tate pm_law_tate cd_law_tate ct_law_tate : Value} {od_law_tate an_law_tate : Option Addr} {sl_law_tate : Array (Option Value)}
    {oc_law_at kV_law_at dc_law_at pm_law_at cd_law_at ct_law_at : Value} {od_law_at an_law_at : Option Addr} {sl_law_at : Array (Option Value)}
    {oc_law_form kV_law_form dc_law_form pm_law_form cd_law_form ct_law_form : Value} {od_law_form an_law_form : Option Addr} {sl_law_form : Array (Option Value)}
    {oc_law_five kV_law_five dc_law_five pm_law_five cd_law_five ct_law_five : Value} {od_law_five an_law_five : Option Addr} {sl_law_five : Array (Option Value)}
    {oc_law_plain kV_law_plain dc_law_plain pm_law_plain cd_law_plain ct_law_plain : Value} {od_law_plain an_law_plain : Option Addr} {sl_law_plain : Array (Option Value)}
    {oc_law_is_straight kV_law_is_straight dc_law_is_straight pm_law_is_straight cd_law_is_straight ct_law_is_straight : Value} {od_law_is_straight an_law_is_straight : Option Addr} {sl_law_is_straight : Array (Option Value)}
    {oc_law_known kV_law_known dc_law_known pm_law_known cd_law_known ct_law_known : Value} {od_law_known an_law_known : Option Addr} {sl_law_known : Array (Option Value)}
    {oc_law_low kV_law_low dc_law_low pm_law_low cd_law_low ct_law_low : Value} {od_law_low an_law_low : Option Addr} {sl_law_low : Array (Option Value)}
    {oc_law_next kV_law_next dc_law_next pm_law_next cd_law_next ct_law_next : Value} {od_law_next an_law_next : Option Addr} {sl_law_next : Array (Option Value)}
    {oc_law_chain kV_law_chain dc_law_chain pm_law_chain cd_law_chain ct_law_chain : Value} {od_law_chain an_law_chain : Option Addr} {sl_law_chain : Array (Option Value)}
    {oc_law_start kV_law_start dc_law_start pm_law_start cd_law_start ct_law_start : Value} {od_law_start an_law_start : Option Addr} {sl_law_start : Array (Option Value)}
    {oc_invariants kV_invariants dc_invariants pm_invariants cd_invariants ct_invariants : Value} {od_invariants an_invariants : Option Addr} {sl_invariants : Array (Option Value)}
    {oc_bend kV_bend dc_bend pm_bend cd_bend ct_bend : Value} {od_bend an_bend : Option Addr} {sl_bend : Array (Option Value)}
    {oc_without_divisor kV_without_divisor dc_without_divisor pm_without_divisor cd_without_divisor ct_without_divisor : Value} {od_without_divisor an_without_divisor : Option Addr} {sl_without_divisor : Array (Option Value)}
    {oc_quartic_of kV_quartic_of dc_quartic_of pm_quartic_of cd_quartic_of ct_quartic_of : Value} {od_quartic_of an_quartic_of : Option Addr} {sl_quartic_of : Array (Option Value)}
    {oc_Relation_init kV_Relation_init dc_Relation_init pm_Relation_init cd_Relation_init ct_Relation_init : Value} {od_Relation_init an_Relation_init : Option Addr} {sl_Relation_init : Array (Option Value)}
    {oc_law_made kV_law_made dc_law_made pm_law_made cd_law_made ct_law_made : Value} {od_law_made an_law_made : Option Addr} {sl_law_made : Array (Option Value)}
    {oc_law_terms kV_law_terms dc_law_terms pm_law_terms cd_law_terms ct_law_terms : Value} {od_law_terms an_law_terms : Option Addr} {sl_law_terms : Array (Option Value)}
    {oc_law_only kV_law_only dc_law_only pm_law_only cd_law_only ct_law_only : Value} {od_law_only an_law_only : Option Addr} {sl_law_only : Array (Option Value)}
    {oc_hessian kV_hessian dc_hessian pm_hessian cd_hessian ct_hessian : Value} {od_hessian an_hessian : Option Addr} {sl_hessian : Array (Option Value)}
    {oc_numbers_at kV_numbers_at dc_numbers_at pm_numbers_at cd_numbers_at ct_numbers_at : Value} {od_numbers_at an_numbers_at : Option Addr} {sl_numbers_at : Array (Option Value)}
    {oc_Relation_numbers kV_Relation_numbers dc_Relation_numbers pm_Relation_numbers cd_Relation_numbers ct_Relation_numbers : Value} {od_Relation_numbers an_Relation_numbers : Option Addr} {sl_Relation_numbers : Array (Option Value)}
    {rest_numbers : List Value}
    {oc_quartic kV_quartic dc_quartic pm_quartic cd_quartic ct_quartic : Value} {od_quartic an_quartic : Option Addr} {sl_quartic : Array (Option Value)}
    {oc_step kV_step dc_step pm_step cd_step ct_step : Value} {od_step an_step : Option Addr} {sl_step : Array (Option Value)}
    {oc_is_whole kV_is_whole dc_is_whole pm_is_whole cd_is_whole ct_is_whole : Value} {od_is_whole an_is_whole : Option Addr} {sl_is_whole : Array (Option Value)}
    {oc_is_point kV_is_point dc_is_point pm_is_point cd_is_point ct_is_point : Value} {od_is_point an_is_point : Option Addr} {sl_is_point : Array (Option Value)}
    {oc_check_point kV_check_point dc_check_point pm_check_point cd_check_point ct_check_point : Value} {od_check_point an_check_point : Option Addr} {sl_check_point : Array (Option Value)}
    {oc_partner_equation kV_partner_equation dc_partner_equation pm_partner_equation cd_partner_equation ct_partner_equation : Value} {od_partner_equation an_partner_equation : Option Addr} {sl_partner_equation : Array (Option Value)}
    {oc_holds kV_holds dc_holds pm_holds cd_holds ct_holds : Value} {od_holds an_holds : Option Addr} {sl_holds : Array (Option Value)}
    {oc_check_pair kV_check_pair dc_check_pair pm_check_pair cd_check_pair ct_check_pair : Value} {od_check_pair an_check_pair : Option Addr} {sl_check_pair : Array (Option Value)}
    {oc_other_root kV_other_root dc_other_root pm_other_root cd_other_root ct_other_root : Value} {od_other_root an_other_root : Option Addr} {sl_other_root : Array (Option Value)}
    {oc_lowest kV_lowest dc_lowest pm_lowest cd_lowest ct_lowest : Value} {od_lowest an_lowest : Option Addr} {sl_lowest : Array (Option Value)}
    {oc_other_partner kV_other_partner dc_other_partner pm_other_partner cd_other_partner ct_other_partner : Value} {od_other_partner an_other_partner : Option Addr} {sl_other_partner : Array (Option Value)}
    {oc_members kV_members dc_members pm_members cd_members ct_members : Value} {od_members an_members : Option Addr} {sl_members : Array (Option Value)}
    {oc_chain kV_chain dc_chain pm_chain cd_chain ct_chain : Value} {od_chain an_chain : Option Addr} {sl_chain : Array (Option Value)}
    {oc_multiples kV_multiples dc_multiples pm_multiples cd_multiples ct_multiples : Value} {od_multiples an_multiples : Option Addr} {sl_multiples : Array (Option Value)}
    {oc_step_numbers kV_step_numbers dc_step_numbers pm_step_numbers cd_step_numbers ct_step_numbers : Value} {od_step_numbers an_step_numbers : Option Addr} {sl_step_numbers : Array (Option Value)}
    {oc_law_right kV_law_right dc_law_right pm_law_right cd_law_right ct_law_right : Value} {od_law_right an_law_right : Option Addr} {sl_law_right : Array (Option Value)}
    {oc_law kV_law dc_law pm_law cd_law ct_law : Value} {od_law an_law : Option Addr} {sl_law : Array (Option Value)}
    {oc_init kV_init dc_init pm_init cd_init ct_init : Value} {od_init an_init : Option Addr} {sl_init : Array (Option Value)}
    {nm_Bent q_Bent : Str} {N_Bent : Addr} {bs_Bent : List Value} {sn_Bent : List Str} {sub_Bent : List Value} {ab_Bent : Bool} {col_Bent : Option Bool} {dd_Bent : Option Addr} {m0_Bent m1_Bent m2_Bent m3_Bent m5_Bent : Option Value} {bm_Bent : List Value}
    {nm_InvalidNumber q_InvalidNumber : Str} {N_InvalidNumber : Addr} {bs_InvalidNumber : List Value} {sn_InvalidNumber : List Str} {sub_InvalidNumber : List Value} {ab_InvalidNumber : Bool} {col_InvalidNumber : Option Bool} {dd_InvalidNumber : Option Addr} {m0_InvalidNumber m1_InvalidNumber m2_InvalidNumber m3_InvalidNumber m5_InvalidNumber : Option Value} {bm_InvalidNumber : List Value}
    {nm_InvalidPoint q_InvalidPoint : Str} {N_InvalidPoint : Addr} {bs_InvalidPoint : List Value} {sn_InvalidPoint : List Str} {sub_InvalidPoint : List Value} {ab_InvalidPoint : Bool} {col_InvalidPoint : Option Bool} {dd_InvalidPoint : Option Addr} {m0_InvalidPoint m1_InvalidPoint m2_InvalidPoint m3_InvalidPoint m5_InvalidPoint : Option Value} {bm_InvalidPoint : List Value}
    {nm_NotPair q_NotPair : Str} {N_NotPair : Addr} {bs_NotPair : List Value} {sn_NotPair : List Str} {sub_NotPair : List Value} {ab_NotPair : Bool} {col_NotPair : Option Bool} {dd_NotPair : Option Addr} {m0_NotPair m1_NotPair m2_NotPair m3_NotPair m5_NotPair : Option Value} {bm_NotPair : List Value}
    {oc_ENDLESS : Value} {od_ENDLESS : Option Addr} {sl_ENDLESS : Array (Option Value)} {n_ENDLESS t_ENDLESS u_ENDLESS : Nat}
    (a_Bent : PySem.W.nsIn K mainGlobals "Bent" = some (some (.ref c_Bent)))
    (a_ENDLESS : PySem.W.nsIn K mainGlobals "ENDLESS" = some (some (.ref c_ENDLESS)))
    (a_InvalidNumber : PySem.W.nsIn K mainGlobals "InvalidNumber" = some (some (.ref c_InvalidNumber)))
    (a_InvalidPoint : PySem.W.nsIn K mainGlobals "InvalidPoint" = some (some (.ref c_InvalidPoint)))
    (a_NotPair : PySem.W.nsIn K mainGlobals "NotPair" = some (some (.ref c_NotPair)))
    (a_Relation : PySem.W.nsIn K mainGlobals "Relation" = some (some (.ref c_Relation)))
    (a_MOST_STEPS : PySem.W.nsIn K mainGlobals "MOST_STEPS" = some (some (.int 12 t_MOST_STEPS)))
    (a_law_pool : PySem.W.nsIn K mainGlobals "_law_pool" = some (some (.ref f_law_pool)))
    (l_law_pool : K.lookup f_law_pool = some ⟨oc_law_pool, od_law_pool, .func (PySem.W.fnOf "_law_pool" "_law_pool" (defArgs s_law_pool) (defBody s_law_pool) (defScope s_law_pool) .none kV_law_pool dc_law_pool pm_law_pool an_law_pool cd_law_pool ct_law_pool), sl_law_pool⟩)
    (cc_law_pool : PySem.W.codeIn K cd_law_pool "_law_pool" = true)
    (k_law_pool : PySem.W.keepIn K (.ref f_law_pool) = true)
    (a_law_draw : PySem.W.nsIn K mainGlobals "_law_draw" = some (some (.ref f_law_draw)))
    (l_law_draw : K.lookup f_law_draw = some ⟨oc_law_draw, od_law_draw, .func (PySem.W.fnOf "_law_draw" "_law_draw" (defArgs s_law_draw) (defBody s_law_draw) (defScope s_law_draw) .none kV_law_draw dc_law_draw pm_law_draw an_law_draw cd_law_draw ct_law_draw), sl_law_draw⟩)
    (cc_law_draw : PySem.W.codeIn K cd_law_draw "_law_draw" = true)
    (k_law_draw : PySem.W.keepIn K (.ref f_law_draw) = true)
    (a_law_tate : PySem.W.nsIn K mainGlobals "_law_tate" = some (some (.ref f_law_tate)))
    (l_law_tate : K.lookup f_law_tate = some ⟨oc_law_tate, od_law_tate, .func (PySem.W.fnOf "_law_tate" "_law_tate" (defArgs s_law_tate) (defBody s_law_tate) (defScope s_law_tate) .none kV_law_tate dc_law_tate pm_law_tate an_law_tate cd_law_tate ct_law_tate), sl_law_tate⟩)
    (cc_law_tate : PySem.W.codeIn K cd_law_tate "_law_tate" = true)
    (k_law_tate : PySem.W.keepIn K (.ref f_law_tate) = true)
    (a_law_at : PySem.W.nsIn K mainGlobals "_law_at" = some (some (.ref f_law_at)))
    (l_law_at : K.lookup f_law_at = some ⟨oc_law_at, od_law_at, .func (PySem.W.fnOf "_law_at" "_law_at" (defArgs s_law_at) (defBody s_law_at) (defScope s_law_at) .none kV_law_at dc_law_at pm_law_at an_law_at cd_law_at ct_law_at), sl_law_at⟩)
    (cc_law_at : PySem.W.codeIn K cd_law_at "_law_at" = true)
    (k_law_at : PySem.W.keepIn K (.ref f_law_at) = true)
    (a_law_form : PySem.W.nsIn K mainGlobals "_law_form" = some (some (.ref f_law_form)))
    (l_law_form : K.lookup f_law_form = some ⟨oc_law_form, od_law_form, .func (PySem.W.fnOf "_law_form" "_law_form" (defArgs s_law_form) (defBody s_law_form) (defScope s_law_form) .none kV_law_form dc_law_form pm_law_form an_law_form cd_law_form ct_law_form), sl_law_form⟩)
    (cc_law_form : PySem.W.codeIn K cd_law_form "_law_form" = true)
    (k_law_form : PySem.W.keepIn K (.ref f_law_form) = true)
    (a_law_five : PySem.W.nsIn K mainGlobals "_law_five" = some (some (.ref f_law_five)))
    (l_law_five : K.lookup f_law_five = some ⟨oc_law_five, od_law_five, .func (PySem.W.fnOf "_law_five" "_law_five" (defArgs s_law_five) (defBody s_law_five) (defScope s_law_five) .none kV_law_five dc_law_five pm_law_five an_law_five cd_law_five ct_law_five), sl_law_five⟩)
    (cc_law_five : PySem.W.codeIn K cd_law_five "_law_five" = true)
    (k_law_five : PySem.W.keepIn K (.ref f_law_five) = true)
    (a_law_plain : PySem.W.nsIn K mainGlobals "_law_plain" = some (some (.ref f_law_plain)))
    (l_law_plain : K.lookup f_law_plain = some ⟨oc_law_plain, od_law_plain, .func (PySem.W.fnOf "_law_plain" "_law_plain" (defArgs s_law_plain) (defBody s_law_plain) (defScope s_law_plain) .none kV_law_plain dc_law_plain pm_law_plain an_law_plain cd_law_plain ct_law_plain), sl_law_plain⟩)
    (cc_law_plain : PySem.W.codeIn K cd_law_plain "_law_plain" = true)
    (k_law_plain : PySem.W.keepIn K (.ref f_law_plain) = true)
    (a_law_is_straight : PySem.W.nsIn K mainGlobals "_law_is_straight" = some (some (.ref f_law_is_straight)))
    (l_law_is_straight : K.lookup f_law_is_straight = some ⟨oc_law_is_straight, od_law_is_straight, .func (PySem.W.fnOf "_law_is_straight" "_law_is_straight" (defArgs s_law_is_straight) (defBody s_law_is_straight) (defScope s_law_is_straight) .none kV_law_is_straight dc_law_is_straight pm_law_is_straight an_law_is_straight cd_law_is_straight ct_law_is_straight), sl_law_is_straight⟩)
    (cc_law_is_straight : PySem.W.codeIn K cd_law_is_straight "_law_is_straight" = true)
    (k_law_is_straight : PySem.W.keepIn K (.ref f_law_is_straight) = true)
    (a_law_known : PySem.W.nsIn K mainGlobals "_law_known" = some (some (.ref f_law_known)))
    (l_law_known : K.lookup f_law_known = some ⟨oc_law_known, od_law_known, .func (PySem.W.fnOf "_law_known" "_law_known" (defArgs s_law_known) (defBody s_law_known) (defScope s_law_known) .none kV_law_known dc_law_known pm_law_known an_law_known cd_law_known ct_law_known), sl_law_known⟩)
    (cc_law_known : PySem.W.codeIn K cd_law_known "_law_known" = true)
    (k_law_known : PySem.W.keepIn K (.ref f_law_known) = true)
    (a_law_low : PySem.W.nsIn K mainGlobals "_law_low" = some (some (.ref f_law_low)))
    (l_law_low : K.lookup f_law_low = some ⟨oc_law_low, od_law_low, .func (PySem.W.fnOf "_law_low" "_law_low" (defArgs s_law_low) (defBody s_law_low) (defScope s_law_low) .none kV_law_low dc_law_low pm_law_low an_law_low cd_law_low ct_law_low), sl_law_low⟩)
    (cc_law_low : PySem.W.codeIn K cd_law_low "_law_low" = true)
    (k_law_low : PySem.W.keepIn K (.ref f_law_low) = true)
    (a_law_next : PySem.W.nsIn K mainGlobals "_law_next" = some (some (.ref f_law_next)))
    (l_law_next : K.lookup f_law_next = some ⟨oc_law_next, od_law_next, .func (PySem.W.fnOf "_law_next" "_law_next" (defArgs s_law_next) (defBody s_law_next) (defScope s_law_next) .none kV_law_next dc_law_next pm_law_next an_law_next cd_law_next ct_law_next), sl_law_next⟩)
    (cc_law_next : PySem.W.codeIn K cd_law_next "_law_next" = true)
    (k_law_next : PySem.W.keepIn K (.ref f_law_next) = true)
    (a_law_chain : PySem.W.nsIn K mainGlobals "_law_chain" = some (some (.ref f_law_chain)))
    (l_law_chain : K.lookup f_law_chain = some ⟨oc_law_chain, od_law_chain, .func (PySem.W.fnOf "_law_chain" "_law_chain" (defArgs s_law_chain) (defBody s_law_chain) (defScope s_law_chain) .none kV_law_chain dc_law_chain pm_law_chain an_law_chain cd_law_chain ct_law_chain), sl_law_chain⟩)
    (cc_law_chain : PySem.W.codeIn K cd_law_chain "_law_chain" = true)
    (k_law_chain : PySem.W.keepIn K (.ref f_law_chain) = true)
    (a_law_start : PySem.W.nsIn K mainGlobals "_law_start" = some (some (.ref f_law_start)))
    (l_law_start : K.lookup f_law_start = some ⟨oc_law_start, od_law_start, .func (PySem.W.fnOf "_law_start" "_law_start" (defArgs s_law_start) (defBody s_law_start) (defScope s_law_start) .none kV_law_start dc_law_start pm_law_start an_law_start cd_law_start ct_law_start), sl_law_start⟩)
    (cc_law_start : PySem.W.codeIn K cd_law_start "_law_start" = true)
    (k_law_start : PySem.W.keepIn K (.ref f_law_start) = true)
    (a_invariants : PySem.W.nsIn K mainGlobals "invariants" = some (some (.ref f_invariants)))
    (l_invariants : K.lookup f_invariants = some ⟨oc_invariants, od_invariants, .func (PySem.W.fnOf "invariants" "invariants" (defArgs s_invariants) (defBody s_invariants) (defScope s_invariants) .none kV_invariants dc_invariants pm_invariants an_invariants cd_invariants ct_invariants), sl_invariants⟩)
    (cc_invariants : PySem.W.codeIn K cd_invariants "invariants" = true)
    (k_invariants : PySem.W.keepIn K (.ref f_invariants) = true)
    (a_bend : PySem.W.nsIn K mainGlobals "bend" = some (some (.ref f_bend)))
    (l_bend : K.lookup f_bend = some ⟨oc_bend, od_bend, .func (PySem.W.fnOf "bend" "bend" (defArgs s_bend) (defBody s_bend) (defScope s_bend) .none kV_bend dc_bend pm_bend an_bend cd_bend ct_bend), sl_bend⟩)
    (cc_bend : PySem.W.codeIn K cd_bend "bend" = true)
    (k_bend : PySem.W.keepIn K (.ref f_bend) = true)
    (a_without_divisor : PySem.W.nsIn K mainGlobals "without_divisor" = some (some (.ref f_without_divisor)))
    (l_without_divisor : K.lookup f_without_divisor = some ⟨oc_without_divisor, od_without_divisor, .func (PySem.W.fnOf "without_divisor" "without_divisor" (defArgs s_without_divisor) (defBody s_without_divisor) (defScope s_without_divisor) .none kV_without_divisor dc_without_divisor pm_without_divisor an_without_divisor cd_without_divisor ct_without_divisor), sl_without_divisor⟩)
    (cc_without_divisor : PySem.W.codeIn K cd_without_divisor "without_divisor" = true)
    (k_without_divisor : PySem.W.keepIn K (.ref f_without_divisor) = true)
    (a_quartic_of : PySem.W.nsIn K mainGlobals "quartic_of" = some (some (.ref f_quartic_of)))
    (l_quartic_of : K.lookup f_quartic_of = some ⟨oc_quartic_of, od_quartic_of, .func (PySem.W.fnOf "quartic_of" "quartic_of" (defArgs s_quartic_of) (defBody s_quartic_of) (defScope s_quartic_of) .none kV_quartic_of dc_quartic_of pm_quartic_of an_quartic_of cd_quartic_of ct_quartic_of), sl_quartic_of⟩)
    (cc_quartic_of : PySem.W.codeIn K cd_quartic_of "quartic_of" = true)
    (k_quartic_of : PySem.W.keepIn K (.ref f_quartic_of) = true)
    (a_Relation_init : PySem.W.findIn K (.ref c_Relation) "__init__" = some (some (.ref f_Relation_init)))
    (if_Relation_init : PySem.W.isFn K (.ref f_Relation_init) = true)
    (l_Relation_init : K.lookup f_Relation_init = some ⟨oc_Relation_init, od_Relation_init, .func (PySem.W.fnOf "__init__" "Relation.__init__" (defArgs s_Relation_init) (defBody s_Relation_init) (defScope s_Relation_init) .none kV_Relation_init dc_Relation_init pm_Relation_init an_Relation_init cd_Relation_init ct_Relation_init), sl_Relation_init⟩)
    (cc_Relation_init : PySem.W.codeIn K cd_Relation_init "Relation.__init__" = true)
    (k_Relation_init : PySem.W.keepIn K (.ref f_Relation_init) = true)
    (a_law_made : PySem.W.nsIn K mainGlobals "_law_made" = some (some (.ref f_law_made)))
    (l_law_made : K.lookup f_law_made = some ⟨oc_law_made, od_law_made, .func (PySem.W.fnOf "_law_made" "_law_made" (defArgs s_law_made) (defBody s_law_made) (defScope s_law_made) .none kV_law_made dc_law_made pm_law_made an_law_made cd_law_made ct_law_made), sl_law_made⟩)
    (cc_law_made : PySem.W.codeIn K cd_law_made "_law_made" = true)
    (k_law_made : PySem.W.keepIn K (.ref f_law_made) = true)
    (a_law_terms : PySem.W.nsIn K mainGlobals "_law_terms" = some (some (.ref f_law_terms)))
    (l_law_terms : K.lookup f_law_terms = some ⟨oc_law_terms, od_law_terms, .func (PySem.W.fnOf "_law_terms" "_law_terms" (defArgs s_law_terms) (defBody s_law_terms) (defScope s_law_terms) .none kV_law_terms dc_law_terms pm_law_terms an_law_terms cd_law_terms ct_law_terms), sl_law_terms⟩)
    (cc_law_terms : PySem.W.codeIn K cd_law_terms "_law_terms" = true)
    (k_law_terms : PySem.W.keepIn K (.ref f_law_terms) = true)
    (a_law_only : PySem.W.nsIn K mainGlobals "_law_only" = some (some (.ref f_law_only)))
    (l_law_only : K.lookup f_law_only = some ⟨oc_law_only, od_law_only, .func (PySem.W.fnOf "_law_only" "_law_only" (defArgs s_law_only) (defBody s_law_only) (defScope s_law_only) .none kV_law_only dc_law_only pm_law_only an_law_only cd_law_only ct_law_only), sl_law_only⟩)
    (cc_law_only : PySem.W.codeIn K cd_law_only "_law_only" = true)
    (k_law_only : PySem.W.keepIn K (.ref f_law_only) = true)
    (a_hessian : PySem.W.nsIn K mainGlobals "_hessian" = some (some (.ref f_hessian)))
    (l_hessian : K.lookup f_hessian = some ⟨oc_hessian, od_hessian, .func (PySem.W.fnOf "_hessian" "_hessian" (defArgs s_hessian) (defBody s_hessian) (defScope s_hessian) .none kV_hessian dc_hessian pm_hessian an_hessian cd_hessian ct_hessian), sl_hessian⟩)
    (cc_hessian : PySem.W.codeIn K cd_hessian "_hessian" = true)
    (k_hessian : PySem.W.keepIn K (.ref f_hessian) = true)
    (a_numbers_at : PySem.W.nsIn K mainGlobals "_numbers_at" = some (some (.ref f_numbers_at)))
    (l_numbers_at : K.lookup f_numbers_at = some ⟨oc_numbers_at, od_numbers_at, .func (PySem.W.fnOf "_numbers_at" "_numbers_at" (defArgs s_numbers_at) (defBody s_numbers_at) (defScope s_numbers_at) .none kV_numbers_at dc_numbers_at pm_numbers_at an_numbers_at cd_numbers_at ct_numbers_at), sl_numbers_at⟩)
    (cc_numbers_at : PySem.W.codeIn K cd_numbers_at "_numbers_at" = true)
    (k_numbers_at : PySem.W.keepIn K (.ref f_numbers_at) = true)
    (pp_at : PySem.W.findIn K (.ref c_Relation) "numbers" = some (some (.ref p_numbers)))
    (pp_get : PySem.W.specialIn K (.ref p_numbers) "__get__" = some (some (.builtin "property.__get__")))
    (pp_tak : PySem.W.takesIn K (.ref p_numbers) = some true)
    (pp_rec : PySem.W.recIn K p_numbers "property" = some (.ref f_Relation_numbers :: rest_numbers))
    (l_Relation_numbers : K.lookup f_Relation_numbers = some ⟨oc_Relation_numbers, od_Relation_numbers, .func (PySem.W.fnOf "numbers" "Relation.numbers" (defArgs s_Relation_numbers) (defBody s_Relation_numbers) (defScope s_Relation_numbers) .none kV_Relation_numbers dc_Relation_numbers pm_Relation_numbers an_Relation_numbers cd_Relation_numbers ct_Relation_numbers), sl_Relation_numbers⟩)
    (cc_Relation_numbers : PySem.W.codeIn K cd_Relation_numbers "Relation.numbers" = true)
    (k_Relation_numbers : PySem.W.keepIn K (.ref f_Relation_numbers) = true)
    (a_quartic : PySem.W.nsIn K mainGlobals "quartic" = some (some (.ref f_quartic)))
    (l_quartic : K.lookup f_quartic = some ⟨oc_quartic, od_quartic, .func (PySem.W.fnOf "quartic" "quartic" (defArgs s_quartic) (defBody s_quartic) (defScope s_quartic) .none kV_quartic dc_quartic pm_quartic an_quartic cd_quartic ct_quartic), sl_quartic⟩)
    (cc_quartic : PySem.W.codeIn K cd_quartic "quartic" = true)
    (k_quartic : PySem.W.keepIn K (.ref f_quartic) = true)
    (a_step : PySem.W.nsIn K mainGlobals "_step" = some (some (.ref f_step)))
    (l_step : K.lookup f_step = some ⟨oc_step, od_step, .func (PySem.W.fnOf "_step" "_step" (defArgs s_step) (defBody s_step) (defScope s_step) .none kV_step dc_step pm_step an_step cd_step ct_step), sl_step⟩)
    (cc_step : PySem.W.codeIn K cd_step "_step" = true)
    (k_step : PySem.W.keepIn K (.ref f_step) = true)
    (a_is_whole : PySem.W.nsIn K mainGlobals "_is_whole" = some (some (.ref f_is_whole)))
    (l_is_whole : K.lookup f_is_whole = some ⟨oc_is_whole, od_is_whole, .func (PySem.W.fnOf "_is_whole" "_is_whole" (defArgs s_is_whole) (defBody s_is_whole) (defScope s_is_whole) .none kV_is_whole dc_is_whole pm_is_whole an_is_whole cd_is_whole ct_is_whole), sl_is_whole⟩)
    (cc_is_whole : PySem.W.codeIn K cd_is_whole "_is_whole" = true)
    (k_is_whole : PySem.W.keepIn K (.ref f_is_whole) = true)
    (a_is_point : PySem.W.nsIn K mainGlobals "is_point" = some (some (.ref f_is_point)))
    (l_is_point : K.lookup f_is_point = some ⟨oc_is_point, od_is_point, .func (PySem.W.fnOf "is_point" "is_point" (defArgs s_is_point) (defBody s_is_point) (defScope s_is_point) .none kV_is_point dc_is_point pm_is_point an_is_point cd_is_point ct_is_point), sl_is_point⟩)
    (cc_is_point : PySem.W.codeIn K cd_is_point "is_point" = true)
    (k_is_point : PySem.W.keepIn K (.ref f_is_point) = true)
    (a_check_point : PySem.W.nsIn K mainGlobals "check_point" = some (some (.ref f_check_point)))
    (l_check_point : K.lookup f_check_point = some ⟨oc_check_point, od_check_point, .func (PySem.W.fnOf "check_point" "check_point" (defArgs s_check_point) (defBody s_check_point) (defScope s_check_point) .none kV_check_point dc_check_point pm_check_point an_check_point cd_check_point ct_check_point), sl_check_point⟩)
    (cc_check_point : PySem.W.codeIn K cd_check_point "check_point" = true)
    (k_check_point : PySem.W.keepIn K (.ref f_check_point) = true)
    (a_partner_equation : PySem.W.nsIn K mainGlobals "partner_equation" = some (some (.ref f_partner_equation)))
    (l_partner_equation : K.lookup f_partner_equation = some ⟨oc_partner_equation, od_partner_equation, .func (PySem.W.fnOf "partner_equation" "partner_equation" (defArgs s_partner_equation) (defBody s_partner_equation) (defScope s_partner_equation) .none kV_partner_equation dc_partner_equation pm_partner_equation an_partner_equation cd_partner_equation ct_partner_equation), sl_partner_equation⟩)
    (cc_partner_equation : PySem.W.codeIn K cd_partner_equation "partner_equation" = true)
    (k_partner_equation : PySem.W.keepIn K (.ref f_partner_equation) = true)
    (a_holds : PySem.W.nsIn K mainGlobals "holds" = some (some (.ref f_holds)))
    (l_holds : K.lookup f_holds = some ⟨oc_holds, od_holds, .func (PySem.W.fnOf "holds" "holds" (defArgs s_holds) (defBody s_holds) (defScope s_holds) .none kV_holds dc_holds pm_holds an_holds cd_holds ct_holds), sl_holds⟩)
    (cc_holds : PySem.W.codeIn K cd_holds "holds" = true)
    (k_holds : PySem.W.keepIn K (.ref f_holds) = true)
    (a_check_pair : PySem.W.nsIn K mainGlobals "check_pair" = some (some (.ref f_check_pair)))
    (l_check_pair : K.lookup f_check_pair = some ⟨oc_check_pair, od_check_pair, .func (PySem.W.fnOf "check_pair" "check_pair" (defArgs s_check_pair) (defBody s_check_pair) (defScope s_check_pair) .none kV_check_pair dc_check_pair pm_check_pair an_check_pair cd_check_pair ct_check_pair), sl_check_pair⟩)
    (cc_check_pair : PySem.W.codeIn K cd_check_pair "check_pair" = true)
    (k_check_pair : PySem.W.keepIn K (.ref f_check_pair) = true)
    (a_other_root : PySem.W.nsIn K mainGlobals "other_root" = some (some (.ref f_other_root)))
    (l_other_root : K.lookup f_other_root = some ⟨oc_other_root, od_other_root, .func (PySem.W.fnOf "other_root" "other_root" (defArgs s_other_root) (defBody s_other_root) (defScope s_other_root) .none kV_other_root dc_other_root pm_other_root an_other_root cd_other_root ct_other_root), sl_other_root⟩)
    (cc_other_root : PySem.W.codeIn K cd_other_root "other_root" = true)
    (k_other_root : PySem.W.keepIn K (.ref f_other_root) = true)
    (a_lowest : PySem.W.nsIn K mainGlobals "lowest" = some (some (.ref f_lowest)))
    (l_lowest : K.lookup f_lowest = some ⟨oc_lowest, od_lowest, .func (PySem.W.fnOf "lowest" "lowest" (defArgs s_lowest) (defBody s_lowest) (defScope s_lowest) .none kV_lowest dc_lowest pm_lowest an_lowest cd_lowest ct_lowest), sl_lowest⟩)
    (cc_lowest : PySem.W.codeIn K cd_lowest "lowest" = true)
    (k_lowest : PySem.W.keepIn K (.ref f_lowest) = true)
    (a_other_partner : PySem.W.nsIn K mainGlobals "_other_partner" = some (some (.ref f_other_partner)))
    (l_other_partner : K.lookup f_other_partner = some ⟨oc_other_partner, od_other_partner, .func (PySem.W.fnOf "_other_partner" "_other_partner" (defArgs s_other_partner) (defBody s_other_partner) (defScope s_other_partner) .none kV_other_partner dc_other_partner pm_other_partner an_other_partner cd_other_partner ct_other_partner), sl_other_partner⟩)
    (cc_other_partner : PySem.W.codeIn K cd_other_partner "_other_partner" = true)
    (k_other_partner : PySem.W.keepIn K (.ref f_other_partner) = true)
    (a_members : PySem.W.nsIn K mainGlobals "_members" = some (some (.ref f_members)))
    (l_members : K.lookup f_members = some ⟨oc_members, od_members, .func (PySem.W.fnOf "_members" "_members" (defArgs s_members) (defBody s_members) (defScope s_members) .none kV_members dc_members pm_members an_members cd_members ct_members), sl_members⟩)
    (cc_members : PySem.W.codeIn K cd_members "_members" = true)
    (k_members : PySem.W.keepIn K (.ref f_members) = true)
    (a_chain : PySem.W.nsIn K mainGlobals "chain" = some (some (.ref f_chain)))
    (l_chain : K.lookup f_chain = some ⟨oc_chain, od_chain, .func (PySem.W.fnOf "chain" "chain" (defArgs s_chain) (defBody s_chain) (defScope s_chain) .none kV_chain dc_chain pm_chain an_chain cd_chain ct_chain), sl_chain⟩)
    (cc_chain : PySem.W.codeIn K cd_chain "chain" = true)
    (k_chain : PySem.W.keepIn K (.ref f_chain) = true)
    (a_multiples : PySem.W.nsIn K mainGlobals "multiples" = some (some (.ref f_multiples)))
    (l_multiples : K.lookup f_multiples = some ⟨oc_multiples, od_multiples, .func (PySem.W.fnOf "multiples" "multiples" (defArgs s_multiples) (defBody s_multiples) (defScope s_multiples) .none kV_multiples dc_multiples pm_multiples an_multiples cd_multiples ct_multiples), sl_multiples⟩)
    (cc_multiples : PySem.W.codeIn K cd_multiples "multiples" = true)
    (k_multiples : PySem.W.keepIn K (.ref f_multiples) = true)
    (a_step_numbers : PySem.W.nsIn K mainGlobals "step_numbers" = some (some (.ref f_step_numbers)))
    (l_step_numbers : K.lookup f_step_numbers = some ⟨oc_step_numbers, od_step_numbers, .func (PySem.W.fnOf "step_numbers" "step_numbers" (defArgs s_step_numbers) (defBody s_step_numbers) (defScope s_step_numbers) .none kV_step_numbers dc_step_numbers pm_step_numbers an_step_numbers cd_step_numbers ct_step_numbers), sl_step_numbers⟩)
    (cc_step_numbers : PySem.W.codeIn K cd_step_numbers "step_numbers" = true)
    (k_step_numbers : PySem.W.keepIn K (.ref f_step_numbers) = true)
    (a_law_right : PySem.W.nsIn K mainGlobals "_law_right" = some (some (.ref f_law_right)))
    (l_law_right : K.lookup f_law_right = some ⟨oc_law_right, od_law_right, .func (PySem.W.fnOf "_law_right" "_law_right" (defArgs s_law_right) (defBody s_law_right) (defScope s_law_right) .none kV_law_right dc_law_right pm_law_right an_law_right cd_law_right ct_law_right), sl_law_right⟩)
    (cc_law_right : PySem.W.codeIn K cd_law_right "_law_right" = true)
    (k_law_right : PySem.W.keepIn K (.ref f_law_right) = true)
    (a_law : PySem.W.nsIn K mainGlobals "law" = some (some (.ref f_law)))
    (l_law : K.lookup f_law = some ⟨oc_law, od_law, .func (PySem.W.fnOf "law" "law" (defArgs s_law) (defBody s_law) (defScope s_law) .none kV_law dc_law pm_law an_law cd_law ct_law), sl_law⟩)
    (cc_law : PySem.W.codeIn K cd_law "law" = true)
    (k_law : PySem.W.keepIn K (.ref f_law) = true)
    (i_Bent : PySem.W.findIn K (.ref c_Bent) "__init__" = some (some (.ref f_init)))
    (i_InvalidNumber : PySem.W.findIn K (.ref c_InvalidNumber) "__init__" = some (some (.ref f_init)))
    (i_InvalidPoint : PySem.W.findIn K (.ref c_InvalidPoint) "__init__" = some (some (.ref f_init)))
    (i_NotPair : PySem.W.findIn K (.ref c_NotPair) "__init__" = some (some (.ref f_init)))
    (ti : PySem.W.typeIn K (.ref f_init) = some (.type "function"))
    (l_init : K.lookup f_init = some ⟨oc_init, od_init, .func (PySem.W.fnOf "__init__" "ChainError.__init__" (defArgs s_init) (defBody s_init) (defScope s_init) .none kV_init dc_init pm_init an_init cd_init ct_init), sl_init⟩)
    (cc_init : PySem.W.codeIn K cd_init "ChainError.__init__" = true)
    (k_init : PySem.W.keepIn K (.ref f_init) = true)
    (n_abs : PySem.W.nsIn K mainGlobals "abs" = some none)
    (n_bool : PySem.W.nsIn K mainGlobals "bool" = some none)
    (n_enumerate : PySem.W.nsIn K mainGlobals "enumerate" = some none)
    (n_int : PySem.W.nsIn K mainGlobals "int" = some none)
    (n_isinstance : PySem.W.nsIn K mainGlobals "isinstance" = some none)
    (n_len : PySem.W.nsIn K mainGlobals "len" = some none)
    (n_list : PySem.W.nsIn K mainGlobals "list" = some none)
    (n_max : PySem.W.nsIn K mainGlobals "max" = some none)
    (n_min : PySem.W.nsIn K mainGlobals "min" = some none)
    (n_range : PySem.W.nsIn K mainGlobals "range" = some none)
    (n_sum : PySem.W.nsIn K mainGlobals "sum" = some none)
    (n_tuple : PySem.W.nsIn K mainGlobals "tuple" = some none)
    (n_zip : PySem.W.nsIn K mainGlobals "zip" = some none)
    (x_gcd : PySem.W.nsIn K mainGlobals "gcd" = some (some (.builtin "math.gcd")))
    (ek_Bent : K.lookup c_Bent = some (excClassObj nm_Bent q_Bent c_Bent N_Bent bs_Bent bm_Bent true sn_Bent sub_Bent ab_Bent col_Bent dd_Bent m0_Bent m1_Bent m2_Bent m3_Bent m5_Bent "ValueError.__new__"))
    (ev_Bent : PySem.HandSPX.refsVE bm_Bent = true)
    (esa_Bent : PySem.W.findIn K (.ref c_Bent) "__setattr__" = some (some (.builtin "object.__setattr__")))
    (ex_Bent : PySem.W.subIn K (.ref c_Bent) (.type "BaseException") = some true)
    (et_Bent : PySem.W.typeIn K (.ref c_Bent) = some (.type "type"))
    (ec_Bent : PySem.W.keepIn K (.ref c_Bent) = true)
    (en_Bent : PySem.W.findIn K (.ref c_Bent) "value" = some none)
    (eg_Bent : PySem.W.findIn K (.ref c_Bent) "__getattribute__" = some (some (.builtin "BaseException.__getattribute__")))
    (eh_Bent : PySem.W.findIn K (.ref c_Bent) "__getattr__" = some none)
    (ed_Bent : PySem.W.hasDictIn K c_Bent = true)
    (ea_Bent : PySem.W.findIn K (.ref c_Bent) "__class__" = some (some (.builtin "object.__class__")))
    (em_Bent : PySem.W.mroIn K c_Bent (.type "object") = some true)
    (ek_InvalidNumber : K.lookup c_InvalidNumber = some (excClassObj nm_InvalidNumber q_InvalidNumber c_InvalidNumber N_InvalidNumber bs_InvalidNumber bm_InvalidNumber true sn_InvalidNumber sub_InvalidNumber ab_InvalidNumber col_InvalidNumber dd_InvalidNumber m0_InvalidNumber m1_InvalidNumber m2_InvalidNumber m3_InvalidNumber m5_InvalidNumber "ValueError.__new__"))
    (ev_InvalidNumber : PySem.HandSPX.refsVE bm_InvalidNumber = true)
    (esa_InvalidNumber : PySem.W.findIn K (.ref c_InvalidNumber) "__setattr__" = some (some (.builtin "object.__setattr__")))
    (ex_InvalidNumber : PySem.W.subIn K (.ref c_InvalidNumber) (.type "BaseException") = some true)
    (et_InvalidNumber : PySem.W.typeIn K (.ref c_InvalidNumber) = some (.type "type"))
    (ec_InvalidNumber : PySem.W.keepIn K (.ref c_InvalidNumber) = true)
    (en_InvalidNumber : PySem.W.findIn K (.ref c_InvalidNumber) "value" = some none)
    (eg_InvalidNumber : PySem.W.findIn K (.ref c_InvalidNumber) "__getattribute__" = some (some (.builtin "BaseException.__getattribute__")))
    (eh_InvalidNumber : PySem.W.findIn K (.ref c_InvalidNumber) "__getattr__" = some none)
    (ed_InvalidNumber : PySem.W.hasDictIn K c_InvalidNumber = true)
    (ea_InvalidNumber : PySem.W.findIn K (.ref c_InvalidNumber) "__class__" = some (some (.builtin "object.__class__")))
    (em_InvalidNumber : PySem.W.mroIn K c_InvalidNumber (.type "object") = some true)
    (ek_InvalidPoint : K.lookup c_InvalidPoint = some (excClassObj nm_InvalidPoint q_InvalidPoint c_InvalidPoint N_InvalidPoint bs_InvalidPoint bm_InvalidPoint true sn_InvalidPoint sub_InvalidPoint ab_InvalidPoint col_InvalidPoint dd_InvalidPoint m0_InvalidPoint m1_InvalidPoint m2_InvalidPoint m3_InvalidPoint m5_InvalidPoint "ValueError.__new__"))
    (ev_InvalidPoint : PySem.HandSPX.refsVE bm_InvalidPoint = true)
    (esa_InvalidPoint : PySem.W.findIn K (.ref c_InvalidPoint) "__setattr__" = some (some (.builtin "object.__setattr__")))
    (ex_InvalidPoint : PySem.W.subIn K (.ref c_InvalidPoint) (.type "BaseException") = some true)
    (et_InvalidPoint : PySem.W.typeIn K (.ref c_InvalidPoint) = some (.type "type"))
    (ec_InvalidPoint : PySem.W.keepIn K (.ref c_InvalidPoint) = true)
    (en_InvalidPoint : PySem.W.findIn K (.ref c_InvalidPoint) "value" = some none)
    (eg_InvalidPoint : PySem.W.findIn K (.ref c_InvalidPoint) "__getattribute__" = some (some (.builtin "BaseException.__getattribute__")))
    (eh_InvalidPoint : PySem.W.findIn K (.ref c_InvalidPoint) "__getattr__" = some none)
    (ed_InvalidPoint : PySem.W.hasDictIn K c_InvalidPoint = true)
    (ea_InvalidPoint : PySem.W.findIn K (.ref c_InvalidPoint) "__class__" = some (some (.builtin "object.__class__")))
    (em_InvalidPoint : PySem.W.mroIn K c_InvalidPoint (.type "object") = some true)
    (ek_NotPair : K.lookup c_NotPair = some (excClassObj nm_NotPair q_NotPair c_NotPair N_NotPair bs_NotPair bm_NotPair true sn_NotPair sub_NotPair ab_NotPair col_NotPair dd_NotPair m0_NotPair m1_NotPair m2_NotPair m3_NotPair m5_NotPair "ValueError.__new__"))
    (ev_NotPair : PySem.HandSPX.refsVE bm_NotPair = true)
    (esa_NotPair : PySem.W.findIn K (.ref c_NotPair) "__setattr__" = some (some (.builtin "object.__setattr__")))
    (ex_NotPair : PySem.W.subIn K (.ref c_NotPair) (.type "BaseException") = some true)
    (et_NotPair : PySem.W.typeIn K (.ref c_NotPair) = some (.type "type"))
    (ec_NotPair : PySem.W.keepIn K (.ref c_NotPair) = true)
    (en_NotPair : PySem.W.findIn K (.ref c_NotPair) "value" = some none)
    (eg_NotPair : PySem.W.findIn K (.ref c_NotPair) "__getattribute__" = some (some (.builtin "BaseException.__getattribute__")))
    (eh_NotPair : PySem.W.findIn K (.ref c_NotPair) "__getattr__" = some none)
    (ed_NotPair : PySem.W.hasDictIn K c_NotPair = true)
    (ea_NotPair : PySem.W.findIn K (.ref c_NotPair) "__class__" = some (some (.builtin "object.__class__")))
    (em_NotPair : PySem.W.mroIn K c_NotPair (.type "object") = some true)
    (esp : PySem.W.specialIn K (.builtin "object.__class__") "__get__" = some (some (.builtin "getset_descriptor.__get__")))
    (eta : PySem.W.takesIn K (.builtin "object.__class__") = some true)
    (rc_pg : PySem.W.plainGet K c_Relation Str.empty = true)
    (rc_hd : PySem.W.hasDictIn K c_Relation = true)
    (rc_po : PySem.W.plainOver K c_Relation = true)
    (rc_sa : PySem.W.findIn K (.ref c_Relation) "__setattr__" = some (some (.builtin "object.__setattr__")))
    (rm_mk : PySem.W.makesIn K c_Relation = true)
    (rm_kp : PySem.W.keepIn K (.ref c_Relation) = true)
    (rn_no : PySem.W.findIn K (.ref c_Relation) "_numbers" = some none)
    (l_ENDLESS : K.lookup c_ENDLESS = some ⟨oc_ENDLESS, od_ENDLESS, .seq #[.int 1 t_ENDLESS, .int 0 u_ENDLESS] n_ENDLESS, sl_ENDLESS⟩)
    (o_ENDLESS : oc_ENDLESS = .type "tuple")
    (ht_tree : l.prog.given.tree = none) :
    ∃ fd : FuncData, (∀ (s : Shared) (v : Value), BindsTo s fd ⟨[v], []⟩ [("script", v)]) ∧ ∀ base : Heap, K.In base → base.Ns mainGlobals mg → base.NoSeer → FnG l.prog w K mg base CX0 45 fa fd ["script"] (spLaw K []) := by
  have e : f_law = fa := by
    have e := hfa.symm.trans (PySem.W.mg_of X G a_law)
    cases e
    rfl
  subst e
  let a : Ad := ⟨0, c_InvalidNumber, c_InvalidPoint, c_Bent, c_NotPair, 0, 0, 0, 0, 0, c_Relation, 0, 0, c_ENDLESS, []⟩
  let q : Fs := ⟨f_law_pool, f_law_draw, f_law_tate, f_law_at, f_law_form, f_law_five, f_law_plain, f_law_is_straight, f_law_known, f_law_low, f_law_next, f_law_chain, f_law_start, f_invariants, f_bend, f_without_divisor, f_quartic_of, f_Relation_init, f_law_made, f_law_terms, f_law_only, f_hessian, f_numbers_at, f_Relation_numbers, f_quartic, f_step, f_is_whole, f_is_point, f_check_point, f_partner_equation, f_holds, f_check_pair, f_other_root, f_lowest, f_other_partner, f_members, f_chain, f_multiples, f_step_numbers, f_law_right, f_law, f_init, p_numbers⟩
  have e_Bent : ErrC K c_Bent := ⟨⟨⟨_, _, _, _, _, _, _, _, _, _, _, _, _, _, _, ek_Bent, ev_Bent⟩, esa_Bent, ex_Bent, et_Bent, ec_Bent⟩, en_Bent, ⟨eg_Bent, eh_Bent, ex_Bent, ed_Bent, ea_Bent, esp, eta, em_Bent⟩⟩
  have e_InvalidNumber : ErrC K c_InvalidNumber := ⟨⟨⟨_, _, _, _, _, _, _, _, _, _, _, _, _, _, _, ek_InvalidNumber, ev_InvalidNumber⟩, esa_InvalidNumber, ex_InvalidNumber, et_InvalidNumber, ec_InvalidNumber⟩, en_InvalidNumber, ⟨eg_InvalidNumber, eh_InvalidNumber, ex_InvalidNumber, ed_InvalidNumber, ea_InvalidNumber, esp, eta, em_InvalidNumber⟩⟩
  have e_InvalidPoint : ErrC K c_InvalidPoint := ⟨⟨⟨_, _, _, _, _, _, _, _, _, _, _, _, _, _, _, ek_InvalidPoint, ev_InvalidPoint⟩, esa_InvalidPoint, ex_InvalidPoint, et_InvalidPoint, ec_InvalidPoint⟩, en_InvalidPoint, ⟨eg_InvalidPoint, eh_InvalidPoint, ex_InvalidPoint, ed_InvalidPoint, ea_InvalidPoint, esp, eta, em_InvalidPoint⟩⟩
  have e_NotPair : ErrC K c_NotPair := ⟨⟨⟨_, _, _, _, _, _, _, _, _, _, _, _, _, _, _, ek_NotPair, ev_NotPair⟩, esa_NotPair, ex_NotPair, et_NotPair, ec_NotPair⟩, en_NotPair, ⟨eg_NotPair, eh_NotPair, ex_NotPair, ed_NotPair, ea_NotPair, esp, eta, em_NotPair⟩⟩
  have T : Txt K mg a q := { g_law_pool := PySem.W.mg_of X G a_law_pool, k_law_pool := k_law_pool, g_law_draw := PySem.W.mg_of X G a_law_draw, k_law_draw := k_law_draw, g_law_tate := PySem.W.mg_of X G a_law_tate, k_law_tate := k_law_tate, g_law_at := PySem.W.mg_of X G a_law_at, k_law_at := k_law_at, g_law_form := PySem.W.mg_of X G a_law_form, k_law_form := k_law_form, g_law_five := PySem.W.mg_of X G a_law_five, k_law_five := k_law_five, g_law_plain := PySem.W.mg_of X G a_law_plain, k_law_plain := k_law_plain, g_law_is_straight := PySem.W.mg_of X G a_law_is_straight, k_law_is_straight := k_law_is_straight, g_law_known := PySem.W.mg_of X G a_law_known, k_law_known := k_law_known, g_law_low := PySem.W.mg_of X G a_law_low, k_law_low := k_law_low, g_law_next := PySem.W.mg_of X G a_law_next, k_law_next := k_law_next, g_law_chain := PySem.W.mg_of X G a_law_chain, k_law_chain := k_law_chain, g_law_start := PySem.W.mg_of X G a_law_start, k_law_start := k_law_start, g_invariants := PySem.W.mg_of X G a_invariants, k_invariants := k_invariants, g_bend := PySem.W.mg_of X G a_bend, k_bend := k_bend, g_without_divisor := PySem.W.mg_of X G a_without_divisor, k_without_divisor := k_without_divisor, g_quartic_of := PySem.W.mg_of X G a_quartic_of, k_quartic_of := k_quartic_of, g_law_made := PySem.W.mg_of X G a_law_made, k_law_made := k_law_made, g_law_terms := PySem.W.mg_of X G a_law_terms, k_law_terms := k_law_terms, g_law_only := PySem.W.mg_of X G a_law_only, k_law_only := k_law_only, g_hessian := PySem.W.mg_of X G a_hessian, k_hessian := k_hessian, g_numbers_at := PySem.W.mg_of X G a_numbers_at, k_numbers_at := k_numbers_at, g_quartic := PySem.W.mg_of X G a_quartic, k_quartic := k_quartic, g_step := PySem.W.mg_of X G a_step, k_step := k_step, g_is_whole := PySem.W.mg_of X G a_is_whole, k_is_whole := k_is_whole, g_is_point := PySem.W.mg_of X G a_is_point, k_is_point := k_is_point, g_check_point := PySem.W.mg_of X G a_check_point, k_check_point := k_check_point, g_partner_equation := PySem.W.mg_of X G a_partner_equation, k_partner_equation := k_partner_equation, g_holds := PySem.W.mg_of X G a_holds, k_holds := k_holds, g_check_pair := PySem.W.mg_of X G a_check_pair, k_check_pair := k_check_pair, g_other_root := PySem.W.mg_of X G a_other_root, k_other_root := k_other_root, g_lowest := PySem.W.mg_of X G a_lowest, k_lowest := k_lowest, g_other_partner := PySem.W.mg_of X G a_other_partner, k_other_partner := k_other_partner, g_members := PySem.W.mg_of X G a_members, k_members := k_members, g_chain := PySem.W.mg_of X G a_chain, k_chain := k_chain, g_multiples := PySem.W.mg_of X G a_multiples, k_multiples := k_multiples, g_step_numbers := PySem.W.mg_of X G a_step_numbers, k_step_numbers := k_step_numbers, g_law_right := PySem.W.mg_of X G a_law_right, k_law_right := k_law_right, g_law := PySem.W.mg_of X G a_law, k_law := k_law, n_abs := PySem.W.mg_none_of X G n_abs, n_bool := PySem.W.mg_none_of X G n_bool, n_enumerate := PySem.W.mg_none_of X G n_enumerate, n_int := PySem.W.mg_none_of X G n_int, n_isinstance := PySem.W.mg_none_of X G n_isinstance, n_len := PySem.W.mg_none_of X G n_len, n_list := PySem.W.mg_none_of X G n_list, n_max := PySem.W.mg_none_of X G n_max, n_min := PySem.W.mg_none_of X G n_min, n_range := PySem.W.mg_none_of X G n_range, n_sum := PySem.W.mg_none_of X G n_sum, n_tuple := PySem.W.mg_none_of X G n_tuple, n_zip := PySem.W.mg_none_of X G n_zip, x_gcd := PySem.W.mg_of X G x_gcd, g_Bent := PySem.W.mg_of X G a_Bent, g_InvalidNumber := PySem.W.mg_of X G a_InvalidNumber, g_InvalidPoint := PySem.W.mg_of X G a_InvalidPoint, g_NotPair := PySem.W.mg_of X G a_NotPair, g_Relation := PySem.W.mg_of X G a_Relation, g_ENDLESS := PySem.W.mg_of X G a_ENDLESS, g_MOST_STEPS := ⟨_, PySem.W.mg_of X G a_MOST_STEPS⟩, i_Bent := i_Bent, e_Bent := e_Bent, i_InvalidNumber := i_InvalidNumber, e_InvalidNumber := e_InvalidNumber, i_InvalidPoint := i_InvalidPoint, e_InvalidPoint := e_InvalidPoint, i_NotPair := i_NotPair, e_NotPair := e_NotPair, rm := ⟨rm_mk, a_Relation_init, if_Relation_init, rm_kp⟩, rc := ⟨rc_pg, rc_hd, rc_po, rc_sa⟩, rn := rn_no, rp := ⟨pp_at, pp_get, pp_tak, ⟨_, pp_rec⟩⟩, ti := ti, v_ENDLESS := fun B => dd_pair l_ENDLESS o_ENDLESS rfl B }
  have F_law_pool := fun_mk (st := s_law_pool) l_law_pool cc_law_pool k_law_pool
  have F_law_draw := fun_mk (st := s_law_draw) l_law_draw cc_law_draw k_law_draw
  have F_law_tate := fun_mk (st := s_law_tate) l_law_tate cc_law_tate k_law_tate
  have F_law_at := fun_mk (st := s_law_at) l_law_at cc_law_at k_law_at
  have F_law_form := fun_mk (st := s_law_form) l_law_form cc_law_form k_law_form
  have F_law_five := fun_mk (st := s_law_five) l_law_five cc_law_five k_law_five
  have F_law_plain := fun_mk (st := s_law_plain) l_law_plain cc_law_plain k_law_plain
  have F_law_is_straight := fun_mk (st := s_law_is_straight) l_law_is_straight cc_law_is_straight k_law_is_straight
  have F_law_known := fun_mk (st := s_law_known) l_law_known cc_law_known k_law_known
  have F_law_low := fun_mk (st := s_law_low) l_law_low cc_law_low k_law_low
  have F_law_next := fun_mk (st := s_law_next) l_law_next cc_law_next k_law_next
  have F_law_chain := fun_mk (st := s_law_chain) l_law_chain cc_law_chain k_law_chain
  have F_law_start := fun_mk (st := s_law_start) l_law_start cc_law_start k_law_start
  have F_invariants := fun_mk (st := s_invariants) l_invariants cc_invariants k_invariants
  have F_bend := fun_mk (st := s_bend) l_bend cc_bend k_bend
  have F_without_divisor := fun_mk (st := s_without_divisor) l_without_divisor cc_without_divisor k_without_divisor
  have F_quartic_of := fun_mk (st := s_quartic_of) l_quartic_of cc_quartic_of k_quartic_of
  have F_Relation_init := fun_mk (st := s_Relation_init) l_Relation_init cc_Relation_init k_Relation_init
  have F_law_made := fun_mk (st := s_law_made) l_law_made cc_law_made k_law_made
  have F_law_terms := fun_mk (st := s_law_terms) l_law_terms cc_law_terms k_law_terms
  have F_law_only := fun_mk (st := s_law_only) l_law_only cc_law_only k_law_only
  have F_hessian := fun_mk (st := s_hessian) l_hessian cc_hessian k_hessian
  have F_numbers_at := fun_mk (st := s_numbers_at) l_numbers_at cc_numbers_at k_numbers_at
  have F_Relation_numbers := fun_mk (st := s_Relation_numbers) l_Relation_numbers cc_Relation_numbers k_Relation_numbers
  have F_quartic := fun_mk (st := s_quartic) l_quartic cc_quartic k_quartic
  have F_step := fun_mk (st := s_step) l_step cc_step k_step
  have F_is_whole := fun_mk (st := s_is_whole) l_is_whole cc_is_whole k_is_whole
  have F_is_point := fun_mk (st := s_is_point) l_is_point cc_is_point k_is_point
  have F_check_point := fun_mk (st := s_check_point) l_check_point cc_check_point k_check_point
  have F_partner_equation := fun_mk (st := s_partner_equation) l_partner_equation cc_partner_equation k_partner_equation
  have F_holds := fun_mk (st := s_holds) l_holds cc_holds k_holds
  have F_check_pair := fun_mk (st := s_check_pair) l_check_pair cc_check_pair k_check_pair
  have F_other_root := fun_mk (st := s_other_root) l_other_root cc_other_root k_other_root
  have F_lowest := fun_mk (st := s_lowest) l_lowest cc_lowest k_lowest
  have F_other_partner := fun_mk (st := s_other_partner) l_other_partner cc_other_partner k_other_partner
  have F_members := fun_mk (st := s_members) l_members cc_members k_members
  have F_chain := fun_mk (st := s_chain) l_chain cc_chain k_chain
  have F_multiples := fun_mk (st := s_multiples) l_multiples cc_multiples k_multiples
  have F_step_numbers := fun_mk (st := s_step_numbers) l_step_numbers cc_step_numbers k_step_numbers
  have F_law_right := fun_mk (st := s_law_right) l_law_right cc_law_right k_law_right
  have F_law := fun_mk (st := s_law) l_law cc_law k_law
  have F_init := fun_mk (st := s_init) l_init cc_init k_init
  have b_law_pool := F_law_pool.binds (ps := ["script", "spot"]) fun _ _ _ _ _ _ us hl => match us, hl with | [_, _], _ => rfl
  have b_law_draw := F_law_draw.binds (ps := ["pool", "span"]) fun _ _ _ _ _ _ us hl => match us, hl with | [_, _], _ => rfl
  have b_law_tate := F_law_tate.binds (ps := ["pool"]) fun _ _ _ _ _ _ us hl => match us, hl with | [_], _ => rfl
  have b_law_at := F_law_at.binds (ps := ["numbers_here", "one_here", "two_here"]) fun _ _ _ _ _ _ us hl => match us, hl with | [_, _, _], _ => rfl
  have b_law_form := F_law_form.binds (ps := ["numbers_here", "one_here"]) fun _ _ _ _ _ _ us hl => match us, hl with | [_, _], _ => rfl
  have b_law_five := F_law_five.binds (ps := ["numbers_here"]) fun _ _ _ _ _ _ us hl => match us, hl with | [_], _ => rfl
  have b_law_plain := F_law_plain.binds (ps := ["numbers_here"]) fun _ _ _ _ _ _ us hl => match us, hl with | [_], _ => rfl
  have b_law_is_straight := F_law_is_straight.binds (ps := ["numbers_here"]) fun _ _ _ _ _ _ us hl => match us, hl with | [_], _ => rfl
  have b_law_known := F_law_known.binds (ps := ["pool"]) fun _ _ _ _ _ _ us hl => match us, hl with | [_], _ => rfl
  have b_law_low := F_law_low.binds (ps := ["over", "under"]) fun _ _ _ _ _ _ us hl => match us, hl with | [_, _], _ => rfl
  have b_law_next := F_law_next.binds (ps := ["numbers_here", "left", "right"]) fun _ _ _ _ _ _ us hl => match us, hl with | [_, _, _], _ => rfl
  have b_law_chain := F_law_chain.binds (ps := ["numbers_here", "left", "right", "count_here"]) fun _ _ _ _ _ _ us hl => match us, hl with | [_, _, _, _], _ => rfl
  have b_law_start := F_law_start.binds (ps := ["pool"]) fun _ _ _ _ _ _ us hl => match us, hl with | [_], _ => rfl
  have b_invariants := F_invariants.binds (ps := ["quartic_numbers"]) fun _ _ _ _ _ _ us hl => match us, hl with | [_], _ => rfl
  have b_bend := F_bend.binds (ps := ["quartic_numbers"]) fun _ _ _ _ _ _ us hl => match us, hl with | [_], _ => rfl
  have b_without_divisor := F_without_divisor.binds (ps := ["numbers"]) fun _ _ _ _ _ _ us hl => match us, hl with | [_], _ => rfl
  have b_quartic_of := F_quartic_of.binds (ps := ["numbers"]) fun _ _ _ _ _ _ us hl => match us, hl with | [_], _ => rfl
  have b_Relation_init := F_Relation_init.binds (ps := ["self", "numbers"]) fun _ _ _ _ _ _ us hl => match us, hl with | [_, _], _ => rfl
  have b_law_made := F_law_made.binds (ps := ["numbers_here"]) fun _ _ _ _ _ _ us hl => match us, hl with | [_], _ => rfl
  have b_law_terms := F_law_terms.binds (ps := ["one_here", "two_here"]) fun _ _ _ _ _ _ us hl => match us, hl with | [_, _], _ => rfl
  have b_law_only := F_law_only.binds (ps := ["rows_here"]) fun _ _ _ _ _ _ us hl => match us, hl with | [_], _ => rfl
  have b_hessian := F_hessian.binds (ps := ["quartic_numbers"]) fun _ _ _ _ _ _ us hl => match us, hl with | [_], _ => rfl
  have b_numbers_at := F_numbers_at.binds (ps := ["quartic_numbers", "x"]) fun _ _ _ _ _ _ us hl => match us, hl with | [_, _], _ => rfl
  have b_Relation_numbers := F_Relation_numbers.binds (ps := ["self"]) fun _ _ _ _ _ _ us hl => match us, hl with | [_], _ => rfl
  have b_quartic := F_quartic.binds (ps := ["relation"]) fun _ _ _ _ _ _ us hl => match us, hl with | [_], _ => rfl
  have b_step := F_step.binds (ps := ["numbers"]) fun _ _ _ _ _ _ us hl => match us, hl with | [_], _ => rfl
  have b_is_whole := F_is_whole.binds (ps := ["value"]) fun _ _ _ _ _ _ us hl => match us, hl with | [_], _ => rfl
  have b_is_point := F_is_point.binds (ps := ["value"]) fun _ _ _ _ _ _ us hl => match us, hl with | [_], _ => rfl
  have b_check_point := F_check_point.binds (ps := ["point"]) fun _ _ _ _ _ _ us hl => match us, hl with | [_], _ => rfl
  have b_partner_equation := F_partner_equation.binds (ps := ["numbers", "point"]) fun _ _ _ _ _ _ us hl => match us, hl with | [_, _], _ => rfl
  have b_holds := F_holds.binds (ps := ["relation", "first", "second"]) fun _ _ _ _ _ _ us hl => match us, hl with | [_, _, _], _ => rfl
  have b_check_pair := F_check_pair.binds (ps := ["relation", "first", "second"]) fun _ _ _ _ _ _ us hl => match us, hl with | [_, _, _], _ => rfl
  have b_other_root := F_other_root.binds (ps := ["numbers", "point", "known"]) fun _ _ _ _ _ _ us hl => match us, hl with | [_, _, _], _ => rfl
  have b_lowest := F_lowest.binds (ps := ["top", "bottom"]) fun _ _ _ _ _ _ us hl => match us, hl with | [_, _], _ => rfl
  have b_other_partner := F_other_partner.binds (ps := ["numbers", "point", "known"]) fun _ _ _ _ _ _ us hl => match us, hl with | [_, _, _], _ => rfl
  have b_members := F_members.binds (ps := ["numbers", "first", "second", "length"]) fun _ _ _ _ _ _ us hl => match us, hl with | [_, _, _, _], _ => rfl
  have b_chain := F_chain.binds (ps := ["relation", "first", "second", "length"]) fun _ _ _ _ _ _ us hl => match us, hl with | [_, _, _, _], _ => rfl
  have b_multiples := F_multiples.binds (ps := ["relation"]) fun _ _ _ _ _ _ us hl => match us, hl with | [_], _ => rfl
  have b_step_numbers := F_step_numbers.binds (ps := ["relation", "number"]) fun _ _ _ _ _ _ us hl => match us, hl with | [_, _], _ => rfl
  have b_law_right := F_law_right.binds (ps := ["pool"]) fun _ _ _ _ _ _ us hl => match us, hl with | [_], _ => rfl
  have b_init := F_init.binds (ps := ["self", "value"]) fun _ _ _ _ _ _ us hl => match us, hl with | [_, _], _ => rfl
  refine ⟨PySem.W.fnOf "law" "law" (defArgs s_law) (defBody s_law) (defScope s_law) .none kV_law dc_law pm_law an_law cd_law ct_law, fun s v => .of_eq rfl, fun base _ _ NS => ?_⟩
  have O_init := ok_init (P := l.prog) (w := w) (mg := mg) (base := base) (q := q) F_init
  have O_law_pool := ok_law_pool (P := l.prog) (w := w) (mg := mg) (base := base) (a := a) (q := q) F_law_pool T
  have O_law_draw := ok_law_draw (P := l.prog) (w := w) (mg := mg) (base := base) (a := a) (q := q) F_law_draw T
  have O_law_tate := ok_law_tate (P := l.prog) (w := w) (mg := mg) (base := base) (a := a) (q := q) F_law_tate T O_law_draw b_law_draw
  have O_law_at := ok_law_at (P := l.prog) (w := w) (mg := mg) (base := base) (a := a) (q := q) F_law_at T
  have O_law_form := ok_law_form (P := l.prog) (w := w) (mg := mg) (base := base) (a := a) (q := q) F_law_form T O_law_at b_law_at
  have O_law_five := ok_law_five (P := l.prog) (w := w) (mg := mg) (base := base) (a := a) (q := q) F_law_five T O_law_form b_law_form
  have O_law_plain := ok_law_plain (P := l.prog) (w := w) (mg := mg) (base := base) (a := a) (q := q) F_law_plain T NS ht_tree
  have O_law_is_straight := ok_law_is_straight (P := l.prog) (w := w) (mg := mg) (base := base) (a := a) (q := q) F_law_is_straight T O_law_five b_law_five O_law_plain b_law_plain
  have O_law_known := ok_law_known (P := l.prog) (w := w) (mg := mg) (base := base) (a := a) (q := q) F_law_known T O_law_tate b_law_tate O_law_draw b_law_draw O_law_is_straight b_law_is_straight O_law_plain b_law_plain
  have O_law_low := ok_law_low (P := l.prog) (w := w) (mg := mg) (base := base) (a := a) (q := q) F_law_low T
  have O_law_next := ok_law_next (P := l.prog) (w := w) (mg := mg) (base := base) (a := a) (q := q) F_law_next T O_law_form b_law_form O_law_low b_law_low
  have O_law_chain := ok_law_chain (P := l.prog) (w := w) (mg := mg) (base := base) (a := a) (q := q) F_law_chain T O_law_next b_law_next
  have O_law_start := ok_law_start (P := l.prog) (w := w) (mg := mg) (base := base) (a := a) (q := q) F_law_start T O_law_draw b_law_draw O_law_low b_law_low O_law_at b_law_at O_law_is_straight b_law_is_straight O_law_plain b_law_plain O_law_known b_law_known O_law_chain b_law_chain
  have O_invariants := ok_invariants (P := l.prog) (w := w) (mg := mg) (base := base) (a := a) (q := q) F_invariants T
  have O_bend := ok_bend (P := l.prog) (w := w) (mg := mg) (base := base) (a := a) (q := q) F_bend T O_invariants b_invariants
  have O_without_divisor := ok_without_divisor (P := l.prog) (w := w) (mg := mg) (base := base) (a := a) (q := q) F_without_divisor T NS ht_tree
  have O_quartic_of := ok_quartic_of (P := l.prog) (w := w) (mg := mg) (base := base) (a := a) (q := q) F_quartic_of T
  have O_Relation_init := ok_Relation_init (P := l.prog) (w := w) (mg := mg) (base := base) (a := a) (q := q) F_Relation_init T O_init b_init O_bend b_bend O_quartic_of b_quartic_of O_without_divisor b_without_divisor
  have O_law_made := ok_law_made (P := l.prog) (w := w) (mg := mg) (base := base) (a := a) (q := q) F_law_made T O_Relation_init b_Relation_init
  have O_law_terms := ok_law_terms (P := l.prog) (w := w) (mg := mg) (base := base) (a := a) (q := q) F_law_terms T O_law_at b_law_at
  have O_law_only := ok_law_only (P := l.prog) (w := w) (mg := mg) (base := base) (a := a) (q := q) F_law_only T NS ht_tree O_law_plain b_law_plain
  have O_hessian := ok_hessian (P := l.prog) (w := w) (mg := mg) (base := base) (a := a) (q := q) F_hessian T
  have O_numbers_at := ok_numbers_at (P := l.prog) (w := w) (mg := mg) (base := base) (a := a) (q := q) F_numbers_at T O_hessian b_hessian O_invariants b_invariants
  have O_Relation_numbers := ok_Relation_numbers (P := l.prog) (w := w) (mg := mg) (base := base) (a := a) (q := q) F_Relation_numbers T
  have O_quartic := ok_quartic (P := l.prog) (w := w) (mg := mg) (base := base) (a := a) (q := q) F_quartic T O_quartic_of b_quartic_of O_Relation_numbers b_Relation_numbers
  have O_step := ok_step (P := l.prog) (w := w) (mg := mg) (base := base) (a := a) (q := q) F_step T
  have O_is_whole := ok_is_whole (P := l.prog) (w := w) (mg := mg) (base := base) (a := a) (q := q) F_is_whole T
  have O_is_point := ok_is_point (P := l.prog) (w := w) (mg := mg) (base := base) (a := a) (q := q) F_is_point T O_is_whole b_is_whole
  have O_check_point := ok_check_point (P := l.prog) (w := w) (mg := mg) (base := base) (a := a) (q := q) F_check_point T O_init b_init O_is_point b_is_point
  have O_partner_equation := ok_partner_equation (P := l.prog) (w := w) (mg := mg) (base := base) (a := a) (q := q) F_partner_equation T
  have O_holds := ok_holds (P := l.prog) (w := w) (mg := mg) (base := base) (a := a) (q := q) F_holds T O_check_point b_check_point O_partner_equation b_partner_equation O_Relation_numbers b_Relation_numbers
  have O_check_pair := ok_check_pair (P := l.prog) (w := w) (mg := mg) (base := base) (a := a) (q := q) F_check_pair T O_init b_init O_holds b_holds
  have O_other_root := ok_other_root (P := l.prog) (w := w) (mg := mg) (base := base) (a := a) (q := q) F_other_root T O_partner_equation b_partner_equation
  have O_lowest := ok_lowest (P := l.prog) (w := w) (mg := mg) (base := base) (a := a) (q := q) F_lowest T O_init b_init NS ht_tree
  have O_other_partner := ok_other_partner (P := l.prog) (w := w) (mg := mg) (base := base) (a := a) (q := q) F_other_partner T O_other_root b_other_root O_lowest b_lowest
  have O_members := ok_members (P := l.prog) (w := w) (mg := mg) (base := base) (a := a) (q := q) F_members T O_other_partner b_other_partner
  have O_chain := ok_chain (P := l.prog) (w := w) (mg := mg) (base := base) (a := a) (q := q) F_chain T O_init b_init O_check_pair b_check_pair O_members b_members O_Relation_numbers b_Relation_numbers
  have O_multiples := ok_multiples (P := l.prog) (w := w) (mg := mg) (base := base) (a := a) (q := q) F_multiples T O_invariants b_invariants O_quartic b_quartic O_step b_step O_Relation_numbers b_Relation_numbers O_Relation_init b_Relation_init O_chain b_chain
  have O_step_numbers := ok_step_numbers (P := l.prog) (w := w) (mg := mg) (base := base) (a := a) (q := q) F_step_numbers T O_init b_init O_without_divisor b_without_divisor O_numbers_at b_numbers_at O_quartic b_quartic O_multiples b_multiples
  have O_law_right := ok_law_right (P := l.prog) (w := w) (mg := mg) (base := base) (a := a) (q := q) F_law_right T O_law_start b_law_start O_law_draw b_law_draw O_law_made b_law_made O_law_chain b_law_chain O_law_only b_law_only O_law_terms b_law_terms O_step_numbers b_step_numbers
  have O_law := ok_law (P := l.prog) (w := w) (mg := mg) (base := base) (a := a) (q := q) F_law T O_law_pool b_law_pool O_law_right b_law_right
  exact FnG.law (G := ⟨K, c_Relation, []⟩) (FnG.ofOk O_law) (fun ns hl => ⟨ns, rfl, hl, fun _ => rfl⟩)
end DL
open PySem PySem.W PyProof.Rows in
set_option maxRecDepth 100000 in
set_option maxHeartbeats 0 in
theorem PySem.Challenge.cw_closechains_k25_steps_by_rows_holds : PySem.Challenge.rw_closechains_k25_steps_by_rows.Holds := by
  w_on; o_law; k_head; (case hw => w_witness2)
  k_fill
  refine DL.walkGS (l := PySem.Challenge.rw_closechains_k25_steps_by_rows) (n := 63) (k := 45) (x := "script") (sp := fun w => DL.spLaw (_ : PySem.W.Frag) []) rfl (by decide) (by decide +kernel) rfl ⟨rfl, by decide, by decide⟩ (fun w h Y => PySem.W.kIn_of Y) ?F (fun _ _ a ns hl _ hS => DL.spLaw_want hl hS)
  case F =>
    intro w mg fa h KX G hmg
    refine' DL.all_mk KX G hmg ?a_Bent ?a_ENDLESS ?a_InvalidNumber ?a_InvalidPoint ?a_NotPair ?a_Relation ?a_MOST_STEPS ?a_law_pool ?l_law_pool ?cc_law_pool ?k_law_pool ?a_law_draw ?l_law_draw ?cc_law_draw ?k_law_draw ?a_law_tate ?l_law_tate ?cc_law_tate ?k_law_tate ?a_law_at ?l_law_at ?cc_law_at ?k_law_at ?a_law_form ?l_law_form ?cc_law_form ?k_law_form ?a_law_five ?l_law_five ?cc_law_five ?k_law_five ?a_law_plain ?l_law_plain ?cc_law_plain ?k_law_plain ?a_law_is_straight ?l_law_is_straight ?cc_law_is_straight ?k_law_is_straight ?a_law_known ?l_law_known ?cc_law_known ?k_law_known ?a_law_low ?l_law_low ?cc_law_low ?k_law_low ?a_law_next ?l_law_next ?cc_law_next ?k_law_next ?a_law_chain ?l_law_chain ?cc_law_chain ?k_law_chain ?a_law_start ?l_law_start ?cc_law_start ?k_law_start ?a_invariants ?l_invariants ?cc_invariants ?k_invariants ?a_bend ?l_bend ?cc_bend ?k_bend ?a_without_divisor ?l_without_divisor ?cc_without_divisor ?k_without_divisor ?a_quartic_of ?l_quartic_of ?cc_quartic_of ?k_quartic_of ?a_Relation_init ?if_Relation_init ?l_Relation_init ?cc_Relation_init ?k_Relation_init ?a_law_made ?l_law_made ?cc_law_made ?k_law_made ?a_law_terms ?l_law_terms ?cc_law_terms ?k_law_terms ?a_law_only ?l_law_only ?cc_law_only ?k_law_only ?a_hessian ?l_hessian ?cc_hessian ?k_hessian ?a_numbers_at ?l_numbers_at ?cc_numbers_at ?k_numbers_at ?pp_at ?pp_get ?pp_tak ?pp_rec ?l_Relation_numbers ?cc_Relation_numbers ?k_Relation_numbers ?a_quartic ?l_quartic ?cc_quartic ?k_quartic ?a_step ?l_step ?cc_step ?k_step ?a_is_whole ?l_is_whole ?cc_is_whole ?k_is_whole ?a_is_point ?l_is_point ?cc_is_point ?k_is_point ?a_check_point ?l_check_point ?cc_check_point ?k_check_point ?a_partner_equation ?l_partner_equation ?cc_partner_equation ?k_partner_equation ?a_holds ?l_holds ?cc_holds ?k_holds ?a_check_pair ?l_check_pair ?cc_check_pair ?k_check_pair ?a_other_root ?l_other_root ?cc_other_root ?k_other_root ?a_lowest ?l_lowest ?cc_lowest ?k_lowest ?a_other_partner ?l_other_partner ?cc_other_partner ?k_other_partner ?a_members ?l_members ?cc_members ?k_members ?a_chain ?l_chain ?cc_chain ?k_chain ?a_multiples ?l_multiples ?cc_multiples ?k_multiples ?a_step_numbers ?l_step_numbers ?cc_step_numbers ?k_step_numbers ?a_law_right ?l_law_right ?cc_law_right ?k_law_right ?a_law ?l_law ?cc_law ?k_law ?i_Bent ?i_InvalidNumber ?i_InvalidPoint ?i_NotPair ?ti ?l_init ?cc_init ?k_init ?n_abs ?n_bool ?n_enumerate ?n_int ?n_isinstance ?n_len ?n_list ?n_max ?n_min ?n_range ?n_sum ?n_tuple ?n_zip ?x_gcd ?ek_Bent ?ev_Bent ?esa_Bent ?ex_Bent ?et_Bent ?ec_Bent ?en_Bent ?eg_Bent ?eh_Bent ?ed_Bent ?ea_Bent ?em_Bent ?ek_InvalidNumber ?ev_InvalidNumber ?esa_InvalidNumber ?ex_InvalidNumber ?et_InvalidNumber ?ec_InvalidNumber ?en_InvalidNumber ?eg_InvalidNumber ?eh_InvalidNumber ?ed_InvalidNumber ?ea_InvalidNumber ?em_InvalidNumber ?ek_InvalidPoint ?ev_InvalidPoint ?esa_InvalidPoint ?ex_InvalidPoint ?et_InvalidPoint ?ec_InvalidPoint ?en_InvalidPoint ?eg_InvalidPoint ?eh_InvalidPoint ?ed_InvalidPoint ?ea_InvalidPoint ?em_InvalidPoint ?ek_NotPair ?ev_NotPair ?esa_NotPair ?ex_NotPair ?et_NotPair ?ec_NotPair ?en_NotPair ?eg_NotPair ?eh_NotPair ?ed_NotPair ?ea_NotPair ?em_NotPair ?esp ?eta ?rc_pg ?rc_hd ?rc_po ?rc_sa ?rm_mk ?rm_kp ?rn_no ?l_ENDLESS ?o_ENDLESS ?ht_tree
    (case a_Bent => k_is)
    (case a_ENDLESS => k_is)
    (case a_InvalidNumber => k_is)
    (case a_InvalidPoint => k_is)
    (case a_NotPair => k_is)
    (case a_Relation => k_is)
    (case a_MOST_STEPS => k_is)
    (case a_law_pool => k_is)
    (case l_law_pool => k_is)
    (case cc_law_pool => k_is)
    (case k_law_pool => k_is)
    (case a_law_draw => k_is)
    (case l_law_draw => k_is)
    (case cc_law_draw => k_is)
    (case k_law_draw => k_is)
    (case a_law_tate => k_is)
    (case l_law_tate => k_is)
    (case cc_law_tate => k_is)
    (case k_law_tate => k_is)
    (case a_law_at => k_is)
    (case l_law_at => k_is)
    (case cc_law_at => k_is)
    (case k_law_at => k_is)
    (case a_law_form => k_is)
    (case l_law_form => k_is)
    (case cc_law_form => k_is)
    (case k_law_form => k_is)
    (case a_law_five => k_is)
    (case l_law_five => k_is)
    (case cc_law_five => k_is)
    (case k_law_five => k_is)
    (case a_law_plain => k_is)
    (case l_law_plain => k_is)
    (case cc_law_plain => k_is)
    (case k_law_plain => k_is)
    (case a_law_is_straight => k_is)
    (case l_law_is_straight => k_is)
    (case cc_law_is_straight => k_is)
    (case k_law_is_straight => k_is)
    (case a_law_known => k_is)
    (case l_law_known => k_is)
    (case cc_law_known => k_is)
    (case k_law_known => k_is)
    (case a_law_low => k_is)
    (case l_law_low => k_is)
    (case cc_law_low => k_is)
    (case k_law_low => k_is)
    (case a_law_next => k_is)
    (case l_law_next => k_is)
    (case cc_law_next => k_is)
    (case k_law_next => k_is)
    (case a_law_chain => k_is)
    (case l_law_chain => k_is)
    (case cc_law_chain => k_is)
    (case k_law_chain => k_is)
    (case a_law_start => k_is)
    (case l_law_start => k_is)
    (case cc_law_start => k_is)
    (case k_law_start => k_is)
    (case a_invariants => k_is)
    (case l_invariants => k_is)
    (case cc_invariants => k_is)
    (case k_invariants => k_is)
    (case a_bend => k_is)
    (case l_bend => k_is)
    (case cc_bend => k_is)
    (case k_bend => k_is)
    (case a_without_divisor => k_is)
    (case l_without_divisor => k_is)
    (case cc_without_divisor => k_is)
    (case k_without_divisor => k_is)
    (case a_quartic_of => k_is)
    (case l_quartic_of => k_is)
    (case cc_quartic_of => k_is)
    (case k_quartic_of => k_is)
    (case a_Relation_init => k_is)
    (case if_Relation_init => k_is)
    (case l_Relation_init => k_is)
    (case cc_Relation_init => k_is)
    (case k_Relation_init => k_is)
    (case a_law_made => k_is)
    (case l_law_made => k_is)
    (case cc_law_made => k_is)
    (case k_law_made => k_is)
    (case a_law_terms => k_is)
    (case l_law_terms => k_is)
    (case cc_law_terms => k_is)
    (case k_law_terms => k_is)
    (case a_law_only => k_is)
    (case l_law_only => k_is)
    (case cc_law_only => k_is)
    (case k_law_only => k_is)
    (case a_hessian => k_is)
    (case l_hessian => k_is)
    (case cc_hessian => k_is)
    (case k_hessian => k_is)
    (case a_numbers_at => k_is)
    (case l_numbers_at => k_is)
    (case cc_numbers_at => k_is)
    (case k_numbers_at => k_is)
    (case pp_at => k_is)
    (case pp_get => k_is)
    (case pp_tak => k_is)
    (case pp_rec => k_is)
    (case l_Relation_numbers => k_is)
    (case cc_Relation_numbers => k_is)
    (case k_Relation_numbers => k_is)
    (case a_quartic => k_is)
    (case l_quartic => k_is)
    (case cc_quartic => k_is)
    (case k_quartic => k_is)
    (case a_step => k_is)
    (case l_step => k_is)
    (case cc_step => k_is)
    (case k_step => k_is)
    (case a_is_whole => k_is)
    (case l_is_whole => k_is)
    (case cc_is_whole => k_is)
    (case k_is_whole => k_is)
    (case a_is_point => k_is)
    (case l_is_point => k_is)
    (case cc_is_point => k_is)
    (case k_is_point => k_is)
    (case a_check_point => k_is)
    (case l_check_point => k_is)
    (case cc_check_point => k_is)
    (case k_check_point => k_is)
    (case a_partner_equation => k_is)
    (case l_partner_equation => k_is)
    (case cc_partner_equation => k_is)
    (case k_partner_equation => k_is)
    (case a_holds => k_is)
    (case l_holds => k_is)
    (case cc_holds => k_is)
    (case k_holds => k_is)
    (case a_check_pair => k_is)
    (case l_check_pair => k_is)
    (case cc_check_pair => k_is)
    (case k_check_pair => k_is)
    (case a_other_root => k_is)
    (case l_other_root => k_is)
    (case cc_other_root => k_is)
    (case k_other_root => k_is)
    (case a_lowest => k_is)
    (case l_lowest => k_is)
    (case cc_lowest => k_is)
    (case k_lowest => k_is)
    (case a_other_partner => k_is)
    (case l_other_partner => k_is)
    (case cc_other_partner => k_is)
    (case k_other_partner => k_is)
    (case a_members => k_is)
    (case l_members => k_is)
    (case cc_members => k_is)
    (case k_members => k_is)
    (case a_chain => k_is)
    (case l_chain => k_is)
    (case cc_chain => k_is)
    (case k_chain => k_is)
    (case a_multiples => k_is)
    (case l_multiples => k_is)
    (case cc_multiples => k_is)
    (case k_multiples => k_is)
    (case a_step_numbers => k_is)
    (case l_step_numbers => k_is)
    (case cc_step_numbers => k_is)
    (case k_step_numbers => k_is)
    (case a_law_right => k_is)
    (case l_law_right => k_is)
    (case cc_law_right => k_is)
    (case k_law_right => k_is)
    (case a_law => k_is)
    (case l_law => k_is)
    (case cc_law => k_is)
    (case k_law => k_is)
    (case i_Bent => k_is)
    (case i_InvalidNumber => k_is)
    (case i_InvalidPoint => k_is)
    (case i_NotPair => k_is)
    (case ti => k_is)
    (case l_init => k_is)
    (case cc_init => k_is)
    (case k_init => k_is)
    (case n_abs => k_is)
    (case n_bool => k_is)
    (case n_enumerate => k_is)
    (case n_int => k_is)
    (case n_isinstance => k_is)
    (case n_len => k_is)
    (case n_list => k_is)
    (case n_max => k_is)
    (case n_min => k_is)
    (case n_range => k_is)
    (case n_sum => k_is)
    (case n_tuple => k_is)
    (case n_zip => k_is)
    (case x_gcd => k_is)
    (case ek_Bent => k_is)
    (case ev_Bent => exact (by decide +kernel))
    (case esa_Bent => k_is)
    (case ex_Bent => k_is)
    (case et_Bent => k_is)
    (case ec_Bent => k_is)
    (case en_Bent => k_is)
    (case eg_Bent => k_is)
    (case eh_Bent => k_is)
    (case ed_Bent => k_is)
    (case ea_Bent => k_is)
    (case em_Bent => k_is)
    (case ek_InvalidNumber => k_is)
    (case ev_InvalidNumber => exact (by decide +kernel))
    (case esa_InvalidNumber => k_is)
    (case ex_InvalidNumber => k_is)
    (case et_InvalidNumber => k_is)
    (case ec_InvalidNumber => k_is)
    (case en_InvalidNumber => k_is)
    (case eg_InvalidNumber => k_is)
    (case eh_InvalidNumber => k_is)
    (case ed_InvalidNumber => k_is)
    (case ea_InvalidNumber => k_is)
    (case em_InvalidNumber => k_is)
    (case ek_InvalidPoint => k_is)
    (case ev_InvalidPoint => exact (by decide +kernel))
    (case esa_InvalidPoint => k_is)
    (case ex_InvalidPoint => k_is)
    (case et_InvalidPoint => k_is)
    (case ec_InvalidPoint => k_is)
    (case en_InvalidPoint => k_is)
    (case eg_InvalidPoint => k_is)
    (case eh_InvalidPoint => k_is)
    (case ed_InvalidPoint => k_is)
    (case ea_InvalidPoint => k_is)
    (case em_InvalidPoint => k_is)
    (case ek_NotPair => k_is)
    (case ev_NotPair => exact (by decide +kernel))
    (case esa_NotPair => k_is)
    (case ex_NotPair => k_is)
    (case et_NotPair => k_is)
    (case ec_NotPair => k_is)
    (case en_NotPair => k_is)
    (case eg_NotPair => k_is)
    (case eh_NotPair => k_is)
    (case ed_NotPair => k_is)
    (case ea_NotPair => k_is)
    (case em_NotPair => k_is)
    (case esp => k_is)
    (case eta => k_is)
    (case rc_pg => k_is)
    (case rc_hd => k_is)
    (case rc_po => k_is)
    (case rc_sa => k_is)
    (case rm_mk => k_is)
    (case rm_kp => k_is)
    (case rn_no => k_is)
    (case l_ENDLESS => k_is)
    (case o_ENDLESS => exact rfl)
    (case ht_tree => rfl)

